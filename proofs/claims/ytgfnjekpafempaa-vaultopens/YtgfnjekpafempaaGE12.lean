/- The document's heads and rooms. -/
import Derived.Test.YtgfnjekpafempaaGE11
import Derived.Test.YtgfnjekpafempaaGAb
namespace Go.Proofs.Ytgfnjekpafempaa
set_option maxHeartbeats 4000000
set_option maxRecDepth 100000
open Go.RowKit
def cutA (ao : Option Addr) (cap i : Nat) : Option Addr := if cap = i then ao else ao.map (·.add i)
theorem Zj {o : Oper} {A : Act} (x y z : Operand) (ho : o.op = .slice 30 x (some y) (some z) none) (ao : Option Addr) (n cap i m : Nat) (hx : A.eval x = .slice ao n cap) (hy : A.eval y = .int .i64 (i : Int)) (hz : A.eval z = .int .i64 ((i + m : Nat) : Int)) (hj : i + m ≤ cap) (w : World) :
    (execOp A.eval o).run Try.prog w = .ok (.value (.slice (cutA ao cap i) m (cap - i))) w := by
  rw [Zk bT x y z ho ao n cap i (i + m) hx hy hz (by omega) hj w, Nat.add_sub_cancel_left]
  rfl
theorem uQ {o : Oper} {A : Act} (x y : Operand) (ho : o.op = .slice 30 x (some y) none none) (ao : Option Addr) (n cap i : Nat) (hx : A.eval x = .slice ao n cap) (hy : A.eval y = .int .i64 (i : Int)) (hi : i ≤ n) (w : World) :
    (execOp A.eval o).run Try.prog w = .ok (.value (.slice (cutA ao cap i) (n - i) (cap - i))) w := uR bT x y ho ao n cap i hx hy hi w
theorem NC.cutS {w : World} {ao : Option Addr} {cap : Nat} {L : List Nat} (h : NC w .u8 ao cap L) (i m : Nat) (hi : i ≤ L.length) (hm : m ≤ L.length - i) : NC w .u8 (cutA ao cap i) (cap - i) ((L.drop i).take m) := (h.drop i hi).take m (by rw [List.length_drop]; exact hm)
theorem NC.cutE {w : World} {ao : Option Addr} {cap : Nat} {L : List Nat} (h : NC w .u8 ao cap L) (i : Nat) (hi : i ≤ L.length) : NC w .u8 (cutA ao cap i) (cap - i) (L.drop i) := h.drop i hi
theorem Qq {P : Program} {o : Oper} {A : Act} (t t2 : TypeId) (x y : Operand) (ho : o.op = .binOp .mul t x y t2) (a b : Nat) (hx : A.eval x = .int .u64 (a : Int)) (hy : A.eval y = .int .u64 (b : Int)) (h : a * b < lim) (w : World) : (execOp A.eval o).run P w = .ok (.value (.int .u64 ((a * b : Nat) : Int))) w := by
  refine jD .mul t x y t2 ho _ _ _ hx hy (by simp [eqGuard]) ?_
  have e : IntKind.u64.wrap ((a : Int) * (b : Int)) = ((a * b : Nat) : Int) := by
    have h2 : lim = 18446744073709551616 := rfl
    rw [← Int.natCast_mul]
    simp only [IntKind.wrap, IntKind.bits, IntKind.signed]
    generalize a * b = c at *
    simp
    omega
  show (Op.intArith .mul .u64 (a : Int) (b : Int)).run P w = _
  unfold Op.intArith
  simp only [Sem.run_pure]
  exact congrArg (fun z => Result.ok (Value.int .u64 z) w) e
def bestE (L : List Nat) : Nat → Hd
  | 0 => ⟨0, 0, 0⟩
  | k + 1 => if (bestE L k).g < (hdE (secL L k)).g then hdE (secL L k) else bestE L k
theorem hdE_0 {s : List Nat} (h : (hdE s).g = 0) : hdE s = ⟨0, 0, 0⟩ := by
  unfold hdE at *
  cases hz : zerosB s
  · rfl
  · rw [hz, cond_true] at h
    rw [cond_true]
    split
    · rfl
    · rename_i h1
      rw [if_neg h1] at h
      exact absurd h h1
theorem best_2 (L : List Nat) : bestE L 2 = cntE L := by
  have h1 : bestE L 1 = hdE (secL L 0) := by
    show (if 0 < (hdE (secL L 0)).g then hdE (secL L 0) else ⟨0, 0, 0⟩) = _
    split
    · rfl
    · rw [hdE_0 (by omega)]
  show (if (bestE L 1).g < (hdE (secL L 1)).g then hdE (secL L 1) else bestE L 1) = _
  rw [h1, cntE]
theorem jbx {L : List Nat} {k : Nat} (hz : zerosB (secL L k) = true) (h : (bestE L k).g < nm (secL L k) 0) : bestE L (k + 1) = ⟨nm (secL L k) 0, nm (secL L k) 1, nm (secL L k) 2⟩ := by
  have h1 := UP hz (by omega)
  show (if (bestE L k).g < (hdE (secL L k)).g then hdE (secL L k) else bestE L k) = _
  rw [h1, if_pos h]
theorem Qa {L : List Nat} {k : Nat} (h : (hdE (secL L k)).g ≤ (bestE L k).g) : bestE L (k + 1) = bestE L k := by
  show (if (bestE L k).g < (hdE (secL L k)).g then hdE (secL L k) else bestE L k) = _
  rw [if_neg (by omega)]
theorem hd_le {s : List Nat} : (hdE s).g ≤ nm s 0 := by
  unfold hdE
  cases zerosB s
  · exact Nat.zero_le _
  · rw [cond_true]
    split
    · exact Nat.zero_le _
    · exact Nat.le_refl _
theorem hd_f {s : List Nat} (h : zerosB s = false) : (hdE s).g = 0 := by unfold hdE; rw [h]; rfl
theorem zv116 (w : World) : (zeroValue 116).run Try.prog w = .ok (.agg (c119 0 0 0)) w := by kernel_rfl
theorem vJ {o : Oper} {A : Act} (x y : Operand) (ho : o.op = .indexAddr 116 x y) (g j : Nat) (hx : A.eval x = .pointer (some ⟨g, 0, none⟩)) (hy : A.eval y = .int .i64 (j : Int)) (hj : j < 3) (w : World) : (execOp A.eval o).run Try.prog w = .ok (.value (.pointer (some ⟨g, j, none⟩))) w := by
  have h : (Instr.indexAt 116 (.pointer (some ⟨g, 0, none⟩)) (.int .i64 (j : Int))).run Try.prog w = .ok (.pointer (some ⟨g, j, none⟩)) w := by
    rcases (by omega : j = 0 ∨ j = 1 ∨ j = 2) with rfl | rfl | rfl <;> kernel_rfl
  unfold execOp
  simp only [ho, hx, hy, Sem.run_bind, h, Result.andThen_ok, Sem.run_pure]
theorem secS {L : List Nat} {k : Nat} : (L.drop (64 * k)).take 64 = secL L k := by rw [secL, Nat.mul_comm]
theorem Kh {s : List Nat} (hs : s.length = 64) (h : ∀ x, 24 ≤ x → x < 64 → s.getD x 0 = 0) : zerosB s = true := (vr hs).2 fun i hi => h (24 + i) (by omega) (by omega)
theorem Qc {s : List Nat} (hs : s.length = 64) (h : ¬ ∀ x, 24 ≤ x → x < 64 → s.getD x 0 = 0) : zerosB s = false := by
  cases hz : zerosB s
  · rfl
  · refine absurd (fun x h1 h2 => ?_) h
    have := (vr hs).1 hz (x - 24) (by omega)
    rwa [show 24 + (x - 24) = x by omega] at this
structure MK (w : World) (mp rp : Nat) (h : Hd) (dw : Bool) : Prop where
  box : w.heap[mp]? = some (.cells (c79 (some ⟨rp, 0, none⟩) (h.g : Int) (h.u : Int) (h.c : Int) dw) 79 (0, 0))
theorem MK.gro {w w' : World} {lp p : Nat} {h : Hd} {dw : Bool} (H : MK w lp p h dw) (G : Gro w w') : MK w' lp p h dw := ⟨G.has H.box⟩
theorem MK.gros {S : List Nat} {w w' : World} {lp p : Nat} {h : Hd} {dw : Bool} (H : MK w lp p h dw) (G : GroS S w w') (hs : lp ∉ S) : MK w' lp p h dw := ⟨G.has H.box hs⟩
theorem uU (w : World) (ao : Option Addr) (cap : Nat) (l : List Nat) (hm : l.length ≤ 140737488355328) : Calls Try.prog 33 #[.slice ao l.length cap] w fun e w' => e = .returned (nK (secN l.length)) ∧ Gro w w' := by
  refine js Try.func33 rfl Try.ntmps33 [.slice ao l.length cap] [.slice ao l.length cap, uD, uD, uD, uD, uD, uD, uD] rfl ?_
  have GG := Gro.refl w
  refine qS ?_
  refine ja 2 rfl rfl (iK 0) (rfl) ?_
  refine nr ?_; intro U h; simp only [z0, z1] at h; subst h
  refine qA ?_
  refine ja 3 rfl rfl (.slice ao l.length cap) (rfl) ?_
  refine ja 4 rfl rfl (nK l.length) (jA Try.underlying30 _ rfl _ _ _ rfl _) ?_
  refine ja 5 rfl rfl (nK (l.length + 2)) (jp _ _ _ rfl ((l.length : Nat) : Int) 2 _ rfl rfl (by omega) (by omega) (by omega) _) ?_
  refine ja 6 rfl rfl (nK (l.length + 65)) (jp _ _ _ rfl ((l.length + 2 : Nat) : Int) 63 _ rfl rfl (by omega) (by omega) (by omega) _) ?_
  refine ja 7 rfl rfl (nK (secN l.length)) (zp _ _ _ rfl ((l.length + 65 : Nat) : Int) 64 _ rfl rfl (by decide) (tdivN _ 64) (by omega) (by omega) _) ?_
  refine ja 2 rfl rfl (nK (secN l.length)) (rfl) ?_
  refine nr ?_; intro U h; simp only [z0, z1] at h; subst h
  refine qL (qR ?_)
  refine bodyPost_ret (results_tmp Try.results33 _ _ _) rfl ?_
  exact ⟨rfl, GG⟩
theorem ZK (w : World) (mp rp : Nat) (h : Hd) (dw : Bool) (HM : MK w mp rp h dw) (B : Nat) (ro : Option Addr) (rc n : Nat) (L : List Nat) (pw dn : Int) (HR : QK w rp B ro rc n L pw dn) (hu : h.u + 2 ≤ n) : Calls Try.prog 34 #[vP mp 0] w fun e w' => e = .returned (nK (n - 2 - h.u)) ∧ Gro w w' := by
  refine js Try.func34 rfl Try.ntmps34 [vP mp 0] [vP mp 0, uD, uD, uD, uD, uD, uD, uD, uD, uD, uD, uD, uD, uD, uD, uD, uD, uD] rfl ?_
  have GG := Gro.refl w
  have kmp := HM.box
  have krp := HR.box
  have hn4 := HR.le
  refine qS ?_
  refine ja 2 rfl rfl (iK 0) (rfl) ?_
  refine nr ?_; intro U h; simp only [z0, z1] at h; subst h
  refine qL (qE ?_)
  refine jl (A := ?Ax1) 14 [(0, 3), (1, 4), (2, 5), (3, 6), (4, 7), (5, 8), (6, 9), (7, 10), (8, 11), (9, 12), (10, 13), (11, 14), (12, 15), (13, 16)] [.val (vP mp 0), .val (vP mp 0), .val (vP mp 0), .val (vP rp 0), .val (vP rp 0), .val (vP rp 0), .val (.slice ro (n * 64) rc), .val (nK (n * 64)), .val (nK n), .val (nK (n - 2)), .val (vP mp 0), .val (vP mp 0), .val (vP mp 2), .val (nK h.u)] follows (by kernel_rfl) rfl ?hAx1 (jb ?o0x1 (jb ?o1x1 (jb ?o2x1 (jb ?o3x1 (jb ?o4x1 (jb ?o5x1 (jb ?o6x1 (jb ?o7x1 (jb ?o8x1 (jb ?o9x1 (jb ?o10x1 (jb ?o11x1 (jb ?o12x1 (jb ?o13x1 jF)))))))))))))) ?restx1
  case hAx1 =>
    intro ptrs
    simp only [full, foldSlots, filledE, postE, List.foldl_cons, List.foldl_nil, List.getD_cons_zero, List.getD_cons_succ, jI, List.set_cons_zero, List.set_cons_succ]
    exact rfl
  case o0x1 => exact fun _ _ _ _ => jg (v := vP mp 0) _ rfl rfl rfl
  case o1x1 => exact fun _ _ hw _ => jd (v := vP mp 0) rfl (jn _ rfl _ rfl)
  case o2x1 => exact fun _ _ hw _ => jd (v := vP mp 0) rfl (jf 79 _ 0 rfl _ _ rfl _ (by kernel_rfl))
  case o3x1 => exact fun _ _ hw _ => jd (v := vP rp 0) rfl (jq 23 _ rfl mp 0 rfl 79 _ (hw.has kmp) (na23 _) _ rfl)
  case o4x1 => exact fun _ _ hw _ => jd (v := vP rp 0) rfl (jn _ rfl _ rfl)
  case o5x1 => exact fun _ _ hw _ => jd (v := vP rp 0) rfl (jf 36 _ 0 rfl _ _ rfl _ (by kernel_rfl))
  case o6x1 => exact fun _ _ hw _ => jd (v := .slice ro (n * 64) rc) rfl (jq 30 _ rfl rp 0 rfl 36 _ (hw.has krp) (na30 _) _ rfl)
  case o7x1 => exact fun _ _ hw _ => jd (v := nK (n * 64)) rfl (jA Try.underlying30 _ rfl _ _ _ rfl _)
  case o8x1 => exact fun _ _ hw _ => jd (v := nK n) rfl (zp _ _ _ rfl ((n * 64 : Nat) : Int) 64 _ rfl rfl (by decide) quoN (by omega) (by omega) _)
  case o9x1 => exact fun _ _ hw _ => jd (v := nK (n - 2)) rfl (jR _ _ _ rfl ((n : Nat) : Int) 2 _ rfl rfl (by omega) (by omega) (by omega) _)
  case o10x1 => exact fun _ _ _ _ => jg (v := vP mp 0) _ rfl rfl rfl
  case o11x1 => exact fun _ _ hw _ => jd (v := vP mp 0) rfl (jn _ rfl _ rfl)
  case o12x1 => exact fun _ _ hw _ => jd (v := vP mp 2) rfl (jf 79 _ 2 rfl _ _ rfl _ (by kernel_rfl))
  case o13x1 => exact fun _ _ hw _ => jd (v := nK h.u) rfl (jq 3 _ rfl mp 2 rfl 79 _ (hw.has kmp) (na3 _) _ rfl)
  intro ptrs w1 GD hxE
  simp only [List.drop_succ_cons, List.drop_zero]
  replace kmp := GD.has kmp
  replace krp := GD.has krp
  replace GG := GG.drew.trans GD
  clear GD
  refine ja 17 rfl rfl (nK (n - 2 - h.u)) (jR _ _ _ rfl ((n - 2 : Nat) : Int) ((h.u : Nat) : Int) _ rfl rfl (by omega) (by omega) (by omega) _) ?_
  refine ja 2 rfl rfl (nK (n - 2 - h.u)) (rfl) ?_
  refine nr ?_; intro U h; simp only [z0, z1] at h; subst h
  refine qL (qR ?_)
  refine bodyPost_ret (results_tmp Try.results34 _ _ _) rfl ?_
  exact ⟨rfl, GG⟩
theorem vM (w : World) (ao : Option Addr) (cap : Nat) (l : List Nat) (HN : NC w .u8 ao cap l) (m : Nat) (hm : l.length = m) (h8 : 8 ≤ m) : Calls Try.prog 58 #[.slice ao m cap] w fun e w' => e = .returned (.int .u64 ((valL (l.take 8) : Nat) : Int)) ∧ Gro w w' := by
  refine js Try.func58 rfl Try.ntmps58 [.slice ao m cap] [.slice ao m cap, uD, uD, uD, uD, uD, uD, uD, uD, uD, uD, uD, uD, uD, uD, uD, uD, uD] rfl ?_
  have GG := Gro.refl w
  have hlim : lim = 18446744073709551616 := rfl
  have hb := HN.lt256
  refine qS ?_
  refine ja 2 rfl rfl (.int .u64 0) (rfl) ?_
  refine nr ?_; intro U h; simp only [z0, z1] at h; subst h
  refine qA ?_
  refine ja 3 rfl rfl (.int .u64 0) (rfl) ?_
  refine nr ?_; intro U h; simp only [z0, z1] at h; subst h
  refine qL (qE (qS ?_))
  refine ja 4 rfl rfl (iK 0) (rfl) ?_
  refine nr ?_; intro U h; simp only [z0, z1] at h; subst h
  refine qL (qB ?_)
  refine jV (fun mz az wv => ∃ (j : Nat) (us1 : Nat → Value), mz = 8 - j ∧ az = ⟨[.slice ao m cap, uD, .int .u64 0, .int .u64 ((valL (l.take j) : Nat) : Int), nK j, us1 0, us1 1, us1 2, us1 3, us1 4, us1 5, us1 6, us1 7, us1 8, us1 9, us1 10, us1 11, uD].toArray, []⟩ ∧ j ≤ 8 ∧ Gro w wv) ?_ _ ⟨0, (fun kz => ([uD, uD, uD, uD, uD, uD, uD, uD, uD, uD, uD, uD] : List Value).getD kz uD), rfl, rfl, Nat.zero_le _, GG⟩
  clear GG
  rintro mz az wv ⟨j, us1, rfl, rfl, hj, GG⟩
  refine qE (qS ?_)
  refine ja 5 rfl rfl (nK j) (rfl) ?_
  refine nr ?_; intro U h; simp only [z0, z1] at h; subst h
  obtain ⟨p1, hp1⟩ : ∃ p, decide (((j : Nat) : Int) < 8) = p := ⟨_, rfl⟩
  refine ja 6 rfl rfl (.bool p1) (jE 3 _ _ _ rfl ((j : Nat) : Int) 8 rfl rfl p1 hp1 _) ?_
  refine nr ?_; intro U h; simp only [z0, z1] at h; subst h
  cases p1
  have hjn : j = 8 := by have := of_decide_eq_false hp1; omega
  refine qL (qF rfl (wp_exit (jL (jL (zC (jG (qS ?_)))))))
  refine ja 17 rfl rfl (.int .u64 ((valL (l.take j) : Nat) : Int)) (rfl) ?_
  refine ja 2 rfl rfl (.int .u64 ((valL (l.take j) : Nat) : Int)) (rfl) ?_
  refine nr ?_; intro U h; simp only [z0, z1] at h; subst h
  refine qL (qR ?_)
  refine bodyPost_ret (results_tmp Try.results58 _ _ _) rfl ?_
  subst hjn
  exact ⟨rfl, GG⟩
  have hjn : j < 8 := by have := of_decide_eq_true hp1; omega
  obtain ⟨ad, hao, _⟩ := HN.at (j := j) (by omega)
  refine qL (qT rfl (qK (qE (qB (qG ?_)))))
  refine ja 9 rfl rfl (.int .u64 ((valL (l.take j) : Nat) : Int)) (rfl) ?_
  refine ja 10 rfl rfl (.int .u64 ((valL (l.take j) * 256 : Nat) : Int)) (Qq 75 75 _ _ rfl (valL (l.take j)) 256 rfl rfl (by have := yl l hb j (by omega) hjn; omega) _) ?_
  refine ja 11 rfl rfl (.slice ao m cap) (rfl) ?_
  refine ja 12 rfl rfl (nK j) (rfl) ?_
  refine ja 13 rfl rfl (.pointer (some (ad.add j))) (zd bT _ _ rfl ad m cap j (by exact congrArg (fun a => Value.slice a m cap) hao) rfl (by omega) _) ?_
  refine ja 14 rfl rfl (.int .u8 ((l.getD j 0 : Nat) : Int)) (zo bT _ rfl (ad.add j) rfl _ _ ((HN.gro GG).cell ad hao j (by omega))) ?_
  refine ja 15 rfl rfl (.int .u64 ((l.getD j 0 : Nat) : Int)) (conv525 _ rfl (l.getD j 0) (zx hb _) rfl _) ?_
  refine ja 16 rfl rfl (.int .u64 ((valL (l.take (j + 1)) : Nat) : Int)) ((yf 75 75 _ _ rfl (valL (l.take j) * 256) (l.getD j 0) rfl rfl (by have := yl l hb j (by omega) hjn; have := zx hb j; omega) _).trans (by rw [vY l j (by omega)])) ?_
  refine ja 3 rfl rfl (.int .u64 ((valL (l.take (j + 1)) : Nat) : Int)) (rfl) ?_
  refine nr ?_; intro U h; simp only [z0, z1] at h; subst h
  refine qN (zh (jG (qG ?_)))
  refine ja 7 rfl rfl (nK j) (rfl) ?_
  refine ja 8 rfl rfl (nK (j + 1)) (jp _ _ _ rfl ((j : Nat) : Int) 1 _ rfl rfl (by omega) (by omega) (by omega) _) ?_
  refine ja 4 rfl rfl (nK (j + 1)) (rfl) ?_
  refine nr ?_; intro U h; simp only [z0, z1] at h; subst h
  refine qL ?_
  exact ⟨_, (by omega : 8 - (j + 1) < 8 - j), j + 1, (fun kz => ([nK j, vT, nK j, nK (j + 1), .int .u64 ((valL (l.take j) : Nat) : Int), .int .u64 ((valL (l.take j) * 256 : Nat) : Int), .slice ao m cap, nK j, .pointer (some (ad.add j)), .int .u8 ((l.getD j 0 : Nat) : Int), .int .u64 ((l.getD j 0 : Nat) : Int), .int .u64 ((valL (l.take (j + 1)) : Nat) : Int)] : List Value).getD kz uD), rfl, rfl, hjn, GG⟩
theorem rnum0 (w : World) (ao : Option Addr) (cap : Nat) (s : List Nat) (HN : NC w .u8 ao cap s) (hs : s.length = 64) : Calls Try.prog 58 #[.slice ao 64 cap] w fun e w' => e = .returned (.int .u64 ((nm s 0 : Nat) : Int)) ∧ Gro w w' := vM w ao cap s HN 64 hs (by decide)
theorem rnum1 (w : World) (ao : Option Addr) (cap : Nat) (s : List Nat) (HN : NC w .u8 ao cap s) (hs : s.length = 64) : Calls Try.prog 58 #[.slice (cutA ao cap 8) (64 - 8) (cap - 8)] w fun e w' => e = .returned (.int .u64 ((nm s 1 : Nat) : Int)) ∧ Gro w w' := vM w _ _ (s.drop 8) (HN.cutE 8 (by rw [hs]; decide)) (64 - 8) (by rw [List.length_drop, hs]) (by decide)
theorem rnum2 (w : World) (ao : Option Addr) (cap : Nat) (s : List Nat) (HN : NC w .u8 ao cap s) (hs : s.length = 64) : Calls Try.prog 58 #[.slice (cutA ao cap 16) (64 - 16) (cap - 16)] w fun e w' => e = .returned (.int .u64 ((nm s 2 : Nat) : Int)) ∧ Gro w w' := vM w _ _ (s.drop 16) (HN.cutE 16 (by rw [hs]; decide)) (64 - 16) (by rw [List.length_drop, hs]) (by decide)
theorem ud (w : World) (ao : Option Addr) (cap n : Nat) (L : List Nat) (HN : NC w .u8 ao cap L) (hLn : L.length = n * 64) (hn2 : 2 ≤ n) : Calls Try.prog 31 #[.slice ao (n * 64) cap] w fun e w' => e = .returned (.tuple #[.int .u64 (((cntE L).g : Nat) : Int), .int .u64 (((cntE L).u : Nat) : Int), .int .u64 (((cntE L).c : Nat) : Int)]) ∧ Gro w w' := by
  refine js Try.func31 rfl Try.ntmps31 [.slice ao (n * 64) cap] [.slice ao (n * 64) cap, uD, uD, uD, uD, uD, uD, uD, uD, uD, uD, uD, uD, uD, uD, uD, uD, uD, uD, uD, uD, uD, uD, uD, uD, uD, uD, uD, uD, uD, uD, uD, uD, uD, uD, uD, uD, uD, uD, uD, uD, uD, uD, uD, uD, uD, uD, uD, uD, uD, uD, uD, uD, uD, uD, uD] rfl ?_
  have GG := Gro.refl w
  have hcap := HN.fit
  have hbl := HN.lt256
  have hlim : lim = 18446744073709551616 := rfl
  refine qS ?_
  refine ja 2 rfl rfl (.int .u64 0) (rfl) ?_
  refine ja 3 rfl rfl (.int .u64 0) (rfl) ?_
  refine ja 4 rfl rfl (.int .u64 0) (rfl) ?_
  refine nr ?_; intro U h; simp only [z0, z1] at h; subst h
  refine qA ?_
  refine jU 5 rfl rfl 116 rfl _ zv116 (c119 0 0 0) rfl ?_
  intro w1 gb G egb kgb
  have bgb := jk GG egb
  replace GG := GG.trans G
  clear G egb
  refine nr ?_; intro U h; simp only [z0, z1] at h; subst h
  refine qL (qE (qS ?_))
  refine ja 6 rfl rfl (iK 0) (rfl) ?_
  refine nr ?_; intro U h; simp only [z0, z1] at h; subst h
  refine qL (qB ?_)
  refine jV (fun mz az wv => ∃ (k : Nat) (us1 : Nat → Value), mz = 2 - k ∧ az = ⟨[.slice ao (n * 64) cap, uD, .int .u64 0, .int .u64 0, .int .u64 0, vP gb 0, nK k, us1 0, us1 1, us1 2, us1 3, us1 4, us1 5, us1 6, us1 7, us1 8, us1 9, us1 10, us1 11, us1 12, us1 13, us1 14, us1 15, us1 16, us1 17, us1 18, us1 19, us1 20, us1 21, us1 22, us1 23, us1 24, us1 25, us1 26, us1 27, us1 28, us1 29, us1 30, us1 31, us1 32, us1 33, us1 34, us1 35, us1 36, us1 37, us1 38, us1 39, us1 40, us1 41, us1 42, uD, uD, uD, uD, uD, uD].toArray, []⟩ ∧ k ≤ 2 ∧ Gro w wv ∧ wv.heap[gb]? = some (.cells (c119 (((bestE L k).g : Nat) : Int) (((bestE L k).u : Nat) : Int) (((bestE L k).c : Nat) : Int)) 116 (0, 0))) ?_ _ ⟨0, (fun kz => ([uD, uD, uD, uD, uD, uD, uD, uD, uD, uD, uD, uD, uD, uD, uD, uD, uD, uD, uD, uD, uD, uD, uD, uD, uD, uD, uD, uD, uD, uD, uD, uD, uD, uD, uD, uD, uD, uD, uD, uD, uD, uD, uD] : List Value).getD kz uD), rfl, rfl, Nat.zero_le _, GG, kgb⟩
  clear kgb GG
  rintro mz az wv ⟨k, us1, rfl, rfl, hk, GG, kgb⟩
  refine qE (qS ?_)
  refine ja 10 rfl rfl (nK k) (rfl) ?_
  refine nr ?_; intro U h; simp only [z0, z1] at h; subst h
  obtain ⟨p1, hp1⟩ : ∃ p, decide (((k : Nat) : Int) < 2) = p := ⟨_, rfl⟩
  refine ja 11 rfl rfl (.bool p1) (jE 3 _ _ _ rfl ((k : Nat) : Int) 2 rfl rfl p1 hp1 _) ?_
  refine nr ?_; intro U h; simp only [z0, z1] at h; subst h
  cases p1
  have hkn : k = 2 := by have := of_decide_eq_false hp1; omega
  rw [hkn, best_2] at kgb
  refine qL (qF rfl (wp_exit (jL (jL (zC (jG (qE ?_)))))))
  refine jl (A := ?Ax2) 8 [(0, 50), (1, 51), (2, 52), (3, 53), (4, 54), (5, 55), (6, 2), (7, 3)] [.val (vP gb 0), .val (.int .u64 (((cntE L).g : Nat) : Int)), .val (vP gb 1), .val (.int .u64 (((cntE L).u : Nat) : Int)), .val (vP gb 2), .val (.int .u64 (((cntE L).c : Nat) : Int)), .val (.int .u64 (((cntE L).g : Nat) : Int)), .val (.int .u64 (((cntE L).u : Nat) : Int))] follows (by kernel_rfl) rfl ?hAx2 (jb ?o0x2 (jb ?o1x2 (jb ?o2x2 (jb ?o3x2 (jb ?o4x2 (jb ?o5x2 (jb ?o6x2 (jb ?o7x2 jF)))))))) ?restx2
  case hAx2 =>
    intro ptrs
    simp only [full, foldSlots, filledE, postE, List.foldl_cons, List.foldl_nil, List.getD_cons_zero, List.getD_cons_succ, jI, List.set_cons_zero, List.set_cons_succ]
    exact rfl
  case o0x2 => exact fun _ _ hw _ => jd (v := vP gb 0) rfl (vJ _ _ rfl gb 0 rfl rfl (by decide) _)
  case o1x2 => exact fun _ _ hw _ => jd (v := .int .u64 (((cntE L).g : Nat) : Int)) rfl (jq 75 _ rfl gb 0 rfl 116 _ (hw.has kgb) (na75 _) _ rfl)
  case o2x2 => exact fun _ _ hw _ => jd (v := vP gb 1) rfl (vJ _ _ rfl gb 1 rfl rfl (by decide) _)
  case o3x2 => exact fun _ _ hw _ => jd (v := .int .u64 (((cntE L).u : Nat) : Int)) rfl (jq 75 _ rfl gb 1 rfl 116 _ (hw.has kgb) (na75 _) _ rfl)
  case o4x2 => exact fun _ _ hw _ => jd (v := vP gb 2) rfl (vJ _ _ rfl gb 2 rfl rfl (by decide) _)
  case o5x2 => exact fun _ _ hw _ => jd (v := .int .u64 (((cntE L).c : Nat) : Int)) rfl (jq 75 _ rfl gb 2 rfl 116 _ (hw.has kgb) (na75 _) _ rfl)
  case o6x2 => exact fun _ _ _ _ => yb (v := .int .u64 (((cntE L).g : Nat) : Int)) _ rfl rfl rfl
  case o7x2 => exact fun _ _ _ _ => yb (v := .int .u64 (((cntE L).u : Nat) : Int)) _ rfl rfl rfl
  intro ptrs w2 GD hxE
  simp only [List.drop_succ_cons, List.drop_zero]
  replace kgb := GD.has kgb
  replace GG := GG.drew.trans GD
  clear GD
  refine ja 4 rfl rfl (.int .u64 (((cntE L).c : Nat) : Int)) (rfl) ?_
  refine nr ?_; intro U h; simp only [z0, z1] at h; subst h
  refine qL (qR ?_)
  refine bodyPost_ret (results_tmp3 Try.results31 _ _ _) rfl ?_
  exact ⟨rfl, GG⟩
  have hkn : k < 2 := by have := of_decide_eq_true hp1; omega
  have hsl : (secL L k).length = 64 := zW hLn (by omega)
  have HS : NC w .u8 (cutA ao cap (64 * k)) (cap - 64 * k) (secL L k) := by rw [← secS]; exact HN.cutS (64 * k) 64 (by omega) (by omega)
  refine qL (qT rfl (qK (qE (qB (qS ?_)))))
  refine ja 14 rfl rfl (.slice ao (n * 64) cap) (rfl) ?_
  refine ja 15 rfl rfl (nK k) (rfl) ?_
  refine ja 16 rfl rfl (nK (64 * k)) (zb _ _ _ rfl 64 ((k : Nat) : Int) _ rfl rfl (by omega) (by omega) (by omega) _) ?_
  refine ja 17 rfl rfl (nK k) (rfl) ?_
  refine ja 18 rfl rfl (nK (64 * k)) (zb _ _ _ rfl 64 ((k : Nat) : Int) _ rfl rfl (by omega) (by omega) (by omega) _) ?_
  refine ja 19 rfl rfl (nK (64 * k + 64)) (jp _ _ _ rfl ((64 * k : Nat) : Int) 64 _ rfl rfl (by omega) (by omega) (by omega) _) ?_
  refine ja 20 rfl rfl (.slice (cutA ao cap (64 * k)) 64 (cap - 64 * k)) (Zj _ _ _ rfl ao (n * 64) cap (64 * k) 64 rfl rfl rfl (by omega) _) ?_
  refine ja 7 rfl rfl (.slice (cutA ao cap (64 * k)) 64 (cap - 64 * k)) (rfl) ?_
  refine nr ?_; intro U h; simp only [z0, z1] at h; subst h
  refine qA ?_
  refine ja 8 rfl rfl (vT) (rfl) ?_
  refine nr ?_; intro U h; simp only [z0, z1] at h; subst h
  refine qL (qE (qS ?_))
  refine ja 9 rfl rfl (iK 24) (rfl) ?_
  refine nr ?_; intro U h; simp only [z0, z1] at h; subst h
  refine qL (qB ?_)
  refine jV (fun mz az wv => ∃ (i : Nat) (okb : Bool) (us2 : Nat → Value), mz = 64 - i ∧ az = ⟨[.slice ao (n * 64) cap, uD, .int .u64 0, .int .u64 0, .int .u64 0, vP gb 0, nK k, .slice (cutA ao cap (64 * k)) 64 (cap - 64 * k), .bool okb, nK i, nK k, vT, us1 5, us1 6, .slice ao (n * 64) cap, nK k, nK (64 * k), nK k, nK (64 * k), nK (64 * k + 64), .slice (cutA ao cap (64 * k)) 64 (cap - 64 * k), us2 0, us2 1, us2 2, us2 3, us2 4, us2 5, us2 6, us2 7, us2 8, us2 9, us2 10, us2 11, us1 26, us1 27, us1 28, us1 29, us1 30, us1 31, us1 32, us1 33, us1 34, us1 35, us1 36, us1 37, us1 38, us1 39, us1 40, us1 41, us1 42, uD, uD, uD, uD, uD, uD].toArray, []⟩ ∧ i ≤ 64 ∧ 24 ≤ i ∧ (okb = true ↔ ∀ x, 24 ≤ x → x < i → (secL L k).getD x 0 = 0) ∧ Gro w wv ∧ wv.heap[gb]? = some (.cells (c119 (((bestE L k).g : Nat) : Int) (((bestE L k).u : Nat) : Int) (((bestE L k).c : Nat) : Int)) 116 (0, 0))) ?_ _ ⟨24, true, (fun kz => ([us1 14, us1 15, us1 16, us1 17, us1 18, us1 19, us1 20, us1 21, us1 22, us1 23, us1 24, us1 25] : List Value).getD kz uD), rfl, rfl, (by decide), Nat.le_refl _, ⟨fun _ x h1 h2 => by omega, fun _ => rfl⟩, GG, kgb⟩
  clear kgb GG
  rintro mz az wv ⟨i, okb, us2, rfl, rfl, hi, hi24, hok, GG, kgb⟩
  refine qE (qS ?_)
  refine ja 21 rfl rfl (nK i) (rfl) ?_
  refine nr ?_; intro U h; simp only [z0, z1] at h; subst h
  obtain ⟨p2, hp2⟩ : ∃ p, decide (((i : Nat) : Int) < 64) = p := ⟨_, rfl⟩
  refine ja 22 rfl rfl (.bool p2) (jE 3 _ _ _ rfl ((i : Nat) : Int) 64 rfl rfl p2 hp2 _) ?_
  refine nr ?_; intro U h; simp only [z0, z1] at h; subst h
  cases p2
  have hin : i = 64 := by have := of_decide_eq_false hp2; omega
  rw [hin] at hok
  refine qL (qF rfl (wp_exit (jL (jL (zC (jG (qE ?_)))))))
  cases okb
  have hZf := Qc hsl (fun hh => by have := hok.2 hh; cases this)
  refine jl (A := ?Ax3) 6 [(0, 33), (1, 34), (2, 35), (3, 36), (4, 37), (5, 38)] [.val (vF), .val (vF), .val uD, .val uD, .val uD, .val uD] follows (by kernel_rfl) rfl ?hAx3 (jb ?o0x3 (jb ?o1x3 (jb ?o2x3 (jb ?o3x3 (jb ?o4x3 (jb ?o5x3 jF)))))) ?restx3
  case hAx3 =>
    intro ptrs
    simp only [full, foldSlots, filledE, postE, List.foldl_cons, List.foldl_nil, List.getD_cons_zero, List.getD_cons_succ, jI, List.set_cons_zero, List.set_cons_succ]
    exact rfl
  case o0x3 => exact fun _ _ _ _ => jg (v := vF) _ rfl rfl rfl
  case o1x3 => exact fun _ _ _ _ => jg (v := vF) _ rfl rfl rfl
  case o2x3 => exact fun _ _ _ _ => jC rfl
  case o3x3 => exact fun _ _ _ _ => jC rfl
  case o4x3 => exact fun _ _ _ _ => jC rfl
  case o5x3 => exact fun _ _ _ _ => jC rfl
  intro ptrs w2 GD hxE
  simp only [List.drop_succ_cons, List.drop_zero]
  replace kgb := GD.has kgb
  replace GG := GG.drew.trans GD
  clear GD
  refine Kx 39 rfl rfl ?_
  refine ja 40 rfl rfl (vF) (rfl) ?_
  refine nr ?_; intro U h; simp only [z0, z1] at h; subst h
  refine qL (qF rfl (wp_skip (zh (jG (qG ?_)))))
  refine ja 12 rfl rfl (nK k) (rfl) ?_
  refine ja 13 rfl rfl (nK (k + 1)) (jp _ _ _ rfl ((k : Nat) : Int) 1 _ rfl rfl (by omega) (by omega) (by omega) _) ?_
  refine ja 6 rfl rfl (nK (k + 1)) (rfl) ?_
  refine nr ?_; intro U h; simp only [z0, z1] at h; subst h
  refine qL ?_
  exact ⟨_, (by omega : 2 - (k + 1) < 2 - k), k + 1, (fun kz => ([.slice (cutA ao cap (64 * k)) 64 (cap - 64 * k), vF, nK i, nK k, vT, nK k, nK (k + 1), .slice ao (n * 64) cap, nK k, nK (64 * k), nK k, nK (64 * k), nK (64 * k + 64), .slice (cutA ao cap (64 * k)) 64 (cap - 64 * k), nK i, vF, us2 2, us2 3, us2 4, us2 5, us2 6, us2 7, us2 8, us2 9, us2 10, us2 11, vF, vF, uD, uD, uD, uD, uD, vF, us1 34, us1 35, us1 36, us1 37, us1 38, us1 39, us1 40, us1 41, us1 42] : List Value).getD kz uD), rfl, rfl, hkn, GG, (by rw [Qa (by rw [hd_f hZf]; exact Nat.zero_le _)]; exact kgb)⟩
  have hZ := Kh hsl (hok.1 rfl)
  by_cases hgt : (bestE L k).g < nm (secL L k) 0
  refine jl (A := ?Ax4) 6 [(0, 33), (1, 34), (2, 35), (3, 36), (4, 37), (5, 38)] [.val (vT), .val (vT), .val (.slice (cutA ao cap (64 * k)) 64 (cap - 64 * k)), .val (.int .u64 ((nm (secL L k) 0 : Nat) : Int)), .val (vP gb 0), .val (.int .u64 (((bestE L k).g : Nat) : Int))] follows (by kernel_rfl) rfl ?hAx4 (jb ?o0x4 (jb ?o1x4 (jb ?o2x4 (jb ?o3x4 (jb ?o4x4 (jb ?o5x4 jF)))))) ?restx4
  case hAx4 =>
    intro ptrs
    simp only [full, foldSlots, filledE, postE, List.foldl_cons, List.foldl_nil, List.getD_cons_zero, List.getD_cons_succ, jI, List.set_cons_zero, List.set_cons_succ]
    exact rfl
  case o0x4 => exact fun _ _ _ _ => jg (v := vT) _ rfl rfl rfl
  case o1x4 => exact fun _ _ _ _ => jg (v := vT) _ rfl rfl rfl
  case o2x4 => exact fun _ _ _ _ => jg (v := .slice (cutA ao cap (64 * k)) 64 (cap - 64 * k)) _ rfl rfl rfl
  case o3x4 => exact fun _ _ hw _ => zr (.val (.int .u64 ((nm (secL L k) 0 : Nat) : Int))) rfl _ 58 Try.call58 rfl rfl _ rfl [.slice (cutA ao cap (64 * k)) 64 (cap - 64 * k)] rfl ((rnum0 _ _ _ _ (HS.gro (GG.drew.trans hw)) hsl).mono fun e w' ⟨he, hg⟩ => ⟨_, he, hg, rfl⟩)
  case o4x4 => exact fun _ _ hw _ => jd (v := vP gb 0) rfl (vJ _ _ rfl gb 0 rfl rfl (by decide) _)
  case o5x4 => exact fun _ _ hw _ => jd (v := .int .u64 (((bestE L k).g : Nat) : Int)) rfl (jq 75 _ rfl gb 0 rfl 116 _ (hw.has kgb) (na75 _) _ rfl)
  intro ptrs w2 GD hxE
  simp only [List.drop_succ_cons, List.drop_zero]
  replace kgb := GD.has kgb
  replace GG := GG.drew.trans GD
  clear GD
  refine Ye 39 rfl rfl (vT) (jS 75 75 _ _ rfl (nm (secL L k) 0) (bestE L k).g rfl rfl true (by first | exact decide_eq_true (by omega) | exact decide_eq_false (by omega)) _) ?_
  refine ja 40 rfl rfl (vT) (rfl) ?_
  refine nr ?_; intro U h; simp only [z0, z1] at h; subst h
  refine qL (qT rfl ?_)
  refine jl (A := ?Ax5) 7 [(0, 41), (1, 42), (2, 43), (3, 44), (4, 45), (5, 46), (6, 47)] [.val (.slice (cutA ao cap (64 * k)) 64 (cap - 64 * k)), .val (.int .u64 ((nm (secL L k) 0 : Nat) : Int)), .val (.slice (cutA ao cap (64 * k)) 64 (cap - 64 * k)), .val (.slice (cutA (cutA ao cap (64 * k)) (cap - 64 * k) 8) (64 - 8) (cap - 64 * k - 8)), .val (.int .u64 ((nm (secL L k) 1 : Nat) : Int)), .val (.slice (cutA ao cap (64 * k)) 64 (cap - 64 * k)), .val (.slice (cutA (cutA ao cap (64 * k)) (cap - 64 * k) 16) (64 - 16) (cap - 64 * k - 16))] follows (by kernel_rfl) rfl ?hAx5 (jb ?o0x5 (jb ?o1x5 (jb ?o2x5 (jb ?o3x5 (jb ?o4x5 (jb ?o5x5 (jb ?o6x5 jF))))))) ?restx5
  case hAx5 =>
    intro ptrs
    simp only [full, foldSlots, filledE, postE, List.foldl_cons, List.foldl_nil, List.getD_cons_zero, List.getD_cons_succ, jI, List.set_cons_zero, List.set_cons_succ]
    exact rfl
  case o0x5 => exact fun _ _ _ _ => jg (v := .slice (cutA ao cap (64 * k)) 64 (cap - 64 * k)) _ rfl rfl rfl
  case o1x5 => exact fun _ _ hw _ => zr (.val (.int .u64 ((nm (secL L k) 0 : Nat) : Int))) rfl _ 58 Try.call58 rfl rfl _ rfl [.slice (cutA ao cap (64 * k)) 64 (cap - 64 * k)] rfl ((rnum0 _ _ _ _ (HS.gro (GG.drew.trans hw)) hsl).mono fun e w' ⟨he, hg⟩ => ⟨_, he, hg, rfl⟩)
  case o2x5 => exact fun _ _ _ _ => jg (v := .slice (cutA ao cap (64 * k)) 64 (cap - 64 * k)) _ rfl rfl rfl
  case o3x5 => exact fun _ _ hw _ => jd (v := .slice (cutA (cutA ao cap (64 * k)) (cap - 64 * k) 8) (64 - 8) (cap - 64 * k - 8)) rfl (uQ _ _ rfl (cutA ao cap (64 * k)) 64 (cap - 64 * k) 8 rfl rfl (by decide) _)
  case o4x5 => exact fun _ _ hw _ => zr (.val (.int .u64 ((nm (secL L k) 1 : Nat) : Int))) rfl _ 58 Try.call58 rfl rfl _ rfl [.slice (cutA (cutA ao cap (64 * k)) (cap - 64 * k) 8) (64 - 8) (cap - 64 * k - 8)] rfl ((rnum1 _ _ _ _ (HS.gro (GG.drew.trans hw)) hsl).mono fun e w' ⟨he, hg⟩ => ⟨_, he, hg, rfl⟩)
  case o5x5 => exact fun _ _ _ _ => jg (v := .slice (cutA ao cap (64 * k)) 64 (cap - 64 * k)) _ rfl rfl rfl
  case o6x5 => exact fun _ _ hw _ => jd (v := .slice (cutA (cutA ao cap (64 * k)) (cap - 64 * k) 16) (64 - 16) (cap - 64 * k - 16)) rfl (uQ _ _ rfl (cutA ao cap (64 * k)) 64 (cap - 64 * k) 16 rfl rfl (by decide) _)
  intro ptrs w3 GD hxE
  simp only [List.drop_succ_cons, List.drop_zero]
  replace kgb := GD.has kgb
  replace GG := GG.drew.trans GD
  clear GD
  refine jy 48 rfl rfl _ 58 Try.call58 rfl rfl _ rfl [.slice (cutA (cutA ao cap (64 * k)) (cap - 64 * k) 16) (64 - 16) (cap - 64 * k - 16)] rfl (rnum2 _ _ _ _ (HS.gro GG) hsl) ?_
  intro w4 G
  replace kgb := G.has kgb
  replace GG := GG.trans G
  clear G
  refine nr ?_; intro U h; simp only [z0, z1] at h; subst h
  refine ja 49 rfl rfl (.agg (c119 ((nm (secL L k) 0 : Nat) : Int) ((nm (secL L k) 1 : Nat) : Int) ((nm (secL L k) 2 : Nat) : Int))) (jN 116 _ rfl [(0, .int .u64 ((nm (secL L k) 0 : Nat) : Int)), (1, .int .u64 ((nm (secL L k) 1 : Nat) : Int)), (2, .int .u64 ((nm (secL L k) 2 : Nat) : Int))] rfl _ (by kernel_rfl)) ?_
  refine nr ?_; intro U h; simp only [z0, z1] at h; subst h
  refine jt rfl rfl 116 _ _ rfl gb 0 rfl (.agg (c119 ((nm (secL L k) 0 : Nat) : Int) ((nm (secL L k) 1 : Nat) : Int) ((nm (secL L k) 2 : Nat) : Int))) rfl 116 _ kgb (c119 ((nm (secL L k) 0 : Nat) : Int) ((nm (secL L k) 1 : Nat) : Int) ((nm (secL L k) 2 : Nat) : Int)) rfl (by kernel_rfl) (Nat.le_of_ble_eq_true rfl) (by kernel_rfl) (c119 ((nm (secL L k) 0 : Nat) : Int) ((nm (secL L k) 1 : Nat) : Int) ((nm (secL L k) 2 : Nat) : Int)) (by kernel_rfl) ?_
  intro w5 St
  replace GG := GG.store St bgb
  replace kgb := St.new
  clear St
  refine qN (zh (jG (qG ?_)))
  refine ja 12 rfl rfl (nK k) (rfl) ?_
  refine ja 13 rfl rfl (nK (k + 1)) (jp _ _ _ rfl ((k : Nat) : Int) 1 _ rfl rfl (by omega) (by omega) (by omega) _) ?_
  refine ja 6 rfl rfl (nK (k + 1)) (rfl) ?_
  refine nr ?_; intro U h; simp only [z0, z1] at h; subst h
  refine qL ?_
  have hY := jbx hZ hgt
  exact ⟨_, (by omega : 2 - (k + 1) < 2 - k), k + 1, (fun kz => ([.slice (cutA ao cap (64 * k)) 64 (cap - 64 * k), vT, nK i, nK k, vT, nK k, nK (k + 1), .slice ao (n * 64) cap, nK k, nK (64 * k), nK k, nK (64 * k), nK (64 * k + 64), .slice (cutA ao cap (64 * k)) 64 (cap - 64 * k), nK i, vF, us2 2, us2 3, us2 4, us2 5, us2 6, us2 7, us2 8, us2 9, us2 10, us2 11, vT, vT, .slice (cutA ao cap (64 * k)) 64 (cap - 64 * k), .int .u64 ((nm (secL L k) 0 : Nat) : Int), vP gb 0, .int .u64 (((bestE L k).g : Nat) : Int), vT, vT, .slice (cutA ao cap (64 * k)) 64 (cap - 64 * k), .int .u64 ((nm (secL L k) 0 : Nat) : Int), .slice (cutA ao cap (64 * k)) 64 (cap - 64 * k), .slice (cutA (cutA ao cap (64 * k)) (cap - 64 * k) 8) (64 - 8) (cap - 64 * k - 8), .int .u64 ((nm (secL L k) 1 : Nat) : Int), .slice (cutA ao cap (64 * k)) 64 (cap - 64 * k), .slice (cutA (cutA ao cap (64 * k)) (cap - 64 * k) 16) (64 - 16) (cap - 64 * k - 16), .int .u64 ((nm (secL L k) 2 : Nat) : Int), .agg (c119 ((nm (secL L k) 0 : Nat) : Int) ((nm (secL L k) 1 : Nat) : Int) ((nm (secL L k) 2 : Nat) : Int))] : List Value).getD kz uD), rfl, rfl, hkn, GG, (by rw [hY]; exact kgb)⟩
  replace hgt : nm (secL L k) 0 ≤ (bestE L k).g := Nat.le_of_not_lt hgt
  refine jl (A := ?Ax6) 6 [(0, 33), (1, 34), (2, 35), (3, 36), (4, 37), (5, 38)] [.val (vT), .val (vT), .val (.slice (cutA ao cap (64 * k)) 64 (cap - 64 * k)), .val (.int .u64 ((nm (secL L k) 0 : Nat) : Int)), .val (vP gb 0), .val (.int .u64 (((bestE L k).g : Nat) : Int))] follows (by kernel_rfl) rfl ?hAx6 (jb ?o0x6 (jb ?o1x6 (jb ?o2x6 (jb ?o3x6 (jb ?o4x6 (jb ?o5x6 jF)))))) ?restx6
  case hAx6 =>
    intro ptrs
    simp only [full, foldSlots, filledE, postE, List.foldl_cons, List.foldl_nil, List.getD_cons_zero, List.getD_cons_succ, jI, List.set_cons_zero, List.set_cons_succ]
    exact rfl
  case o0x6 => exact fun _ _ _ _ => jg (v := vT) _ rfl rfl rfl
  case o1x6 => exact fun _ _ _ _ => jg (v := vT) _ rfl rfl rfl
  case o2x6 => exact fun _ _ _ _ => jg (v := .slice (cutA ao cap (64 * k)) 64 (cap - 64 * k)) _ rfl rfl rfl
  case o3x6 => exact fun _ _ hw _ => zr (.val (.int .u64 ((nm (secL L k) 0 : Nat) : Int))) rfl _ 58 Try.call58 rfl rfl _ rfl [.slice (cutA ao cap (64 * k)) 64 (cap - 64 * k)] rfl ((rnum0 _ _ _ _ (HS.gro (GG.drew.trans hw)) hsl).mono fun e w' ⟨he, hg⟩ => ⟨_, he, hg, rfl⟩)
  case o4x6 => exact fun _ _ hw _ => jd (v := vP gb 0) rfl (vJ _ _ rfl gb 0 rfl rfl (by decide) _)
  case o5x6 => exact fun _ _ hw _ => jd (v := .int .u64 (((bestE L k).g : Nat) : Int)) rfl (jq 75 _ rfl gb 0 rfl 116 _ (hw.has kgb) (na75 _) _ rfl)
  intro ptrs w2 GD hxE
  simp only [List.drop_succ_cons, List.drop_zero]
  replace kgb := GD.has kgb
  replace GG := GG.drew.trans GD
  clear GD
  refine Ye 39 rfl rfl (vF) (jS 75 75 _ _ rfl (nm (secL L k) 0) (bestE L k).g rfl rfl false (by first | exact decide_eq_true (by omega) | exact decide_eq_false (by omega)) _) ?_
  refine ja 40 rfl rfl (vF) (rfl) ?_
  refine nr ?_; intro U h; simp only [z0, z1] at h; subst h
  refine qL (qF rfl (wp_skip (zh (jG (qG ?_)))))
  refine ja 12 rfl rfl (nK k) (rfl) ?_
  refine ja 13 rfl rfl (nK (k + 1)) (jp _ _ _ rfl ((k : Nat) : Int) 1 _ rfl rfl (by omega) (by omega) (by omega) _) ?_
  refine ja 6 rfl rfl (nK (k + 1)) (rfl) ?_
  refine nr ?_; intro U h; simp only [z0, z1] at h; subst h
  refine qL ?_
  exact ⟨_, (by omega : 2 - (k + 1) < 2 - k), k + 1, (fun kz => ([.slice (cutA ao cap (64 * k)) 64 (cap - 64 * k), vT, nK i, nK k, vT, nK k, nK (k + 1), .slice ao (n * 64) cap, nK k, nK (64 * k), nK k, nK (64 * k), nK (64 * k + 64), .slice (cutA ao cap (64 * k)) 64 (cap - 64 * k), nK i, vF, us2 2, us2 3, us2 4, us2 5, us2 6, us2 7, us2 8, us2 9, us2 10, us2 11, vT, vT, .slice (cutA ao cap (64 * k)) 64 (cap - 64 * k), .int .u64 ((nm (secL L k) 0 : Nat) : Int), vP gb 0, .int .u64 (((bestE L k).g : Nat) : Int), vF, vF, us1 34, us1 35, us1 36, us1 37, us1 38, us1 39, us1 40, us1 41, us1 42] : List Value).getD kz uD), rfl, rfl, hkn, GG, (by rw [Qa (Nat.le_trans hd_le hgt)]; exact kgb)⟩
  have hin : i < 64 := by have := of_decide_eq_true hp2; omega
  refine qL (qT rfl (qK (qE (qB ?_))))
  refine jj ?_
  intro OPS hY
  have y1 := hY 1 26 rfl
  clear hY
  cases okb
  have hokf : ¬ ∀ x, 24 ≤ x → x < i → (secL L k).getD x 0 = 0 := fun hh => by have := hok.2 hh; cases this
  refine ja 25 rfl rfl (vF) (rfl) ?_
  refine ja 26 rfl rfl (vF) (rfl) ?_
  refine jo 27 rfl rfl y1 rfl ?_
  refine jo 28 rfl rfl y1 rfl ?_
  refine jo 29 rfl rfl y1 rfl ?_
  refine jo 30 rfl rfl y1 rfl ?_
  refine jo 31 rfl rfl y1 rfl ?_
  refine ja 32 rfl rfl (vF) (rfl) ?_
  refine ja 8 rfl rfl (vF) (rfl) ?_
  refine nr ?_; intro U h; simp only [z0, z1] at h; subst h
  refine qN (zh (jG (qG ?_)))
  refine ja 23 rfl rfl (nK i) (rfl) ?_
  refine ja 24 rfl rfl (nK (i + 1)) (jp _ _ _ rfl ((i : Nat) : Int) 1 _ rfl rfl (by omega) (by omega) (by omega) _) ?_
  refine ja 9 rfl rfl (nK (i + 1)) (rfl) ?_
  refine nr ?_; intro U h; simp only [z0, z1] at h; subst h
  refine qL ?_
  exact ⟨_, (by omega : 64 - (i + 1) < 64 - i), i + 1, false, (fun kz => ([nK i, vT, nK i, nK (i + 1), vF, vF, uD, uD, uD, uD, uD, vF] : List Value).getD kz uD), rfl, rfl, hin, (by omega), ⟨fun hh => by (cases hh), fun hh => absurd (fun x h1 h2 => hh x h1 (by omega)) hokf⟩, GG, kgb⟩
  have hokt := hok.1 rfl
  refine ja 25 rfl rfl (vT) (rfl) ?_
  refine ja 26 rfl rfl (vT) (rfl) ?_
  refine je 27 rfl rfl y1 rfl (.slice (cutA ao cap (64 * k)) 64 (cap - 64 * k)) (rfl) ?_
  refine je 28 rfl rfl y1 rfl (nK i) (rfl) ?_
  refine nr ?_; intro U h; simp only [z0, z1] at h; subst h
  obtain ⟨ad, hao, _⟩ := HS.at (j := i) (by rw [hsl]; exact hin)
  refine je 29 rfl rfl y1 rfl (.pointer (some (ad.add i))) (zd bT _ _ rfl ad 64 (cap - 64 * k) i (by exact congrArg (fun a => Value.slice a 64 (cap - 64 * k)) hao) rfl hin _) ?_
  refine je 30 rfl rfl y1 rfl (.int .u8 (((secL L k).getD i 0 : Nat) : Int)) (zo bT _ rfl (ad.add i) rfl _ _ ((HS.gro GG).cell ad hao i (by rw [hsl]; exact hin))) ?_
  refine nr ?_; intro U h; simp only [z0, z1] at h; subst h
  obtain ⟨p3, hp3⟩ : ∃ p, decide ((((secL L k).getD i 0 : Nat) : Int) = 0) = p := ⟨_, rfl⟩
  refine je 31 rfl rfl y1 rfl (.bool p3) (jB 5 .u8 _ _ _ rfl Try.underlying5 (((secL L k).getD i 0 : Nat) : Int) 0 rfl rfl p3 hp3 _) ?_
  refine nr ?_; intro U h; simp only [z0, z1] at h; subst h
  cases p3
  have hbz : ¬ (secL L k).getD i 0 = 0 := by have := of_decide_eq_false hp3; omega
  refine ja _ rfl rfl (vF) rfl ?_
  refine ja _ rfl rfl (vF) rfl ?_
  refine nr ?_; intro U h; simp only [z0, z1] at h; subst h
  refine qN (zh (jG (qG ?_)))
  refine ja 23 rfl rfl (nK i) (rfl) ?_
  refine ja 24 rfl rfl (nK (i + 1)) (jp _ _ _ rfl ((i : Nat) : Int) 1 _ rfl rfl (by omega) (by omega) (by omega) _) ?_
  refine ja 9 rfl rfl (nK (i + 1)) (rfl) ?_
  refine nr ?_; intro U h; simp only [z0, z1] at h; subst h
  refine qL ?_
  exact ⟨_, (by omega : 64 - (i + 1) < 64 - i), i + 1, false, (fun kz => ([nK i, vT, nK i, nK (i + 1), vT, vT, .slice (cutA ao cap (64 * k)) 64 (cap - 64 * k), nK i, .pointer (some (ad.add i)), .int .u8 (((secL L k).getD i 0 : Nat) : Int), vF, vF] : List Value).getD kz uD), rfl, rfl, hin, (by omega), ⟨fun hh => by (cases hh), fun hh => absurd (hh i hi24 (by omega)) hbz⟩, GG, kgb⟩
  have hbz : (secL L k).getD i 0 = 0 := by have := of_decide_eq_true hp3; omega
  refine ja 32 rfl rfl (vT) (rfl) ?_
  refine ja 8 rfl rfl (vT) (rfl) ?_
  refine nr ?_; intro U h; simp only [z0, z1] at h; subst h
  refine qN (zh (jG (qG ?_)))
  refine ja 23 rfl rfl (nK i) (rfl) ?_
  refine ja 24 rfl rfl (nK (i + 1)) (jp _ _ _ rfl ((i : Nat) : Int) 1 _ rfl rfl (by omega) (by omega) (by omega) _) ?_
  refine ja 9 rfl rfl (nK (i + 1)) (rfl) ?_
  refine nr ?_; intro U h; simp only [z0, z1] at h; subst h
  refine qL ?_
  exact ⟨_, (by omega : 64 - (i + 1) < 64 - i), i + 1, true, (fun kz => ([nK i, vT, nK i, nK (i + 1), vT, vT, .slice (cutA ao cap (64 * k)) 64 (cap - 64 * k), nK i, .pointer (some (ad.add i)), .int .u8 (((secL L k).getD i 0 : Nat) : Int), vT, vT] : List Value).getD kz uD), rfl, rfl, hin, (by omega), ⟨fun _ x h1 h2 => by by_cases hxe : x = i; (subst hxe; exact hbz); exact hokt x h1 (by omega), fun _ => rfl⟩, GG, kgb⟩
end Go.Proofs.Ytgfnjekpafempaa
