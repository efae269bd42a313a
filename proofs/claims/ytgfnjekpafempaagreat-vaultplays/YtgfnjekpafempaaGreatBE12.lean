import Derived.Test.YtgfnjekpafempaaGreatBE11
import Derived.Test.YtgfnjekpafempaaGreatBAb
namespace Go.Proofs.YtgfnjekpafempaaGreat
open Go.Proofs.Tryz
set_option maxHeartbeats 4000000
set_option maxRecDepth 100000
open Go.RowKit
def cutA (ao : Option Addr) (cap i : Nat) : Option Addr := if cap = i then ao else ao.map (·.add i)
theorem ZQ {o : Oper} {A : Act} (x y z : Operand) (ho : o.op = .slice 27 x (some y) (some z) none) (ao : Option Addr) (n cap i m : Nat) (hx : A.eval x = .slice ao n cap) (hy : A.eval y = .int .i64 (i : Int)) (hz : A.eval z = .int .i64 ((i + m : Nat) : Int)) (hj : i + m ≤ cap) (w : World) :
    (execOp A.eval o).run Tryz.prog w = .ok (.value (.slice (cutA ao cap i) m (cap - i))) w := by
  rw [ZR bT x y z ho ao n cap i (i + m) hx hy hz (by omega) hj w, Nat.add_sub_cancel_left]
  rfl
theorem Jm {o : Oper} {A : Act} (x y : Operand) (ho : o.op = .slice 27 x (some y) none none) (ao : Option Addr) (n cap i : Nat) (hx : A.eval x = .slice ao n cap) (hy : A.eval y = .int .i64 (i : Int)) (hi : i ≤ n) (w : World) :
    (execOp A.eval o).run Tryz.prog w = .ok (.value (.slice (cutA ao cap i) (n - i) (cap - i))) w := Jn bT x y ho ao n cap i hx hy hi w
theorem NC.cutS {w : World} {ao : Option Addr} {cap : Nat} {L : List Nat} (h : NC w .u8 ao cap L) (i m : Nat) (hi : i ≤ L.length) (hm : m ≤ L.length - i) : NC w .u8 (cutA ao cap i) (cap - i) ((L.drop i).take m) := (h.drop i hi).take m (by rw [List.length_drop]; exact hm)
theorem NC.cutE {w : World} {ao : Option Addr} {cap : Nat} {L : List Nat} (h : NC w .u8 ao cap L) (i : Nat) (hi : i ≤ L.length) : NC w .u8 (cutA ao cap i) (cap - i) (L.drop i) := h.drop i hi
theorem KN {P : Program} {o : Oper} {A : Act} (t t2 : TypeId) (x y : Operand) (ho : o.op = .binOp .mul t x y t2) (a b : Nat) (hx : A.eval x = .int .u64 (a : Int)) (hy : A.eval y = .int .u64 (b : Int)) (h : a * b < lim) (w : World) : (execOp A.eval o).run P w = .ok (.value (.int .u64 ((a * b : Nat) : Int))) w := by
  refine jF .mul t x y t2 ho _ _ _ hx hy (by simp [eqGuard]) ?_
  have e : IntKind.u64.wrap ((a : Int) * (b : Int)) = ((a * b : Nat) : Int) := by
    have h2 : lim = 18446744073709551616 := rfl
    rw [← Int.natCast_mul]
    simp only [IntKind.wrap, IntKind.bits, IntKind.signed]
    generalize a * b = c at *
    simp
    omega
  show (Op.intArith .mul .u64 (a : Int) (b : Int)).run P w = _
  unfold Op.intArith
  simp only [Sem.run_pure]
  exact congrArg (fun z => Result.ok (Value.int .u64 z) w) e
def bestE (L : List Nat) : Nat → Hd
  | 0 => ⟨0, 0, 0⟩
  | k + 1 => if (bestE L k).g < (hdE (secL L k)).g then hdE (secL L k) else bestE L k
theorem hdE_0 {s : List Nat} (h : (hdE s).g = 0) : hdE s = ⟨0, 0, 0⟩ := by
  unfold hdE at *
  cases hz : zerosB s
  · rfl
  · rw [hz, cond_true] at h
    rw [cond_true]
    split
    · rfl
    · rename_i h1
      rw [if_neg h1] at h
      exact absurd h h1
theorem best_2 (L : List Nat) : bestE L 2 = cntE L := by
  have h1 : bestE L 1 = hdE (secL L 0) := by
    show (if 0 < (hdE (secL L 0)).g then hdE (secL L 0) else ⟨0, 0, 0⟩) = _
    split
    · rfl
    · rw [hdE_0 (by omega)]
  show (if (bestE L 1).g < (hdE (secL L 1)).g then hdE (secL L 1) else bestE L 1) = _
  rw [h1, cntE]
theorem best_yes {L : List Nat} {k : Nat} (hz : zerosB (secL L k) = true) (h : (bestE L k).g < nm (secL L k) 0) : bestE L (k + 1) = ⟨nm (secL L k) 0, nm (secL L k) 1, nm (secL L k) 2⟩ := by
  have h1 := Kk hz (by omega)
  show (if (bestE L k).g < (hdE (secL L k)).g then hdE (secL L k) else bestE L k) = _
  rw [h1, if_pos h]
theorem Kx {L : List Nat} {k : Nat} (h : (hdE (secL L k)).g ≤ (bestE L k).g) : bestE L (k + 1) = bestE L k := by
  show (if (bestE L k).g < (hdE (secL L k)).g then hdE (secL L k) else bestE L k) = _
  rw [if_neg (by omega)]
theorem hd_le {s : List Nat} : (hdE s).g ≤ nm s 0 := by
  unfold hdE
  cases zerosB s
  · exact Nat.zero_le _
  · rw [cond_true]
    split
    · exact Nat.zero_le _
    · exact Nat.le_refl _
theorem hd_f {s : List Nat} (h : zerosB s = false) : (hdE s).g = 0 := by unfold hdE; rw [h]; rfl
theorem zv131 (w : World) : (zeroValue 131).run Tryz.prog w = .ok (.agg (c101 0 0 0)) w := by kernel_rfl
theorem ub {o : Oper} {A : Act} (x y : Operand) (ho : o.op = .indexAddr 131 x y) (g j : Nat) (hx : A.eval x = .pointer (some ⟨g, 0, none⟩)) (hy : A.eval y = .int .i64 (j : Int)) (hj : j < 3) (w : World) : (execOp A.eval o).run Tryz.prog w = .ok (.value (.pointer (some ⟨g, j, none⟩))) w := by
  have h : (Instr.indexAt 131 (.pointer (some ⟨g, 0, none⟩)) (.int .i64 (j : Int))).run Tryz.prog w = .ok (.pointer (some ⟨g, j, none⟩)) w := by
    rcases (by omega : j = 0 ∨ j = 1 ∨ j = 2) with rfl | rfl | rfl <;> kernel_rfl
  unfold execOp
  simp only [ho, hx, hy, Sem.run_bind, h, Result.andThen_ok, Sem.run_pure]
theorem secS {L : List Nat} {k : Nat} : (L.drop (64 * k)).take 64 = secL L k := by rw [secL, Nat.mul_comm]
theorem jbe {s : List Nat} (hs : s.length = 64) (h : ∀ x, 24 ≤ x → x < 64 → s.getD x 0 = 0) : zerosB s = true := (vI hs).2 fun i hi => h (24 + i) (by omega) (by omega)
theorem Kz {s : List Nat} (hs : s.length = 64) (h : ¬ ∀ x, 24 ≤ x → x < 64 → s.getD x 0 = 0) : zerosB s = false := by
  cases hz : zerosB s
  · rfl
  · refine absurd (fun x h1 h2 => ?_) h
    have := (vI hs).1 hz (x - 24) (by omega)
    rwa [show 24 + (x - 24) = x by omega] at this
structure MK (w : World) (mp rp : Nat) (h : Hd) (dw : Bool) : Prop where
  box : w.heap[mp]? = some (.cells (c66 (some ⟨rp, 0, none⟩) (h.g : Int) (h.u : Int) (h.c : Int) dw) 66 (0, 0))
theorem MK.gro {w w' : World} {lp p : Nat} {h : Hd} {dw : Bool} (H : MK w lp p h dw) (G : Gro w w') : MK w' lp p h dw := ⟨G.has H.box⟩
theorem MK.gros {S : List Nat} {w w' : World} {lp p : Nat} {h : Hd} {dw : Bool} (H : MK w lp p h dw) (G : GroS S w w') (hs : lp ∉ S) : MK w' lp p h dw := ⟨G.has H.box hs⟩
theorem Jq (w : World) (ao : Option Addr) (cap : Nat) (l : List Nat) (hm : l.length ≤ 140737488355328) : Calls Tryz.prog 56 #[.slice ao l.length cap] w fun e w' => e = .returned (nK (secN l.length)) ∧ Gro w w' := by
  refine eN func56 rfl ntmps56 [.slice ao l.length cap] ?_
  have GG := Gro.refl w
  refine qE (qG (mv (iK 0) rfl (nq ?_)))
  refine qL (qE (qG (mv (.slice ao l.length cap) rfl (sv (nK l.length) (js underlying27 _ rfl _ _ _ rfl _) rfl (sv (nK (l.length + 2)) (jp _ _ _ rfl ((l.length : Nat) : Int) 2 _ rfl rfl (by omega) (by omega) (by omega) _) rfl (sv (nK (l.length + 65)) (jp _ _ _ rfl ((l.length + 2 : Nat) : Int) 63 _ rfl rfl (by omega) (by omega) (by omega) _) rfl (sv (nK (secN l.length)) (zn _ _ _ rfl ((l.length + 65 : Nat) : Int) 64 _ rfl rfl (by decide) (tdivN _ 64) (by omega) (by omega) _) rfl (mv (nK (secN l.length)) rfl ?_))))))))
  refine nq ?_
  refine qL (qR ?_)
  refine bodyPost_ret (results_tmp results56 _ _ _) rfl ?_
  exact ⟨rfl, GG⟩
theorem Yw (w : World) (mp rp : Nat) (h : Hd) (dw : Bool) (HM : MK w mp rp h dw) (B : Nat) (ro : Option Addr) (rc n : Nat) (L : List Nat) (pw dn : Int) (HR : QK w rp B ro rc n L pw dn) (hu : h.u + 2 ≤ n) : Calls Tryz.prog 57 #[vP mp 0] w fun e w' => e = .returned (nK (n - 2 - h.u)) ∧ Gro w w' := by
  refine eN func57 rfl ntmps57 [vP mp 0] ?_
  have GG := Gro.refl w
  have kmp := HM.box
  have krp := HR.box
  have hn4 := HR.le
  refine qE (qG (mv (iK 0) rfl (nq ?_)))
  refine qL (qE ?_)
  refine exQ 14 [(0, 3), (1, 4), (2, 5), (3, 6), (4, 7), (5, 8), (6, 9), (7, 10), (8, 11), (9, 12), (10, 13), (11, 14), (12, 15), (13, 16)] [.val (vP mp 0), .val (vP mp 0), .val (vP mp 0), .val (vP rp 0), .val (vP rp 0), .val (vP rp 0), .val (.slice ro (n * 64) rc), .val (nK (n * 64)), .val (nK n), .val (nK (n - 2)), .val (vP mp 0), .val (vP mp 0), .val (vP mp 2), .val (nK h.u)] follows (by kernel_rfl) rfl (ja ?_ (ja ?_ (ja ?_ (ja ?_ (ja ?_ (ja ?_ (ja ?_ (ja ?_ (ja ?_ (ja ?_ (ja ?_ (ja ?_ (ja ?_ (ja ?_ jD)))))))))))))) ?_
  exact fun _ _ _ _ => jf _ rfl rfl rfl
  exact fun _ _ hw _ => jb rfl (jl _ rfl _ rfl)
  exact fun _ _ hw _ => jb rfl (je 66 _ 0 rfl _ _ rfl _ (by kernel_rfl))
  exact fun _ _ hw _ => jb rfl (jo 24 _ rfl mp 0 rfl 66 _ (hw.has kmp) (na24 _) _ rfl)
  exact fun _ _ hw _ => jb rfl (jl _ rfl _ rfl)
  exact fun _ _ hw _ => jb rfl (je 47 _ 0 rfl _ _ rfl _ (by kernel_rfl))
  exact fun _ _ hw _ => jb rfl (jo 27 _ rfl rp 0 rfl 47 _ (hw.has krp) (na27 _) _ rfl)
  exact fun _ _ hw _ => jb rfl (js underlying27 _ rfl _ _ _ rfl _)
  exact fun _ _ hw _ => jb rfl (zn _ _ _ rfl ((n * 64 : Nat) : Int) 64 _ rfl rfl (by decide) quoN (by omega) (by omega) _)
  exact fun _ _ hw _ => jb rfl (jP _ _ _ rfl ((n : Nat) : Int) 2 _ rfl rfl (by omega) (by omega) (by omega) _)
  exact fun _ _ _ _ => jf _ rfl rfl rfl
  exact fun _ _ hw _ => jb rfl (jl _ rfl _ rfl)
  exact fun _ _ hw _ => jb rfl (je 66 _ 2 rfl _ _ rfl _ (by kernel_rfl))
  exact fun _ _ hw _ => jb rfl (jo 3 _ rfl mp 2 rfl 66 _ (hw.has kmp) (na3 _) _ rfl)
  intro ptrs w1 GD hxE
  simp only [List.drop_succ_cons, List.drop_zero]
  replace kmp := GD.has kmp
  replace krp := GD.has krp
  replace GG := GG.drew.trans GD
  clear GD
  refine sv (nK (n - 2 - h.u)) (jP _ _ _ rfl ((n - 2 : Nat) : Int) ((h.u : Nat) : Int) _ rfl rfl (by omega) (by omega) (by omega) _) rfl (mv (nK (n - 2 - h.u)) rfl (nq ?_))
  refine qL (qR ?_)
  refine bodyPost_ret (results_tmp results57 _ _ _) rfl ?_
  exact ⟨rfl, GG⟩
theorem ud (w : World) (ao : Option Addr) (cap : Nat) (l : List Nat) (HN : NC w .u8 ao cap l) (m : Nat) (hm : l.length = m) (h8 : 8 ≤ m) : Calls Tryz.prog 74 #[.slice ao m cap] w fun e w' => e = .returned (.int .u64 ((valL (l.take 8) : Nat) : Int)) ∧ Gro w w' := by
  refine eN func74 rfl ntmps74 [.slice ao m cap] ?_
  have GG := Gro.refl w
  have hlim : lim = 18446744073709551616 := rfl
  have hb := HN.lt256
  refine qE (qG (mv (.int .u64 0) rfl (nq ?_)))
  refine qL (qE (qG (mv (.int .u64 0) rfl (nq ?_))))
  refine qL (qE (qE (qG (mv (iK 0) rfl (nq ?_)))))
  refine qL (qB ?_)
  refine jO (fun mz az wv => ∃ (j : Nat) (us1 : Nat → Value), mz = 8 - j ∧ az = ⟨[.slice ao m cap, uD, .int .u64 0, .int .u64 ((valL (l.take j) : Nat) : Int), nK j, us1 5, us1 6, us1 7, us1 8, us1 9, us1 10, us1 11, us1 12, us1 13, us1 14, us1 15, us1 16, uD].toArray, []⟩ ∧ j ≤ 8 ∧ Gro w wv) ?_ _ ⟨0, usK ⟨Nat.zero_le _, GG⟩⟩
  clear GG
  rintro mz az wv ⟨j, us1, rfl, rfl, hj, GG⟩
  refine qE (qE (qG (mv (nK j) rfl (nq ?_))))
  obtain ⟨p1, hp1⟩ : ∃ p, decide (((j : Nat) : Int) < 8) = p := ⟨_, rfl⟩
  refine sv (.bool p1) (jv 3 _ _ _ rfl ((j : Nat) : Int) 8 rfl rfl p1 hp1 _) rfl (nq ?_)
  cases p1
  have hjn : j = 8 := by have := of_decide_eq_false hp1; omega
  refine qL (qF rfl (wp_exit (jG (jG (zp (jC (qE (qG (mv (.int .u64 ((valL (l.take j) : Nat) : Int)) rfl (mv (.int .u64 ((valL (l.take j) : Nat) : Int)) rfl (nq ?_)))))))))))
  refine qL (qR ?_)
  refine bodyPost_ret (results_tmp results74 _ _ _) rfl ?_
  subst hjn
  exact ⟨rfl, GG⟩
  have hjn : j < 8 := by have := of_decide_eq_true hp1; omega
  obtain ⟨ad, hao, _⟩ := HN.at (j := j) (by omega)
  refine qL (qT rfl (qK (qE (qB (qG (mv (.int .u64 ((valL (l.take j) : Nat) : Int)) rfl (sv (.int .u64 ((valL (l.take j) * 256 : Nat) : Int)) (KN 64 64 _ _ rfl (valL (l.take j)) 256 rfl rfl (by have := yp l hb j (by omega) hjn; omega) _) rfl (mv (.slice ao m cap) rfl (mv (nK j) rfl (sv (.pointer (some (ad.add j))) (zf bT _ _ rfl ad m cap j (by exact congrArg (fun a => Value.slice a m cap) hao) rfl (by omega) _) rfl (sv (.int .u8 ((l.getD j 0 : Nat) : Int)) (zj bT _ rfl (ad.add j) rfl _ _ ((HN.gro GG).cell ad hao j (by omega))) rfl ?_)))))))))))
  refine nq ?_
  refine sv (.int .u64 ((l.getD j 0 : Nat) : Int)) (conv525 _ rfl (l.getD j 0) (zt hb _) rfl _) rfl (sv (.int .u64 ((valL (l.take (j + 1)) : Nat) : Int)) ((yh 64 64 _ _ rfl (valL (l.take j) * 256) (l.getD j 0) rfl rfl (by have := yp l hb j (by omega) hjn; have := zt hb j; omega) _).trans (by rw [un l j (by omega)])) rfl (mv (.int .u64 ((valL (l.take (j + 1)) : Nat) : Int)) rfl (nq ?_)))
  refine qN (zb (jC (qG (mv (nK j) rfl (sv (nK (j + 1)) (jp _ _ _ rfl ((j : Nat) : Int) 1 _ rfl rfl (by omega) (by omega) (by omega) _) rfl (mv (nK (j + 1)) rfl (nq ?_)))))))
  refine qL ?_
  exact ⟨_, (by omega : 8 - (j + 1) < 8 - j), j + 1, usK ⟨hjn, GG⟩⟩
theorem rnum0 (w : World) (ao : Option Addr) (cap : Nat) (s : List Nat) (HN : NC w .u8 ao cap s) (hs : s.length = 64) : Calls Tryz.prog 74 #[.slice ao 64 cap] w fun e w' => e = .returned (.int .u64 ((nm s 0 : Nat) : Int)) ∧ Gro w w' := ud w ao cap s HN 64 hs (by decide)
theorem rnum1 (w : World) (ao : Option Addr) (cap : Nat) (s : List Nat) (HN : NC w .u8 ao cap s) (hs : s.length = 64) : Calls Tryz.prog 74 #[.slice (cutA ao cap 8) (64 - 8) (cap - 8)] w fun e w' => e = .returned (.int .u64 ((nm s 1 : Nat) : Int)) ∧ Gro w w' := ud w _ _ (s.drop 8) (HN.cutE 8 (by rw [hs]; decide)) (64 - 8) (by rw [List.length_drop, hs]) (by decide)
theorem rnum2 (w : World) (ao : Option Addr) (cap : Nat) (s : List Nat) (HN : NC w .u8 ao cap s) (hs : s.length = 64) : Calls Tryz.prog 74 #[.slice (cutA ao cap 16) (64 - 16) (cap - 16)] w fun e w' => e = .returned (.int .u64 ((nm s 2 : Nat) : Int)) ∧ Gro w w' := ud w _ _ (s.drop 16) (HN.cutE 16 (by rw [hs]; decide)) (64 - 16) (by rw [List.length_drop, hs]) (by decide)
theorem uw (w : World) (ao : Option Addr) (cap n : Nat) (L : List Nat) (HN : NC w .u8 ao cap L) (hLn : L.length = n * 64) (hn2 : 2 ≤ n) : Calls Tryz.prog 54 #[.slice ao (n * 64) cap] w fun e w' => e = .returned (.tuple #[.int .u64 (((cntE L).g : Nat) : Int), .int .u64 (((cntE L).u : Nat) : Int), .int .u64 (((cntE L).c : Nat) : Int)]) ∧ Gro w w' := by
  refine eN func54 rfl ntmps54 [.slice ao (n * 64) cap] ?_
  have GG := Gro.refl w
  have hcap := HN.fit
  have hbl := HN.lt256
  have hlim : lim = 18446744073709551616 := rfl
  refine qE (qG (mv (.int .u64 0) rfl (mv (.int .u64 0) rfl (mv (.int .u64 0) rfl (nq ?_)))))
  refine qA ?_
  refine jH 5 rfl rfl 131 rfl _ zv131 (c101 0 0 0) rfl ?_
  intro w1 gb G egb kgb
  have bgb := jh GG egb
  replace GG := GG.trans G
  clear G egb
  refine nq ?_
  refine qL (qE (qE (qG (mv (iK 0) rfl (nq ?_)))))
  refine qL (qB ?_)
  refine jO (fun mz az wv => ∃ (k : Nat) (us1 : Nat → Value), mz = 2 - k ∧ az = ⟨[.slice ao (n * 64) cap, uD, .int .u64 0, .int .u64 0, .int .u64 0, vP gb 0, nK k, us1 7, us1 8, us1 9, us1 10, us1 11, us1 12, us1 13, us1 14, us1 15, us1 16, us1 17, us1 18, us1 19, us1 20, us1 21, us1 22, us1 23, us1 24, us1 25, us1 26, us1 27, us1 28, us1 29, us1 30, us1 31, us1 32, us1 33, us1 34, us1 35, us1 36, us1 37, us1 38, us1 39, us1 40, us1 41, us1 42, us1 43, us1 44, us1 45, us1 46, us1 47, us1 48, us1 49, uD, uD, uD, uD, uD, uD].toArray, []⟩ ∧ k ≤ 2 ∧ Gro w wv ∧ wv.heap[gb]? = some (.cells (c101 (((bestE L k).g : Nat) : Int) (((bestE L k).u : Nat) : Int) (((bestE L k).c : Nat) : Int)) 131 (0, 0))) ?_ _ ⟨0, usK ⟨Nat.zero_le _, GG, kgb⟩⟩
  clear kgb GG
  rintro mz az wv ⟨k, us1, rfl, rfl, hk, GG, kgb⟩
  refine qE (qE (qG (mv (nK k) rfl (nq ?_))))
  obtain ⟨p1, hp1⟩ : ∃ p, decide (((k : Nat) : Int) < 2) = p := ⟨_, rfl⟩
  refine sv (.bool p1) (jv 3 _ _ _ rfl ((k : Nat) : Int) 2 rfl rfl p1 hp1 _) rfl (nq ?_)
  cases p1
  have hkn : k = 2 := by have := of_decide_eq_false hp1; omega
  rw [hkn, best_2] at kgb
  refine qL (qF rfl (wp_exit (jG (jG (zp (jC (qE ?_)))))))
  refine exQ 8 [(0, 50), (1, 51), (2, 52), (3, 53), (4, 54), (5, 55), (6, 2), (7, 3)] [.val (vP gb 0), .val (.int .u64 (((cntE L).g : Nat) : Int)), .val (vP gb 1), .val (.int .u64 (((cntE L).u : Nat) : Int)), .val (vP gb 2), .val (.int .u64 (((cntE L).c : Nat) : Int)), .val (.int .u64 (((cntE L).g : Nat) : Int)), .val (.int .u64 (((cntE L).u : Nat) : Int))] follows (by kernel_rfl) rfl (ja ?_ (ja ?_ (ja ?_ (ja ?_ (ja ?_ (ja ?_ (ja ?_ (ja ?_ jD)))))))) ?_
  exact fun _ _ hw _ => jb rfl (ub _ _ rfl gb 0 rfl rfl (by decide) _)
  exact fun _ _ hw _ => jb rfl (jo 64 _ rfl gb 0 rfl 131 _ (hw.has kgb) (na64 _) _ rfl)
  exact fun _ _ hw _ => jb rfl (ub _ _ rfl gb 1 rfl rfl (by decide) _)
  exact fun _ _ hw _ => jb rfl (jo 64 _ rfl gb 1 rfl 131 _ (hw.has kgb) (na64 _) _ rfl)
  exact fun _ _ hw _ => jb rfl (ub _ _ rfl gb 2 rfl rfl (by decide) _)
  exact fun _ _ hw _ => jb rfl (jo 64 _ rfl gb 2 rfl 131 _ (hw.has kgb) (na64 _) _ rfl)
  exact fun _ _ _ _ => yd _ rfl rfl rfl
  exact fun _ _ _ _ => yd _ rfl rfl rfl
  intro ptrs w2 GD hxE
  simp only [List.drop_succ_cons, List.drop_zero]
  replace kgb := GD.has kgb
  replace GG := GG.drew.trans GD
  clear GD
  refine mv (.int .u64 (((cntE L).c : Nat) : Int)) rfl (nq ?_)
  refine qL (qR ?_)
  refine bodyPost_ret (results_tmp3 results54 _ _ _) rfl ?_
  exact ⟨rfl, GG⟩
  have hkn : k < 2 := by have := of_decide_eq_true hp1; omega
  have hsl : (secL L k).length = 64 := zZ hLn (by omega)
  have HS : NC w .u8 (cutA ao cap (64 * k)) (cap - 64 * k) (secL L k) := by rw [← secS]; exact HN.cutS (64 * k) 64 (by omega) (by omega)
  refine qL (qT rfl (qK (qE (qB (qE (qG (mv (.slice ao (n * 64) cap) rfl (mv (nK k) rfl (sv (nK (64 * k)) (zd _ _ _ rfl 64 ((k : Nat) : Int) _ rfl rfl (by omega) (by omega) (by omega) _) rfl (mv (nK k) rfl (sv (nK (64 * k)) (zd _ _ _ rfl 64 ((k : Nat) : Int) _ rfl rfl (by omega) (by omega) (by omega) _) rfl (sv (nK (64 * k + 64)) (jp _ _ _ rfl ((64 * k : Nat) : Int) 64 _ rfl rfl (by omega) (by omega) (by omega) _) rfl ?_))))))))))))
  refine nq ?_
  refine sv (.slice (cutA ao cap (64 * k)) 64 (cap - 64 * k)) (ZQ _ _ _ rfl ao (n * 64) cap (64 * k) 64 rfl rfl rfl (by omega) _) rfl (mv (.slice (cutA ao cap (64 * k)) 64 (cap - 64 * k)) rfl (nq ?_))
  refine qL (qE (qG (mv (vT) rfl (nq ?_))))
  refine qL (qE (qE (qG (mv (iK 24) rfl (nq ?_)))))
  refine qL (qB ?_)
  refine jO (fun mz az wv => ∃ (i : Nat) (okb : Bool) (us2 : Nat → Value), mz = 64 - i ∧ az = ⟨[.slice ao (n * 64) cap, uD, .int .u64 0, .int .u64 0, .int .u64 0, vP gb 0, nK k, .slice (cutA ao cap (64 * k)) 64 (cap - 64 * k), .bool okb, nK i, nK k, vT, us1 12, us1 13, .slice ao (n * 64) cap, nK k, nK (64 * k), nK k, nK (64 * k), nK (64 * k + 64), .slice (cutA ao cap (64 * k)) 64 (cap - 64 * k), us2 21, us2 22, us2 23, us2 24, us2 25, us2 26, us2 27, us2 28, us2 29, us2 30, us2 31, us2 32, us1 33, us1 34, us1 35, us1 36, us1 37, us1 38, us1 39, us1 40, us1 41, us1 42, us1 43, us1 44, us1 45, us1 46, us1 47, us1 48, us1 49, uD, uD, uD, uD, uD, uD].toArray, []⟩ ∧ i ≤ 64 ∧ 24 ≤ i ∧ (okb = true ↔ ∀ x, 24 ≤ x → x < i → (secL L k).getD x 0 = 0) ∧ Gro w wv ∧ wv.heap[gb]? = some (.cells (c101 (((bestE L k).g : Nat) : Int) (((bestE L k).u : Nat) : Int) (((bestE L k).c : Nat) : Int)) 131 (0, 0))) ?_ _ ⟨24, true, usK ⟨(by decide), Nat.le_refl _, ⟨fun _ x h1 h2 => by omega, fun _ => rfl⟩, GG, kgb⟩⟩
  clear kgb GG
  rintro mz az wv ⟨i, okb, us2, rfl, rfl, hi, hi24, hok, GG, kgb⟩
  refine qE (qE (qG (mv (nK i) rfl (nq ?_))))
  obtain ⟨p2, hp2⟩ : ∃ p, decide (((i : Nat) : Int) < 64) = p := ⟨_, rfl⟩
  refine sv (.bool p2) (jv 3 _ _ _ rfl ((i : Nat) : Int) 64 rfl rfl p2 hp2 _) rfl (nq ?_)
  cases p2
  have hin : i = 64 := by have := of_decide_eq_false hp2; omega
  rw [hin] at hok
  refine qL (qF rfl (wp_exit (jG (jG (zp (jC (qE ?_)))))))
  cases okb
  have hZf := Kz hsl (fun hh => by have := hok.2 hh; cases this)
  refine exQ 6 [(0, 33), (1, 34), (2, 35), (3, 36), (4, 37), (5, 38)] [.val (vF), .val (vF), .val uD, .val uD, .val uD, .val uD] follows (by kernel_rfl) rfl (ja ?_ (ja ?_ (ja ?_ (ja ?_ (ja ?_ (ja ?_ jD)))))) ?_
  exact fun _ _ _ _ => jf _ rfl rfl rfl
  exact fun _ _ _ _ => jf _ rfl rfl rfl
  exact fun _ _ _ _ => jA rfl
  exact fun _ _ _ _ => jA rfl
  exact fun _ _ _ _ => jA rfl
  exact fun _ _ _ _ => jA rfl
  intro ptrs w2 GD hxE
  simp only [List.drop_succ_cons, List.drop_zero]
  replace kgb := GD.has kgb
  replace GG := GG.drew.trans GD
  clear GD
  refine jbs 39 rfl rfl ?_
  refine nq ?_
  refine mv (vF) rfl (nq ?_)
  refine qL (qF rfl (wp_skip (zb (jC (qG (mv (nK k) rfl (sv (nK (k + 1)) (jp _ _ _ rfl ((k : Nat) : Int) 1 _ rfl rfl (by omega) (by omega) (by omega) _) rfl (mv (nK (k + 1)) rfl (nq ?_)))))))))
  refine qL ?_
  exact ⟨_, (by omega : 2 - (k + 1) < 2 - k), k + 1, usK ⟨hkn, GG, (by rw [Kx (by rw [hd_f hZf]; exact Nat.zero_le _)]; exact kgb)⟩⟩
  have hZ := jbe hsl (hok.1 rfl)
  by_cases hgt : (bestE L k).g < nm (secL L k) 0
  refine exQ 6 [(0, 33), (1, 34), (2, 35), (3, 36), (4, 37), (5, 38)] [.val (vT), .val (vT), .val (.slice (cutA ao cap (64 * k)) 64 (cap - 64 * k)), .val (.int .u64 ((nm (secL L k) 0 : Nat) : Int)), .val (vP gb 0), .val (.int .u64 (((bestE L k).g : Nat) : Int))] follows (by kernel_rfl) rfl (ja ?_ (ja ?_ (ja ?_ (ja ?_ (ja ?_ (ja ?_ jD)))))) ?_
  exact fun _ _ _ _ => jf _ rfl rfl rfl
  exact fun _ _ _ _ => jf _ rfl rfl rfl
  exact fun _ _ _ _ => jf _ rfl rfl rfl
  exact fun _ _ hw _ => zi (.val (.int .u64 ((nm (secL L k) 0 : Nat) : Int))) rfl _ 74 call74 rfl rfl _ rfl [.slice (cutA ao cap (64 * k)) 64 (cap - 64 * k)] rfl ((rnum0 _ _ _ _ (HS.gro (GG.drew.trans hw)) hsl).mono fun e w' ⟨he, hg⟩ => ⟨_, he, hg, rfl⟩)
  exact fun _ _ hw _ => jb rfl (ub _ _ rfl gb 0 rfl rfl (by decide) _)
  exact fun _ _ hw _ => jb rfl (jo 64 _ rfl gb 0 rfl 131 _ (hw.has kgb) (na64 _) _ rfl)
  intro ptrs w2 GD hxE
  simp only [List.drop_succ_cons, List.drop_zero]
  replace kgb := GD.has kgb
  replace GG := GG.drew.trans GD
  clear GD
  refine YU 39 rfl rfl (vT) (jR 64 64 _ _ rfl (nm (secL L k) 0) (bestE L k).g rfl rfl true (by first | exact decide_eq_true (by omega) | exact decide_eq_false (by omega)) _) ?_
  refine nq ?_
  refine mv (vT) rfl (nq ?_)
  refine qL (qT rfl ?_)
  refine exQ 7 [(0, 41), (1, 42), (2, 43), (3, 44), (4, 45), (5, 46), (6, 47)] [.val (.slice (cutA ao cap (64 * k)) 64 (cap - 64 * k)), .val (.int .u64 ((nm (secL L k) 0 : Nat) : Int)), .val (.slice (cutA ao cap (64 * k)) 64 (cap - 64 * k)), .val (.slice (cutA (cutA ao cap (64 * k)) (cap - 64 * k) 8) (64 - 8) (cap - 64 * k - 8)), .val (.int .u64 ((nm (secL L k) 1 : Nat) : Int)), .val (.slice (cutA ao cap (64 * k)) 64 (cap - 64 * k)), .val (.slice (cutA (cutA ao cap (64 * k)) (cap - 64 * k) 16) (64 - 16) (cap - 64 * k - 16))] follows (by kernel_rfl) rfl (ja ?_ (ja ?_ (ja ?_ (ja ?_ (ja ?_ (ja ?_ (ja ?_ jD))))))) ?_
  exact fun _ _ _ _ => jf _ rfl rfl rfl
  exact fun _ _ hw _ => zi (.val (.int .u64 ((nm (secL L k) 0 : Nat) : Int))) rfl _ 74 call74 rfl rfl _ rfl [.slice (cutA ao cap (64 * k)) 64 (cap - 64 * k)] rfl ((rnum0 _ _ _ _ (HS.gro (GG.drew.trans hw)) hsl).mono fun e w' ⟨he, hg⟩ => ⟨_, he, hg, rfl⟩)
  exact fun _ _ _ _ => jf _ rfl rfl rfl
  exact fun _ _ hw _ => jb rfl (Jm _ _ rfl (cutA ao cap (64 * k)) 64 (cap - 64 * k) 8 rfl rfl (by decide) _)
  exact fun _ _ hw _ => zi (.val (.int .u64 ((nm (secL L k) 1 : Nat) : Int))) rfl _ 74 call74 rfl rfl _ rfl [.slice (cutA (cutA ao cap (64 * k)) (cap - 64 * k) 8) (64 - 8) (cap - 64 * k - 8)] rfl ((rnum1 _ _ _ _ (HS.gro (GG.drew.trans hw)) hsl).mono fun e w' ⟨he, hg⟩ => ⟨_, he, hg, rfl⟩)
  exact fun _ _ _ _ => jf _ rfl rfl rfl
  exact fun _ _ hw _ => jb rfl (Jm _ _ rfl (cutA ao cap (64 * k)) 64 (cap - 64 * k) 16 rfl rfl (by decide) _)
  intro ptrs w3 GD hxE
  simp only [List.drop_succ_cons, List.drop_zero]
  replace kgb := GD.has kgb
  replace GG := GG.drew.trans GD
  clear GD
  refine jr 48 rfl rfl _ 74 call74 rfl rfl _ rfl [.slice (cutA (cutA ao cap (64 * k)) (cap - 64 * k) 16) (64 - 16) (cap - 64 * k - 16)] rfl (rnum2 _ _ _ _ (HS.gro GG) hsl) ?_
  intro w4 G
  replace kgb := G.has kgb
  replace GG := GG.trans G
  clear G
  refine nq ?_
  refine sv (.agg (c101 ((nm (secL L k) 0 : Nat) : Int) ((nm (secL L k) 1 : Nat) : Int) ((nm (secL L k) 2 : Nat) : Int))) (jK 131 _ rfl [(0, .int .u64 ((nm (secL L k) 0 : Nat) : Int)), (1, .int .u64 ((nm (secL L k) 1 : Nat) : Int)), (2, .int .u64 ((nm (secL L k) 2 : Nat) : Int))] rfl _ (by kernel_rfl)) rfl (nq ?_)
  refine jE rfl rfl 131 _ _ rfl gb 0 rfl (.agg (c101 ((nm (secL L k) 0 : Nat) : Int) ((nm (secL L k) 1 : Nat) : Int) ((nm (secL L k) 2 : Nat) : Int))) rfl 131 _ kgb (c101 ((nm (secL L k) 0 : Nat) : Int) ((nm (secL L k) 1 : Nat) : Int) ((nm (secL L k) 2 : Nat) : Int)) rfl (by kernel_rfl) (Nat.le_of_ble_eq_true rfl) (by kernel_rfl) (c101 ((nm (secL L k) 0 : Nat) : Int) ((nm (secL L k) 1 : Nat) : Int) ((nm (secL L k) 2 : Nat) : Int)) (by kernel_rfl) ?_
  intro w5 St
  replace GG := GG.store St bgb
  replace kgb := St.new
  clear St
  refine qN (zb (jC (qG (mv (nK k) rfl (sv (nK (k + 1)) (jp _ _ _ rfl ((k : Nat) : Int) 1 _ rfl rfl (by omega) (by omega) (by omega) _) rfl (mv (nK (k + 1)) rfl (nq ?_)))))))
  refine qL ?_
  have hY := best_yes hZ hgt
  exact ⟨_, (by omega : 2 - (k + 1) < 2 - k), k + 1, usK ⟨hkn, GG, (by rw [hY]; exact kgb)⟩⟩
  replace hgt : nm (secL L k) 0 ≤ (bestE L k).g := Nat.le_of_not_lt hgt
  refine exQ 6 [(0, 33), (1, 34), (2, 35), (3, 36), (4, 37), (5, 38)] [.val (vT), .val (vT), .val (.slice (cutA ao cap (64 * k)) 64 (cap - 64 * k)), .val (.int .u64 ((nm (secL L k) 0 : Nat) : Int)), .val (vP gb 0), .val (.int .u64 (((bestE L k).g : Nat) : Int))] follows (by kernel_rfl) rfl (ja ?_ (ja ?_ (ja ?_ (ja ?_ (ja ?_ (ja ?_ jD)))))) ?_
  exact fun _ _ _ _ => jf _ rfl rfl rfl
  exact fun _ _ _ _ => jf _ rfl rfl rfl
  exact fun _ _ _ _ => jf _ rfl rfl rfl
  exact fun _ _ hw _ => zi (.val (.int .u64 ((nm (secL L k) 0 : Nat) : Int))) rfl _ 74 call74 rfl rfl _ rfl [.slice (cutA ao cap (64 * k)) 64 (cap - 64 * k)] rfl ((rnum0 _ _ _ _ (HS.gro (GG.drew.trans hw)) hsl).mono fun e w' ⟨he, hg⟩ => ⟨_, he, hg, rfl⟩)
  exact fun _ _ hw _ => jb rfl (ub _ _ rfl gb 0 rfl rfl (by decide) _)
  exact fun _ _ hw _ => jb rfl (jo 64 _ rfl gb 0 rfl 131 _ (hw.has kgb) (na64 _) _ rfl)
  intro ptrs w2 GD hxE
  simp only [List.drop_succ_cons, List.drop_zero]
  replace kgb := GD.has kgb
  replace GG := GG.drew.trans GD
  clear GD
  refine YU 39 rfl rfl (vF) (jR 64 64 _ _ rfl (nm (secL L k) 0) (bestE L k).g rfl rfl false (by first | exact decide_eq_true (by omega) | exact decide_eq_false (by omega)) _) ?_
  refine nq ?_
  refine mv (vF) rfl (nq ?_)
  refine qL (qF rfl (wp_skip (zb (jC (qG (mv (nK k) rfl (sv (nK (k + 1)) (jp _ _ _ rfl ((k : Nat) : Int) 1 _ rfl rfl (by omega) (by omega) (by omega) _) rfl (mv (nK (k + 1)) rfl (nq ?_)))))))))
  refine qL ?_
  exact ⟨_, (by omega : 2 - (k + 1) < 2 - k), k + 1, usK ⟨hkn, GG, (by rw [Kx (Nat.le_trans hd_le hgt)]; exact kgb)⟩⟩
  have hin : i < 64 := by have := of_decide_eq_true hp2; omega
  refine qL (qT rfl (qK (qE (qB ?_))))
  refine jg ?_
  intro OPS hY
  have y1 := hY 1 26 rfl
  clear hY
  cases okb
  have hokf : ¬ ∀ x, 24 ≤ x → x < i → (secL L k).getD x 0 = 0 := fun hh => by have := hok.2 hh; cases this
  refine mv (vF) rfl (mv (vF) rfl (jk 27 rfl rfl y1 rfl (jk 28 rfl rfl y1 rfl (jk 29 rfl rfl y1 rfl (jk 30 rfl rfl y1 rfl ?_)))))
  refine nq ?_
  refine jk 31 rfl rfl y1 rfl (mv (vF) rfl (mv (vF) rfl (nq ?_)))
  refine qN (zb (jC (qG (mv (nK i) rfl (sv (nK (i + 1)) (jp _ _ _ rfl ((i : Nat) : Int) 1 _ rfl rfl (by omega) (by omega) (by omega) _) rfl (mv (nK (i + 1)) rfl (nq ?_)))))))
  refine qL ?_
  exact ⟨_, (by omega : 64 - (i + 1) < 64 - i), i + 1, false, usK ⟨hin, (by omega), ⟨fun hh => by (cases hh), fun hh => absurd (fun x h1 h2 => hh x h1 (by omega)) hokf⟩, GG, kgb⟩⟩
  have hokt := hok.1 rfl
  refine mv (vT) rfl (mv (vT) rfl (jd 27 rfl rfl y1 rfl (.slice (cutA ao cap (64 * k)) 64 (cap - 64 * k)) (rfl) (jd 28 rfl rfl y1 rfl (nK i) (rfl) (nq ?_))))
  obtain ⟨ad, hao, _⟩ := HS.at (j := i) (by rw [hsl]; exact hin)
  refine jd 29 rfl rfl y1 rfl (.pointer (some (ad.add i))) (zf bT _ _ rfl ad 64 (cap - 64 * k) i (by exact congrArg (fun a => Value.slice a 64 (cap - 64 * k)) hao) rfl hin _) (jd 30 rfl rfl y1 rfl (.int .u8 (((secL L k).getD i 0 : Nat) : Int)) (zj bT _ rfl (ad.add i) rfl _ _ ((HS.gro GG).cell ad hao i (by rw [hsl]; exact hin))) (nq ?_))
  obtain ⟨p3, hp3⟩ : ∃ p, decide ((((secL L k).getD i 0 : Nat) : Int) = 0) = p := ⟨_, rfl⟩
  refine jd 31 rfl rfl y1 rfl (.bool p3) (jw 5 .u8 _ _ _ rfl underlying5 (((secL L k).getD i 0 : Nat) : Int) 0 rfl rfl p3 hp3 _) (nq ?_)
  cases p3
  have hbz : ¬ (secL L k).getD i 0 = 0 := by have := of_decide_eq_false hp3; omega
  refine vw _ rfl rfl (vF) rfl ?_
  refine vw _ rfl rfl (vF) rfl ?_
  refine nq ?_
  refine qN (zb (jC (qG (mv (nK i) rfl (sv (nK (i + 1)) (jp _ _ _ rfl ((i : Nat) : Int) 1 _ rfl rfl (by omega) (by omega) (by omega) _) rfl (mv (nK (i + 1)) rfl (nq ?_)))))))
  refine qL ?_
  exact ⟨_, (by omega : 64 - (i + 1) < 64 - i), i + 1, false, usK ⟨hin, (by omega), ⟨fun hh => by (cases hh), fun hh => absurd (hh i hi24 (by omega)) hbz⟩, GG, kgb⟩⟩
  have hbz : (secL L k).getD i 0 = 0 := by have := of_decide_eq_true hp3; omega
  refine mv (vT) rfl (mv (vT) rfl (nq ?_))
  refine qN (zb (jC (qG (mv (nK i) rfl (sv (nK (i + 1)) (jp _ _ _ rfl ((i : Nat) : Int) 1 _ rfl rfl (by omega) (by omega) (by omega) _) rfl (mv (nK (i + 1)) rfl (nq ?_)))))))
  refine qL ?_
  exact ⟨_, (by omega : 64 - (i + 1) < 64 - i), i + 1, true, usK ⟨hin, (by omega), ⟨fun _ x h1 h2 => by by_cases hxe : x = i; (subst hxe; exact hbz); exact hokt x h1 (by omega), fun _ => rfl⟩, GG, kgb⟩⟩
end Go.Proofs.YtgfnjekpafempaaGreat
