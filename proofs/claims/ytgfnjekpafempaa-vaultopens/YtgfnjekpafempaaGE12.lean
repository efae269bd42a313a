/- The document's heads and rooms. -/
import Derived.Test.YtgfnjekpafempaaGE11
namespace Go.Proofs.Ytgfnjekpafempaa
open Go.RowKit
def cutA (ao : Option Addr) (cap i : Nat) : Option Addr := if cap = i then ao else ao.map (·.add i)
theorem run_cutS {o : Oper} {A : Act} (x y z : Operand) (ho : o.op = .slice 30 x (some y) (some z) none) (ao : Option Addr) (n cap i m : Nat) (hx : A.eval x = .slice ao n cap) (hy : A.eval y = .int .i64 (i : Int)) (hz : A.eval z = .int .i64 ((i + m : Nat) : Int)) (hj : i + m ≤ cap) (w : World) :
    (execOp A.eval o).run Try.prog w = .ok (.value (.slice (cutA ao cap i) m (cap - i))) w := by
  rw [run_cut2 bT x y z ho ao n cap i (i + m) hx hy hz (by omega) hj w, Nat.add_sub_cancel_left]
  rfl
theorem run_cutE {o : Oper} {A : Act} (x y : Operand) (ho : o.op = .slice 30 x (some y) none none) (ao : Option Addr) (n cap i : Nat) (hx : A.eval x = .slice ao n cap) (hy : A.eval y = .int .i64 (i : Int)) (hi : i ≤ n) (w : World) :
    (execOp A.eval o).run Try.prog w = .ok (.value (.slice (cutA ao cap i) (n - i) (cap - i))) w := run_cut bT x y ho ao n cap i hx hy hi w
theorem NC.cutS {w : World} {ao : Option Addr} {cap : Nat} {L : List Nat} (h : NC w .u8 ao cap L) (i m : Nat) (hi : i ≤ L.length) (hm : m ≤ L.length - i) : NC w .u8 (cutA ao cap i) (cap - i) ((L.drop i).take m) := (h.drop i hi).take m (by rw [List.length_drop]; exact hm)
theorem NC.cutE {w : World} {ao : Option Addr} {cap : Nat} {L : List Nat} (h : NC w .u8 ao cap L) (i : Nat) (hi : i ≤ L.length) : NC w .u8 (cutA ao cap i) (cap - i) (L.drop i) := h.drop i hi
theorem run_mulUe {P : Program} {o : Oper} {A : Act} (t t2 : TypeId) (x y : Operand) (ho : o.op = .binOp .mul t x y t2) (a b : Nat) (hx : A.eval x = .int .u64 (a : Int)) (hy : A.eval y = .int .u64 (b : Int)) (h : a * b < lim) (w : World) : (execOp A.eval o).run P w = .ok (.value (.int .u64 ((a * b : Nat) : Int))) w := by
  refine run_binop .mul t x y t2 ho _ _ _ hx hy (by simp [eqGuard]) ?_
  have e : IntKind.u64.wrap ((a : Int) * (b : Int)) = ((a * b : Nat) : Int) := by
    have h2 : lim = 18446744073709551616 := rfl
    rw [← Int.natCast_mul]
    simp only [IntKind.wrap, IntKind.bits, IntKind.signed]
    generalize a * b = c at *
    simp
    omega
  show (Op.intArith .mul .u64 (a : Int) (b : Int)).run P w = _
  unfold Op.intArith
  simp only [Sem.run_pure]
  exact congrArg (fun z => Result.ok (Value.int .u64 z) w) e
def bestE (L : List Nat) : Nat → Hd
  | 0 => ⟨0, 0, 0⟩
  | k + 1 => if (bestE L k).g < (hdE (secL L k)).g then hdE (secL L k) else bestE L k
theorem hdE_0 {s : List Nat} (h : (hdE s).g = 0) : hdE s = ⟨0, 0, 0⟩ := by
  unfold hdE at *
  cases hz : zerosB s
  · rfl
  · rw [hz, cond_true] at h
    rw [cond_true]
    split
    · rfl
    · rename_i h1
      rw [if_neg h1] at h
      exact absurd h h1
theorem best_2 (L : List Nat) : bestE L 2 = cntE L := by
  have h1 : bestE L 1 = hdE (secL L 0) := by
    show (if 0 < (hdE (secL L 0)).g then hdE (secL L 0) else ⟨0, 0, 0⟩) = _
    split
    · rfl
    · rw [hdE_0 (by omega)]
  show (if (bestE L 1).g < (hdE (secL L 1)).g then hdE (secL L 1) else bestE L 1) = _
  rw [h1, cntE]
theorem best_yes {L : List Nat} {k : Nat} (hz : zerosB (secL L k) = true) (h : (bestE L k).g < nm (secL L k) 0) : bestE L (k + 1) = ⟨nm (secL L k) 0, nm (secL L k) 1, nm (secL L k) 2⟩ := by
  have h1 := hdE_v hz (by omega)
  show (if (bestE L k).g < (hdE (secL L k)).g then hdE (secL L k) else bestE L k) = _
  rw [h1, if_pos h]
theorem best_no {L : List Nat} {k : Nat} (h : (hdE (secL L k)).g ≤ (bestE L k).g) : bestE L (k + 1) = bestE L k := by
  show (if (bestE L k).g < (hdE (secL L k)).g then hdE (secL L k) else bestE L k) = _
  rw [if_neg (by omega)]
theorem hd_le {s : List Nat} : (hdE s).g ≤ nm s 0 := by
  unfold hdE
  cases zerosB s
  · exact Nat.zero_le _
  · rw [cond_true]
    split
    · exact Nat.zero_le _
    · exact Nat.le_refl _
theorem hd_f {s : List Nat} (h : zerosB s = false) : (hdE s).g = 0 := by unfold hdE; rw [h]; rfl
theorem zv116 (w : World) : (zeroValue 116).run Try.prog w = .ok (.agg (c119 0 0 0)) w := by kernel_rfl
theorem run_idx3 {o : Oper} {A : Act} (x y : Operand) (ho : o.op = .indexAddr 116 x y) (g j : Nat) (hx : A.eval x = .pointer (some ⟨g, 0, none⟩)) (hy : A.eval y = .int .i64 (j : Int)) (hj : j < 3) (w : World) : (execOp A.eval o).run Try.prog w = .ok (.value (.pointer (some ⟨g, j, none⟩))) w := by
  have h : (Instr.indexAt 116 (.pointer (some ⟨g, 0, none⟩)) (.int .i64 (j : Int))).run Try.prog w = .ok (.pointer (some ⟨g, j, none⟩)) w := by
    rcases (by omega : j = 0 ∨ j = 1 ∨ j = 2) with rfl | rfl | rfl <;> kernel_rfl
  unfold execOp
  simp only [ho, hx, hy, Sem.run_bind, h, Result.andThen_ok, Sem.run_pure]
theorem secS {L : List Nat} {k : Nat} : (L.drop (64 * k)).take 64 = secL L k := by rw [secL, Nat.mul_comm]
theorem zeros_of {s : List Nat} (hs : s.length = 64) (h : ∀ x, 24 ≤ x → x < 64 → s.getD x 0 = 0) : zerosB s = true := (zerosB_iff hs).2 fun i hi => h (24 + i) (by omega) (by omega)
theorem zeros_not {s : List Nat} (hs : s.length = 64) (h : ¬ ∀ x, 24 ≤ x → x < 64 → s.getD x 0 = 0) : zerosB s = false := by
  cases hz : zerosB s
  · rfl
  · refine absurd (fun x h1 h2 => ?_) h
    have := (zerosB_iff hs).1 hz (x - 24) (by omega)
    rwa [show 24 + (x - 24) = x by omega] at this
structure MK (w : World) (mp rp : Nat) (h : Hd) (dw : Bool) : Prop where
  box : w.heap[mp]? = some (.cells (c79 (some ⟨rp, 0, none⟩) (h.g : Int) (h.u : Int) (h.c : Int) dw) 79 (0, 0))
theorem MK.gro {w w' : World} {lp p : Nat} {h : Hd} {dw : Bool} (H : MK w lp p h dw) (G : Gro w w') : MK w' lp p h dw := ⟨G.has H.box⟩
theorem MK.gros {S : List Nat} {w w' : World} {lp p : Nat} {h : Hd} {dw : Bool} (H : MK w lp p h dw) (G : GroS S w w') (hs : lp ∉ S) : MK w' lp p h dw := ⟨G.has H.box hs⟩
set_option maxRecDepth 100000 in
set_option maxHeartbeats 4000000 in
theorem rsectors_any (w : World) (ao : Option Addr) (cap : Nat) (l : List Nat) (hm : l.length ≤ 140737488355328) : Calls Try.prog 33 #[.slice ao l.length cap] w fun e w' => e = .returned (.int .i64 ((secN l.length : Nat) : Int)) ∧ Gro w w' := by
  refine s_enter Try.func33 rfl Try.ntmps33 [.slice ao l.length cap] [.slice ao l.length cap, undef, undef, undef, undef, undef, undef, undef] rfl ?_
  have GG := Gro.refl w
  refine wp_seq ?_
  refine wp_region_lit ?_
  refine s_val 2 rfl rfl (.int .i64 0) (rfl) ?_
  refine nr ?_; intro U h; simp only [z0, z1] at h; subst h
  refine wpList_nil ?_
  refine then_n ?_
  refine wp_seq ?_
  refine wp_region_lit ?_
  refine s_val 3 rfl rfl (.slice ao l.length cap) (rfl) ?_
  refine nr ?_; intro U h; simp only [z0, z1] at h; subst h
  refine s_val 4 rfl rfl (.int .i64 ((l.length : Nat) : Int)) (run_len Try.underlying30 _ rfl _ _ _ rfl _) ?_
  refine nr ?_; intro U h; simp only [z0, z1] at h; subst h
  refine s_val 5 rfl rfl (.int .i64 ((l.length + 2 : Nat) : Int)) (run_add64 _ _ _ rfl ((l.length : Nat) : Int) 2 _ rfl rfl (by omega) (by omega) (by omega) _) ?_
  refine nr ?_; intro U h; simp only [z0, z1] at h; subst h
  refine s_val 6 rfl rfl (.int .i64 ((l.length + 65 : Nat) : Int)) (run_add64 _ _ _ rfl ((l.length + 2 : Nat) : Int) 63 _ rfl rfl (by omega) (by omega) (by omega) _) ?_
  refine nr ?_; intro U h; simp only [z0, z1] at h; subst h
  refine s_val 7 rfl rfl (.int .i64 ((secN l.length : Nat) : Int)) (run_quo64 _ _ _ rfl ((l.length + 65 : Nat) : Int) 64 _ rfl rfl (by decide) (tdivN _ 64) (by omega) (by omega) _) ?_
  refine nr ?_; intro U h; simp only [z0, z1] at h; subst h
  refine s_val 2 rfl rfl (.int .i64 ((secN l.length : Nat) : Int)) (rfl) ?_
  refine nr ?_; intro U h; simp only [z0, z1] at h; subst h
  refine wpList_nil ?_
  refine then_n ?_
  refine wp_ret ?_
  refine bodyPost_ret (results_tmp Try.results33 _ _ _) rfl ?_
  exact ⟨rfl, GG⟩
set_option maxRecDepth 100000 in
set_option maxHeartbeats 4000000 in
theorem rroom_any (w : World) (mp rp : Nat) (h : Hd) (dw : Bool) (HM : MK w mp rp h dw) (B : Nat) (ro : Option Addr) (rc n : Nat) (L : List Nat) (pw dn : Int) (HR : QK w rp B ro rc n L pw dn) (hu : h.u + 2 ≤ n) : Calls Try.prog 34 #[.pointer (some ⟨mp, 0, none⟩)] w fun e w' => e = .returned (.int .i64 ((n - 2 - h.u : Nat) : Int)) ∧ Gro w w' := by
  refine s_enter Try.func34 rfl Try.ntmps34 [.pointer (some ⟨mp, 0, none⟩)] [.pointer (some ⟨mp, 0, none⟩), undef, undef, undef, undef, undef, undef, undef, undef, undef, undef, undef, undef, undef, undef, undef, undef, undef] rfl ?_
  have GG := Gro.refl w
  have kmp := HM.box
  have krp := HR.box
  have hn4 := HR.le
  refine wp_seq ?_
  refine wp_region_lit ?_
  refine s_val 2 rfl rfl (.int .i64 0) (rfl) ?_
  refine nr ?_; intro U h; simp only [z0, z1] at h; subst h
  refine wpList_nil ?_
  refine then_n ?_
  refine wp_seq ?_
  refine wp_region_exA (A := ?Ax1) 14 [(0, 3), (1, 4), (2, 5), (3, 6), (4, 7), (5, 8), (6, 9), (7, 10), (8, 11), (9, 12), (10, 13), (11, 14), (12, 15), (13, 16)] [.val (.pointer (some ⟨mp, 0, none⟩)), .val (.pointer (some ⟨mp, 0, none⟩)), .val (.pointer (some ⟨mp, 0, none⟩)), .val (.pointer (some ⟨rp, 0, none⟩)), .val (.pointer (some ⟨rp, 0, none⟩)), .val (.pointer (some ⟨rp, 0, none⟩)), .val (.slice ro (n * 64) rc), .val (.int .i64 ((n * 64 : Nat) : Int)), .val (.int .i64 ((n : Nat) : Int)), .val (.int .i64 ((n - 2 : Nat) : Int)), .val (.pointer (some ⟨mp, 0, none⟩)), .val (.pointer (some ⟨mp, 0, none⟩)), .val (.pointer (some ⟨mp, 2, none⟩)), .val (.int .i64 ((h.u : Nat) : Int))] follows (by kernel_rfl) rfl ?hAx1 (opsA_cons ?o0x1 (opsA_cons ?o1x1 (opsA_cons ?o2x1 (opsA_cons ?o3x1 (opsA_cons ?o4x1 (opsA_cons ?o5x1 (opsA_cons ?o6x1 (opsA_cons ?o7x1 (opsA_cons ?o8x1 (opsA_cons ?o9x1 (opsA_cons ?o10x1 (opsA_cons ?o11x1 (opsA_cons ?o12x1 (opsA_cons ?o13x1 opsA_nil)))))))))))))) ?restx1
  case hAx1 =>
    intro ptrs
    simp only [full, foldSlots, filledE, postE, List.foldl_cons, List.foldl_nil, List.getD_cons_zero, List.getD_cons_succ, fill_val, List.set_cons_zero, List.set_cons_succ]
    exact rfl
  case o0x1 => exact fun _ _ _ _ => opE_move (v := .pointer (some ⟨mp, 0, none⟩)) _ rfl rfl rfl
  case o1x1 => exact fun _ _ hw _ => opE_value (v := .pointer (some ⟨mp, 0, none⟩)) rfl (run_nc _ rfl _ rfl)
  case o2x1 => exact fun _ _ hw _ => opE_value (v := .pointer (some ⟨mp, 0, none⟩)) rfl (run_fld 79 _ 0 rfl _ _ rfl _ (by kernel_rfl))
  case o3x1 => exact fun _ _ hw _ => opE_value (v := .pointer (some ⟨rp, 0, none⟩)) rfl (run_ldc 23 _ rfl mp 0 rfl 79 _ (hw.has kmp) (na23 _) _ rfl)
  case o4x1 => exact fun _ _ hw _ => opE_value (v := .pointer (some ⟨rp, 0, none⟩)) rfl (run_nc _ rfl _ rfl)
  case o5x1 => exact fun _ _ hw _ => opE_value (v := .pointer (some ⟨rp, 0, none⟩)) rfl (run_fld 36 _ 0 rfl _ _ rfl _ (by kernel_rfl))
  case o6x1 => exact fun _ _ hw _ => opE_value (v := .slice ro (n * 64) rc) rfl (run_ldc 30 _ rfl rp 0 rfl 36 _ (hw.has krp) (na30 _) _ rfl)
  case o7x1 => exact fun _ _ hw _ => opE_value (v := .int .i64 ((n * 64 : Nat) : Int)) rfl (run_len Try.underlying30 _ rfl _ _ _ rfl _)
  case o8x1 => exact fun _ _ hw _ => opE_value (v := .int .i64 ((n : Nat) : Int)) rfl (run_quo64 _ _ _ rfl ((n * 64 : Nat) : Int) 64 _ rfl rfl (by decide) quoN (by omega) (by omega) _)
  case o9x1 => exact fun _ _ hw _ => opE_value (v := .int .i64 ((n - 2 : Nat) : Int)) rfl (run_sub64 _ _ _ rfl ((n : Nat) : Int) 2 _ rfl rfl (by omega) (by omega) (by omega) _)
  case o10x1 => exact fun _ _ _ _ => opE_move (v := .pointer (some ⟨mp, 0, none⟩)) _ rfl rfl rfl
  case o11x1 => exact fun _ _ hw _ => opE_value (v := .pointer (some ⟨mp, 0, none⟩)) rfl (run_nc _ rfl _ rfl)
  case o12x1 => exact fun _ _ hw _ => opE_value (v := .pointer (some ⟨mp, 2, none⟩)) rfl (run_fld 79 _ 2 rfl _ _ rfl _ (by kernel_rfl))
  case o13x1 => exact fun _ _ hw _ => opE_value (v := .int .i64 ((h.u : Nat) : Int)) rfl (run_ldc 3 _ rfl mp 2 rfl 79 _ (hw.has kmp) (na3 _) _ rfl)
  intro ptrs w1 GD hxE
  simp only [List.drop_succ_cons, List.drop_zero]
  replace kmp := GD.has kmp
  replace krp := GD.has krp
  replace GG := GG.drew.trans GD
  clear GD
  refine s_val 17 rfl rfl (.int .i64 ((n - 2 - h.u : Nat) : Int)) (run_sub64 _ _ _ rfl ((n - 2 : Nat) : Int) ((h.u : Nat) : Int) _ rfl rfl (by omega) (by omega) (by omega) _) ?_
  refine nr ?_; intro U h; simp only [z0, z1] at h; subst h
  refine s_val 2 rfl rfl (.int .i64 ((n - 2 - h.u : Nat) : Int)) (rfl) ?_
  refine nr ?_; intro U h; simp only [z0, z1] at h; subst h
  refine wpList_nil ?_
  refine then_n ?_
  refine wp_ret ?_
  refine bodyPost_ret (results_tmp Try.results34 _ _ _) rfl ?_
  exact ⟨rfl, GG⟩
set_option maxRecDepth 100000 in
set_option maxHeartbeats 4000000 in
theorem rnumber_any (w : World) (ao : Option Addr) (cap : Nat) (l : List Nat) (HN : NC w .u8 ao cap l) (m : Nat) (hm : l.length = m) (h8 : 8 ≤ m) : Calls Try.prog 58 #[.slice ao m cap] w fun e w' => e = .returned (.int .u64 ((valL (l.take 8) : Nat) : Int)) ∧ Gro w w' := by
  refine s_enter Try.func58 rfl Try.ntmps58 [.slice ao m cap] [.slice ao m cap, undef, undef, undef, undef, undef, undef, undef, undef, undef, undef, undef, undef, undef, undef, undef, undef, undef] rfl ?_
  have GG := Gro.refl w
  have hlim : lim = 18446744073709551616 := rfl
  have hb := HN.lt256
  refine wp_seq ?_
  refine wp_region_lit ?_
  refine s_val 2 rfl rfl (.int .u64 0) (rfl) ?_
  refine nr ?_; intro U h; simp only [z0, z1] at h; subst h
  refine wpList_nil ?_
  refine then_n ?_
  refine wp_seq ?_
  refine wp_region_lit ?_
  refine s_val 3 rfl rfl (.int .u64 0) (rfl) ?_
  refine nr ?_; intro U h; simp only [z0, z1] at h; subst h
  refine wpList_nil ?_
  refine then_n ?_
  refine wp_seq ?_
  refine wp_seq ?_
  refine wp_region_lit ?_
  refine s_val 4 rfl rfl (.int .i64 0) (rfl) ?_
  refine nr ?_; intro U h; simp only [z0, z1] at h; subst h
  refine wpList_nil ?_
  refine then_n ?_
  refine wp_block ?_
  refine wp_loopN (fun mz az wv => ∃ (j : Nat) (us1 : Nat → Value), mz = 8 - j ∧ az = ⟨[.slice ao m cap, undef, .int .u64 0, .int .u64 ((valL (l.take j) : Nat) : Int), .int .i64 ((j : Nat) : Int), us1 0, us1 1, us1 2, us1 3, us1 4, us1 5, us1 6, us1 7, us1 8, us1 9, us1 10, us1 11, undef].toArray, []⟩ ∧ j ≤ 8 ∧ Gro w wv) ?_ _ ⟨0, (fun kz => ([undef, undef, undef, undef, undef, undef, undef, undef, undef, undef, undef, undef] : List Value).getD kz undef), rfl, rfl, Nat.zero_le _, GG⟩
  clear GG
  rintro mz az wv ⟨j, us1, rfl, rfl, hj, GG⟩
  refine wp_seq ?_
  refine wp_seq ?_
  refine wp_region_lit ?_
  refine s_val 5 rfl rfl (.int .i64 ((j : Nat) : Int)) (rfl) ?_
  refine nr ?_; intro U h; simp only [z0, z1] at h; subst h
  obtain ⟨p1, hp1⟩ : ∃ p, decide (((j : Nat) : Int) < 8) = p := ⟨_, rfl⟩
  refine s_val 6 rfl rfl (.bool p1) (run_lssT 3 _ _ _ rfl ((j : Nat) : Int) 8 rfl rfl p1 hp1 _) ?_
  refine nr ?_; intro U h; simp only [z0, z1] at h; subst h
  cases p1
  · have hjn : j = 8 := by have := of_decide_eq_false hp1; omega
    refine wpList_nil ?_
    refine then_n ?_
    refine wp_cond_false rfl ?_
    refine wp_exit ?_
    refine then_x ?_
    refine then_x ?_
    refine blk_x ?_
    refine then_n ?_
    refine wp_seq ?_
    refine wp_region_lit ?_
    refine s_val 17 rfl rfl (.int .u64 ((valL (l.take j) : Nat) : Int)) (rfl) ?_
    refine nr ?_; intro U h; simp only [z0, z1] at h; subst h
    refine s_val 2 rfl rfl (.int .u64 ((valL (l.take j) : Nat) : Int)) (rfl) ?_
    refine nr ?_; intro U h; simp only [z0, z1] at h; subst h
    refine wpList_nil ?_
    refine then_n ?_
    refine wp_ret ?_
    refine bodyPost_ret (results_tmp Try.results58 _ _ _) rfl ?_
    subst hjn
    exact ⟨rfl, GG⟩
  have hjn : j < 8 := by have := of_decide_eq_true hp1; omega
  obtain ⟨ad, hao, _⟩ := HN.at (j := j) (by omega)
  refine wpList_nil ?_
  refine then_n ?_
  refine wp_cond_true rfl ?_
  refine wp_skip ?_
  refine then_n ?_
  refine wp_seq ?_
  refine wp_block ?_
  refine wp_region_lit ?_
  refine s_val 9 rfl rfl (.int .u64 ((valL (l.take j) : Nat) : Int)) (rfl) ?_
  refine nr ?_; intro U h; simp only [z0, z1] at h; subst h
  refine s_val 10 rfl rfl (.int .u64 ((valL (l.take j) * 256 : Nat) : Int)) (run_mulUe 75 75 _ _ rfl (valL (l.take j)) 256 rfl rfl (by have := valL_small l hb j (by omega) hjn; omega) _) ?_
  refine nr ?_; intro U h; simp only [z0, z1] at h; subst h
  refine s_val 11 rfl rfl (.slice ao m cap) (rfl) ?_
  refine nr ?_; intro U h; simp only [z0, z1] at h; subst h
  refine s_val 12 rfl rfl (.int .i64 ((j : Nat) : Int)) (rfl) ?_
  refine nr ?_; intro U h; simp only [z0, z1] at h; subst h
  refine s_val 13 rfl rfl (.pointer (some (ad.add j))) (run_idx bT _ _ rfl ad m cap j (by exact congrArg (fun a => Value.slice a m cap) hao) rfl (by omega) _) ?_
  refine nr ?_; intro U h; simp only [z0, z1] at h; subst h
  refine s_val 14 rfl rfl (.int .u8 ((l.getD j 0 : Nat) : Int)) (run_ld bT _ rfl (ad.add j) rfl _ _ ((HN.gro GG).cell ad hao j (by omega))) ?_
  refine nr ?_; intro U h; simp only [z0, z1] at h; subst h
  refine s_val 15 rfl rfl (.int .u64 ((l.getD j 0 : Nat) : Int)) (conv525 _ rfl (l.getD j 0) (getD_lt hb _) rfl _) ?_
  refine nr ?_; intro U h; simp only [z0, z1] at h; subst h
  refine s_val 16 rfl rfl (.int .u64 ((valL (l.take (j + 1)) : Nat) : Int)) ((run_addUe 75 75 _ _ rfl (valL (l.take j) * 256) (l.getD j 0) rfl rfl (by have := valL_small l hb j (by omega) hjn; have := getD_lt hb j; omega) _).trans (by rw [valL_step l j (by omega)])) ?_
  refine nr ?_; intro U h; simp only [z0, z1] at h; subst h
  refine s_val 3 rfl rfl (.int .u64 ((valL (l.take (j + 1)) : Nat) : Int)) (rfl) ?_
  refine nr ?_; intro U h; simp only [z0, z1] at h; subst h
  refine wpList_nil ?_
  refine blk_n ?_
  refine then_n ?_
  refine wp_region_lit ?_
  refine s_val 7 rfl rfl (.int .i64 ((j : Nat) : Int)) (rfl) ?_
  refine nr ?_; intro U h; simp only [z0, z1] at h; subst h
  refine s_val 8 rfl rfl (.int .i64 ((j + 1 : Nat) : Int)) (run_add64 _ _ _ rfl ((j : Nat) : Int) 1 _ rfl rfl (by omega) (by omega) (by omega) _) ?_
  refine nr ?_; intro U h; simp only [z0, z1] at h; subst h
  refine s_val 4 rfl rfl (.int .i64 ((j + 1 : Nat) : Int)) (rfl) ?_
  refine nr ?_; intro U h; simp only [z0, z1] at h; subst h
  refine wpList_nil ?_
  refine then_n ?_
  exact ⟨_, (by omega : 8 - (j + 1) < 8 - j), j + 1, (fun kz => ([.int .i64 ((j : Nat) : Int), .bool true, .int .i64 ((j : Nat) : Int), .int .i64 ((j + 1 : Nat) : Int), .int .u64 ((valL (l.take j) : Nat) : Int), .int .u64 ((valL (l.take j) * 256 : Nat) : Int), .slice ao m cap, .int .i64 ((j : Nat) : Int), .pointer (some (ad.add j)), .int .u8 ((l.getD j 0 : Nat) : Int), .int .u64 ((l.getD j 0 : Nat) : Int), .int .u64 ((valL (l.take (j + 1)) : Nat) : Int)] : List Value).getD kz undef), rfl, rfl, hjn, GG⟩
theorem rnum0 (w : World) (ao : Option Addr) (cap : Nat) (s : List Nat) (HN : NC w .u8 ao cap s) (hs : s.length = 64) : Calls Try.prog 58 #[.slice ao 64 cap] w fun e w' => e = .returned (.int .u64 ((nm s 0 : Nat) : Int)) ∧ Gro w w' := rnumber_any w ao cap s HN 64 hs (by decide)
theorem rnum1 (w : World) (ao : Option Addr) (cap : Nat) (s : List Nat) (HN : NC w .u8 ao cap s) (hs : s.length = 64) : Calls Try.prog 58 #[.slice (cutA ao cap 8) (64 - 8) (cap - 8)] w fun e w' => e = .returned (.int .u64 ((nm s 1 : Nat) : Int)) ∧ Gro w w' := rnumber_any w _ _ (s.drop 8) (HN.cutE 8 (by rw [hs]; decide)) (64 - 8) (by rw [List.length_drop, hs]) (by decide)
theorem rnum2 (w : World) (ao : Option Addr) (cap : Nat) (s : List Nat) (HN : NC w .u8 ao cap s) (hs : s.length = 64) : Calls Try.prog 58 #[.slice (cutA ao cap 16) (64 - 16) (cap - 16)] w fun e w' => e = .returned (.int .u64 ((nm s 2 : Nat) : Int)) ∧ Gro w w' := rnumber_any w _ _ (s.drop 16) (HN.cutE 16 (by rw [hs]; decide)) (64 - 16) (by rw [List.length_drop, hs]) (by decide)
set_option maxRecDepth 100000 in
set_option maxHeartbeats 4000000 in
theorem rhead_any (w : World) (ao : Option Addr) (cap n : Nat) (L : List Nat) (HN : NC w .u8 ao cap L) (hLn : L.length = n * 64) (hn2 : 2 ≤ n) : Calls Try.prog 31 #[.slice ao (n * 64) cap] w fun e w' => e = .returned (.tuple #[.int .u64 (((cntE L).g : Nat) : Int), .int .u64 (((cntE L).u : Nat) : Int), .int .u64 (((cntE L).c : Nat) : Int)]) ∧ Gro w w' := by
  refine s_enter Try.func31 rfl Try.ntmps31 [.slice ao (n * 64) cap] [.slice ao (n * 64) cap, undef, undef, undef, undef, undef, undef, undef, undef, undef, undef, undef, undef, undef, undef, undef, undef, undef, undef, undef, undef, undef, undef, undef, undef, undef, undef, undef, undef, undef, undef, undef, undef, undef, undef, undef, undef, undef, undef, undef, undef, undef, undef, undef, undef, undef, undef, undef, undef, undef, undef, undef, undef, undef, undef, undef] rfl ?_
  have GG := Gro.refl w
  have hcap := HN.fit
  have hbl := HN.lt256
  have hlim : lim = 18446744073709551616 := rfl
  refine wp_seq ?_
  refine wp_region_lit ?_
  refine s_val 2 rfl rfl (.int .u64 0) (rfl) ?_
  refine nr ?_; intro U h; simp only [z0, z1] at h; subst h
  refine s_val 3 rfl rfl (.int .u64 0) (rfl) ?_
  refine nr ?_; intro U h; simp only [z0, z1] at h; subst h
  refine s_val 4 rfl rfl (.int .u64 0) (rfl) ?_
  refine nr ?_; intro U h; simp only [z0, z1] at h; subst h
  refine wpList_nil ?_
  refine then_n ?_
  refine wp_seq ?_
  refine wp_region_lit ?_
  refine s_alloc 5 rfl rfl 116 rfl _ zv116 (c119 0 0 0) rfl ?_
  intro w1 gb G egb kgb
  have bgb := size_base GG egb
  replace GG := GG.trans G
  clear G egb
  refine nr ?_; intro U h; simp only [z0, z1] at h; subst h
  refine wpList_nil ?_
  refine then_n ?_
  refine wp_seq ?_
  refine wp_seq ?_
  refine wp_region_lit ?_
  refine s_val 6 rfl rfl (.int .i64 0) (rfl) ?_
  refine nr ?_; intro U h; simp only [z0, z1] at h; subst h
  refine wpList_nil ?_
  refine then_n ?_
  refine wp_block ?_
  refine wp_loopN (fun mz az wv => ∃ (k : Nat) (us1 : Nat → Value), mz = 2 - k ∧ az = ⟨[.slice ao (n * 64) cap, undef, .int .u64 0, .int .u64 0, .int .u64 0, .pointer (some ⟨gb, 0, none⟩), .int .i64 ((k : Nat) : Int), us1 0, us1 1, us1 2, us1 3, us1 4, us1 5, us1 6, us1 7, us1 8, us1 9, us1 10, us1 11, us1 12, us1 13, us1 14, us1 15, us1 16, us1 17, us1 18, us1 19, us1 20, us1 21, us1 22, us1 23, us1 24, us1 25, us1 26, us1 27, us1 28, us1 29, us1 30, us1 31, us1 32, us1 33, us1 34, us1 35, us1 36, us1 37, us1 38, us1 39, us1 40, us1 41, us1 42, undef, undef, undef, undef, undef, undef].toArray, []⟩ ∧ k ≤ 2 ∧ Gro w wv ∧ wv.heap[gb]? = some (.cells (c119 (((bestE L k).g : Nat) : Int) (((bestE L k).u : Nat) : Int) (((bestE L k).c : Nat) : Int)) 116 (0, 0))) ?_ _ ⟨0, (fun kz => ([undef, undef, undef, undef, undef, undef, undef, undef, undef, undef, undef, undef, undef, undef, undef, undef, undef, undef, undef, undef, undef, undef, undef, undef, undef, undef, undef, undef, undef, undef, undef, undef, undef, undef, undef, undef, undef, undef, undef, undef, undef, undef, undef] : List Value).getD kz undef), rfl, rfl, Nat.zero_le _, GG, kgb⟩
  clear kgb GG
  rintro mz az wv ⟨k, us1, rfl, rfl, hk, GG, kgb⟩
  refine wp_seq ?_
  refine wp_seq ?_
  refine wp_region_lit ?_
  refine s_val 10 rfl rfl (.int .i64 ((k : Nat) : Int)) (rfl) ?_
  refine nr ?_; intro U h; simp only [z0, z1] at h; subst h
  obtain ⟨p1, hp1⟩ : ∃ p, decide (((k : Nat) : Int) < 2) = p := ⟨_, rfl⟩
  refine s_val 11 rfl rfl (.bool p1) (run_lssT 3 _ _ _ rfl ((k : Nat) : Int) 2 rfl rfl p1 hp1 _) ?_
  refine nr ?_; intro U h; simp only [z0, z1] at h; subst h
  cases p1
  · have hkn : k = 2 := by have := of_decide_eq_false hp1; omega
    rw [hkn, best_2] at kgb
    refine wpList_nil ?_
    refine then_n ?_
    refine wp_cond_false rfl ?_
    refine wp_exit ?_
    refine then_x ?_
    refine then_x ?_
    refine blk_x ?_
    refine then_n ?_
    refine wp_seq ?_
    refine wp_region_exA (A := ?Ax2) 8 [(0, 50), (1, 51), (2, 52), (3, 53), (4, 54), (5, 55), (6, 2), (7, 3)] [.val (.pointer (some ⟨gb, 0, none⟩)), .val (.int .u64 (((cntE L).g : Nat) : Int)), .val (.pointer (some ⟨gb, 1, none⟩)), .val (.int .u64 (((cntE L).u : Nat) : Int)), .val (.pointer (some ⟨gb, 2, none⟩)), .val (.int .u64 (((cntE L).c : Nat) : Int)), .val (.int .u64 (((cntE L).g : Nat) : Int)), .val (.int .u64 (((cntE L).u : Nat) : Int))] follows (by kernel_rfl) rfl ?hAx2 (opsA_cons ?o0x2 (opsA_cons ?o1x2 (opsA_cons ?o2x2 (opsA_cons ?o3x2 (opsA_cons ?o4x2 (opsA_cons ?o5x2 (opsA_cons ?o6x2 (opsA_cons ?o7x2 opsA_nil)))))))) ?restx2
    case hAx2 =>
      intro ptrs
      simp only [full, foldSlots, filledE, postE, List.foldl_cons, List.foldl_nil, List.getD_cons_zero, List.getD_cons_succ, fill_val, List.set_cons_zero, List.set_cons_succ]
      exact rfl
    case o0x2 => exact fun _ _ hw _ => opE_value (v := .pointer (some ⟨gb, 0, none⟩)) rfl (run_idx3 _ _ rfl gb 0 rfl rfl (by decide) _)
    case o1x2 => exact fun _ _ hw _ => opE_value (v := .int .u64 (((cntE L).g : Nat) : Int)) rfl (run_ldc 75 _ rfl gb 0 rfl 116 _ (hw.has kgb) (na75 _) _ rfl)
    case o2x2 => exact fun _ _ hw _ => opE_value (v := .pointer (some ⟨gb, 1, none⟩)) rfl (run_idx3 _ _ rfl gb 1 rfl rfl (by decide) _)
    case o3x2 => exact fun _ _ hw _ => opE_value (v := .int .u64 (((cntE L).u : Nat) : Int)) rfl (run_ldc 75 _ rfl gb 1 rfl 116 _ (hw.has kgb) (na75 _) _ rfl)
    case o4x2 => exact fun _ _ hw _ => opE_value (v := .pointer (some ⟨gb, 2, none⟩)) rfl (run_idx3 _ _ rfl gb 2 rfl rfl (by decide) _)
    case o5x2 => exact fun _ _ hw _ => opE_value (v := .int .u64 (((cntE L).c : Nat) : Int)) rfl (run_ldc 75 _ rfl gb 2 rfl 116 _ (hw.has kgb) (na75 _) _ rfl)
    case o6x2 => exact fun _ _ _ _ => opE_assign (v := .int .u64 (((cntE L).g : Nat) : Int)) _ rfl rfl rfl
    case o7x2 => exact fun _ _ _ _ => opE_assign (v := .int .u64 (((cntE L).u : Nat) : Int)) _ rfl rfl rfl
    intro ptrs w2 GD hxE
    simp only [List.drop_succ_cons, List.drop_zero]
    replace kgb := GD.has kgb
    replace GG := GG.drew.trans GD
    clear GD
    refine s_val 4 rfl rfl (.int .u64 (((cntE L).c : Nat) : Int)) (rfl) ?_
    refine nr ?_; intro U h; simp only [z0, z1] at h; subst h
    refine wpList_nil ?_
    refine then_n ?_
    refine wp_ret ?_
    refine bodyPost_ret (results_tmp3 Try.results31 _ _ _) rfl ?_
    exact ⟨rfl, GG⟩
  have hkn : k < 2 := by have := of_decide_eq_true hp1; omega
  have hsl : (secL L k).length = 64 := secL_len hLn (by omega)
  have HS : NC w .u8 (cutA ao cap (64 * k)) (cap - 64 * k) (secL L k) := by rw [← secS]; exact HN.cutS (64 * k) 64 (by omega) (by omega)
  refine wpList_nil ?_
  refine then_n ?_
  refine wp_cond_true rfl ?_
  refine wp_skip ?_
  refine then_n ?_
  refine wp_seq ?_
  refine wp_block ?_
  refine wp_seq ?_
  refine wp_region_lit ?_
  refine s_val 14 rfl rfl (.slice ao (n * 64) cap) (rfl) ?_
  refine nr ?_; intro U h; simp only [z0, z1] at h; subst h
  refine s_val 15 rfl rfl (.int .i64 ((k : Nat) : Int)) (rfl) ?_
  refine nr ?_; intro U h; simp only [z0, z1] at h; subst h
  refine s_val 16 rfl rfl (.int .i64 ((64 * k : Nat) : Int)) (run_mul64 _ _ _ rfl 64 ((k : Nat) : Int) _ rfl rfl (by omega) (by omega) (by omega) _) ?_
  refine nr ?_; intro U h; simp only [z0, z1] at h; subst h
  refine s_val 17 rfl rfl (.int .i64 ((k : Nat) : Int)) (rfl) ?_
  refine nr ?_; intro U h; simp only [z0, z1] at h; subst h
  refine s_val 18 rfl rfl (.int .i64 ((64 * k : Nat) : Int)) (run_mul64 _ _ _ rfl 64 ((k : Nat) : Int) _ rfl rfl (by omega) (by omega) (by omega) _) ?_
  refine nr ?_; intro U h; simp only [z0, z1] at h; subst h
  refine s_val 19 rfl rfl (.int .i64 ((64 * k + 64 : Nat) : Int)) (run_add64 _ _ _ rfl ((64 * k : Nat) : Int) 64 _ rfl rfl (by omega) (by omega) (by omega) _) ?_
  refine nr ?_; intro U h; simp only [z0, z1] at h; subst h
  refine s_val 20 rfl rfl (.slice (cutA ao cap (64 * k)) 64 (cap - 64 * k)) (run_cutS _ _ _ rfl ao (n * 64) cap (64 * k) 64 rfl rfl rfl (by omega) _) ?_
  refine nr ?_; intro U h; simp only [z0, z1] at h; subst h
  refine s_val 7 rfl rfl (.slice (cutA ao cap (64 * k)) 64 (cap - 64 * k)) (rfl) ?_
  refine nr ?_; intro U h; simp only [z0, z1] at h; subst h
  refine wpList_nil ?_
  refine then_n ?_
  refine wp_seq ?_
  refine wp_region_lit ?_
  refine s_val 8 rfl rfl (.bool true) (rfl) ?_
  refine nr ?_; intro U h; simp only [z0, z1] at h; subst h
  refine wpList_nil ?_
  refine then_n ?_
  refine wp_seq ?_
  refine wp_seq ?_
  refine wp_region_lit ?_
  refine s_val 9 rfl rfl (.int .i64 24) (rfl) ?_
  refine nr ?_; intro U h; simp only [z0, z1] at h; subst h
  refine wpList_nil ?_
  refine then_n ?_
  refine wp_block ?_
  refine wp_loopN (fun mz az wv => ∃ (i : Nat) (okb : Bool) (us2 : Nat → Value), mz = 64 - i ∧ az = ⟨[.slice ao (n * 64) cap, undef, .int .u64 0, .int .u64 0, .int .u64 0, .pointer (some ⟨gb, 0, none⟩), .int .i64 ((k : Nat) : Int), .slice (cutA ao cap (64 * k)) 64 (cap - 64 * k), .bool okb, .int .i64 ((i : Nat) : Int), .int .i64 ((k : Nat) : Int), .bool true, us1 5, us1 6, .slice ao (n * 64) cap, .int .i64 ((k : Nat) : Int), .int .i64 ((64 * k : Nat) : Int), .int .i64 ((k : Nat) : Int), .int .i64 ((64 * k : Nat) : Int), .int .i64 ((64 * k + 64 : Nat) : Int), .slice (cutA ao cap (64 * k)) 64 (cap - 64 * k), us2 0, us2 1, us2 2, us2 3, us2 4, us2 5, us2 6, us2 7, us2 8, us2 9, us2 10, us2 11, us1 26, us1 27, us1 28, us1 29, us1 30, us1 31, us1 32, us1 33, us1 34, us1 35, us1 36, us1 37, us1 38, us1 39, us1 40, us1 41, us1 42, undef, undef, undef, undef, undef, undef].toArray, []⟩ ∧ i ≤ 64 ∧ 24 ≤ i ∧ (okb = true ↔ ∀ x, 24 ≤ x → x < i → (secL L k).getD x 0 = 0) ∧ Gro w wv ∧ wv.heap[gb]? = some (.cells (c119 (((bestE L k).g : Nat) : Int) (((bestE L k).u : Nat) : Int) (((bestE L k).c : Nat) : Int)) 116 (0, 0))) ?_ _ ⟨24, true, (fun kz => ([us1 14, us1 15, us1 16, us1 17, us1 18, us1 19, us1 20, us1 21, us1 22, us1 23, us1 24, us1 25] : List Value).getD kz undef), rfl, rfl, (by decide), Nat.le_refl _, ⟨fun _ x h1 h2 => by omega, fun _ => rfl⟩, GG, kgb⟩
  clear kgb GG
  rintro mz az wv ⟨i, okb, us2, rfl, rfl, hi, hi24, hok, GG, kgb⟩
  refine wp_seq ?_
  refine wp_seq ?_
  refine wp_region_lit ?_
  refine s_val 21 rfl rfl (.int .i64 ((i : Nat) : Int)) (rfl) ?_
  refine nr ?_; intro U h; simp only [z0, z1] at h; subst h
  obtain ⟨p2, hp2⟩ : ∃ p, decide (((i : Nat) : Int) < 64) = p := ⟨_, rfl⟩
  refine s_val 22 rfl rfl (.bool p2) (run_lssT 3 _ _ _ rfl ((i : Nat) : Int) 64 rfl rfl p2 hp2 _) ?_
  refine nr ?_; intro U h; simp only [z0, z1] at h; subst h
  cases p2
  · have hin : i = 64 := by have := of_decide_eq_false hp2; omega
    rw [hin] at hok
    refine wpList_nil ?_
    refine then_n ?_
    refine wp_cond_false rfl ?_
    refine wp_exit ?_
    refine then_x ?_
    refine then_x ?_
    refine blk_x ?_
    refine then_n ?_
    refine wp_seq ?_
    cases okb
    · have hZf := zeros_not hsl (fun hh => by have := hok.2 hh; cases this)
      refine wp_region_exA (A := ?Ax3) 6 [(0, 33), (1, 34), (2, 35), (3, 36), (4, 37), (5, 38)] [.val (.bool false), .val (.bool false), .val undef, .val undef, .val undef, .val undef] follows (by kernel_rfl) rfl ?hAx3 (opsA_cons ?o0x3 (opsA_cons ?o1x3 (opsA_cons ?o2x3 (opsA_cons ?o3x3 (opsA_cons ?o4x3 (opsA_cons ?o5x3 opsA_nil)))))) ?restx3
      case hAx3 =>
        intro ptrs
        simp only [full, foldSlots, filledE, postE, List.foldl_cons, List.foldl_nil, List.getD_cons_zero, List.getD_cons_succ, fill_val, List.set_cons_zero, List.set_cons_succ]
        exact rfl
      case o0x3 => exact fun _ _ _ _ => opE_move (v := .bool false) _ rfl rfl rfl
      case o1x3 => exact fun _ _ _ _ => opE_move (v := .bool false) _ rfl rfl rfl
      case o2x3 => exact fun _ _ _ _ => opE_skip rfl
      case o3x3 => exact fun _ _ _ _ => opE_skip rfl
      case o4x3 => exact fun _ _ _ _ => opE_skip rfl
      case o5x3 => exact fun _ _ _ _ => opE_skip rfl
      intro ptrs w2 GD hxE
      simp only [List.drop_succ_cons, List.drop_zero]
      replace kgb := GD.has kgb
      replace GG := GG.drew.trans GD
      clear GD
      refine s_skip 39 rfl rfl ?_
      refine nr ?_; intro U h; simp only [z0, z1] at h; subst h
      refine s_val 40 rfl rfl (.bool false) (rfl) ?_
      refine nr ?_; intro U h; simp only [z0, z1] at h; subst h
      refine wpList_nil ?_
      refine then_n ?_
      refine wp_cond_false rfl ?_
      refine wp_skip ?_
      refine blk_n ?_
      refine then_n ?_
      refine wp_region_lit ?_
      refine s_val 12 rfl rfl (.int .i64 ((k : Nat) : Int)) (rfl) ?_
      refine nr ?_; intro U h; simp only [z0, z1] at h; subst h
      refine s_val 13 rfl rfl (.int .i64 ((k + 1 : Nat) : Int)) (run_add64 _ _ _ rfl ((k : Nat) : Int) 1 _ rfl rfl (by omega) (by omega) (by omega) _) ?_
      refine nr ?_; intro U h; simp only [z0, z1] at h; subst h
      refine s_val 6 rfl rfl (.int .i64 ((k + 1 : Nat) : Int)) (rfl) ?_
      refine nr ?_; intro U h; simp only [z0, z1] at h; subst h
      refine wpList_nil ?_
      refine then_n ?_
      exact ⟨_, (by omega : 2 - (k + 1) < 2 - k), k + 1, (fun kz => ([.slice (cutA ao cap (64 * k)) 64 (cap - 64 * k), .bool false, .int .i64 ((i : Nat) : Int), .int .i64 ((k : Nat) : Int), .bool true, .int .i64 ((k : Nat) : Int), .int .i64 ((k + 1 : Nat) : Int), .slice ao (n * 64) cap, .int .i64 ((k : Nat) : Int), .int .i64 ((64 * k : Nat) : Int), .int .i64 ((k : Nat) : Int), .int .i64 ((64 * k : Nat) : Int), .int .i64 ((64 * k + 64 : Nat) : Int), .slice (cutA ao cap (64 * k)) 64 (cap - 64 * k), .int .i64 ((i : Nat) : Int), .bool false, us2 2, us2 3, us2 4, us2 5, us2 6, us2 7, us2 8, us2 9, us2 10, us2 11, .bool false, .bool false, undef, undef, undef, undef, undef, .bool false, us1 34, us1 35, us1 36, us1 37, us1 38, us1 39, us1 40, us1 41, us1 42] : List Value).getD kz undef), rfl, rfl, hkn, GG, (by rw [best_no (by rw [hd_f hZf]; exact Nat.zero_le _)]; exact kgb)⟩
    have hZ := zeros_of hsl (hok.1 rfl)
    by_cases hgt : (bestE L k).g < nm (secL L k) 0
    · refine wp_region_exA (A := ?Ax4) 6 [(0, 33), (1, 34), (2, 35), (3, 36), (4, 37), (5, 38)] [.val (.bool true), .val (.bool true), .val (.slice (cutA ao cap (64 * k)) 64 (cap - 64 * k)), .val (.int .u64 ((nm (secL L k) 0 : Nat) : Int)), .val (.pointer (some ⟨gb, 0, none⟩)), .val (.int .u64 (((bestE L k).g : Nat) : Int))] follows (by kernel_rfl) rfl ?hAx4 (opsA_cons ?o0x4 (opsA_cons ?o1x4 (opsA_cons ?o2x4 (opsA_cons ?o3x4 (opsA_cons ?o4x4 (opsA_cons ?o5x4 opsA_nil)))))) ?restx4
      case hAx4 =>
        intro ptrs
        simp only [full, foldSlots, filledE, postE, List.foldl_cons, List.foldl_nil, List.getD_cons_zero, List.getD_cons_succ, fill_val, List.set_cons_zero, List.set_cons_succ]
        exact rfl
      case o0x4 => exact fun _ _ _ _ => opE_move (v := .bool true) _ rfl rfl rfl
      case o1x4 => exact fun _ _ _ _ => opE_move (v := .bool true) _ rfl rfl rfl
      case o2x4 => exact fun _ _ _ _ => opE_move (v := .slice (cutA ao cap (64 * k)) 64 (cap - 64 * k)) _ rfl rfl rfl
      case o3x4 => exact fun _ _ hw _ => opE_call (.val (.int .u64 ((nm (secL L k) 0 : Nat) : Int))) rfl _ 58 Try.call58 rfl rfl _ rfl [.slice (cutA ao cap (64 * k)) 64 (cap - 64 * k)] rfl ((rnum0 _ _ _ _ (HS.gro (GG.drew.trans hw)) hsl).mono fun e w' ⟨he, hg⟩ => ⟨_, he, hg, rfl⟩)
      case o4x4 => exact fun _ _ hw _ => opE_value (v := .pointer (some ⟨gb, 0, none⟩)) rfl (run_idx3 _ _ rfl gb 0 rfl rfl (by decide) _)
      case o5x4 => exact fun _ _ hw _ => opE_value (v := .int .u64 (((bestE L k).g : Nat) : Int)) rfl (run_ldc 75 _ rfl gb 0 rfl 116 _ (hw.has kgb) (na75 _) _ rfl)
      intro ptrs w2 GD hxE
      simp only [List.drop_succ_cons, List.drop_zero]
      replace kgb := GD.has kgb
      replace GG := GG.drew.trans GD
      clear GD
      refine s_gval 39 rfl rfl (.bool true) (run_gtrU 75 75 _ _ rfl (nm (secL L k) 0) (bestE L k).g rfl rfl true (by first | exact decide_eq_true (by omega) | exact decide_eq_false (by omega)) _) ?_
      refine nr ?_; intro U h; simp only [z0, z1] at h; subst h
      refine s_val 40 rfl rfl (.bool true) (rfl) ?_
      refine nr ?_; intro U h; simp only [z0, z1] at h; subst h
      refine wpList_nil ?_
      refine then_n ?_
      refine wp_cond_true rfl ?_
      refine wp_region_exA (A := ?Ax5) 7 [(0, 41), (1, 42), (2, 43), (3, 44), (4, 45), (5, 46), (6, 47)] [.val (.slice (cutA ao cap (64 * k)) 64 (cap - 64 * k)), .val (.int .u64 ((nm (secL L k) 0 : Nat) : Int)), .val (.slice (cutA ao cap (64 * k)) 64 (cap - 64 * k)), .val (.slice (cutA (cutA ao cap (64 * k)) (cap - 64 * k) 8) (64 - 8) (cap - 64 * k - 8)), .val (.int .u64 ((nm (secL L k) 1 : Nat) : Int)), .val (.slice (cutA ao cap (64 * k)) 64 (cap - 64 * k)), .val (.slice (cutA (cutA ao cap (64 * k)) (cap - 64 * k) 16) (64 - 16) (cap - 64 * k - 16))] follows (by kernel_rfl) rfl ?hAx5 (opsA_cons ?o0x5 (opsA_cons ?o1x5 (opsA_cons ?o2x5 (opsA_cons ?o3x5 (opsA_cons ?o4x5 (opsA_cons ?o5x5 (opsA_cons ?o6x5 opsA_nil))))))) ?restx5
      case hAx5 =>
        intro ptrs
        simp only [full, foldSlots, filledE, postE, List.foldl_cons, List.foldl_nil, List.getD_cons_zero, List.getD_cons_succ, fill_val, List.set_cons_zero, List.set_cons_succ]
        exact rfl
      case o0x5 => exact fun _ _ _ _ => opE_move (v := .slice (cutA ao cap (64 * k)) 64 (cap - 64 * k)) _ rfl rfl rfl
      case o1x5 => exact fun _ _ hw _ => opE_call (.val (.int .u64 ((nm (secL L k) 0 : Nat) : Int))) rfl _ 58 Try.call58 rfl rfl _ rfl [.slice (cutA ao cap (64 * k)) 64 (cap - 64 * k)] rfl ((rnum0 _ _ _ _ (HS.gro (GG.drew.trans hw)) hsl).mono fun e w' ⟨he, hg⟩ => ⟨_, he, hg, rfl⟩)
      case o2x5 => exact fun _ _ _ _ => opE_move (v := .slice (cutA ao cap (64 * k)) 64 (cap - 64 * k)) _ rfl rfl rfl
      case o3x5 => exact fun _ _ hw _ => opE_value (v := .slice (cutA (cutA ao cap (64 * k)) (cap - 64 * k) 8) (64 - 8) (cap - 64 * k - 8)) rfl (run_cutE _ _ rfl (cutA ao cap (64 * k)) 64 (cap - 64 * k) 8 rfl rfl (by decide) _)
      case o4x5 => exact fun _ _ hw _ => opE_call (.val (.int .u64 ((nm (secL L k) 1 : Nat) : Int))) rfl _ 58 Try.call58 rfl rfl _ rfl [.slice (cutA (cutA ao cap (64 * k)) (cap - 64 * k) 8) (64 - 8) (cap - 64 * k - 8)] rfl ((rnum1 _ _ _ _ (HS.gro (GG.drew.trans hw)) hsl).mono fun e w' ⟨he, hg⟩ => ⟨_, he, hg, rfl⟩)
      case o5x5 => exact fun _ _ _ _ => opE_move (v := .slice (cutA ao cap (64 * k)) 64 (cap - 64 * k)) _ rfl rfl rfl
      case o6x5 => exact fun _ _ hw _ => opE_value (v := .slice (cutA (cutA ao cap (64 * k)) (cap - 64 * k) 16) (64 - 16) (cap - 64 * k - 16)) rfl (run_cutE _ _ rfl (cutA ao cap (64 * k)) 64 (cap - 64 * k) 16 rfl rfl (by decide) _)
      intro ptrs w3 GD hxE
      simp only [List.drop_succ_cons, List.drop_zero]
      replace kgb := GD.has kgb
      replace GG := GG.drew.trans GD
      clear GD
      refine s_callv 48 rfl rfl _ 58 Try.call58 rfl rfl _ rfl [.slice (cutA (cutA ao cap (64 * k)) (cap - 64 * k) 16) (64 - 16) (cap - 64 * k - 16)] rfl (rnum2 _ _ _ _ (HS.gro GG) hsl) ?_
      intro w4 G
      replace kgb := G.has kgb
      replace GG := GG.trans G
      clear G
      refine nr ?_; intro U h; simp only [z0, z1] at h; subst h
      refine s_val 49 rfl rfl (.agg (c119 ((nm (secL L k) 0 : Nat) : Int) ((nm (secL L k) 1 : Nat) : Int) ((nm (secL L k) 2 : Nat) : Int))) (run_bd 116 _ rfl [(0, .int .u64 ((nm (secL L k) 0 : Nat) : Int)), (1, .int .u64 ((nm (secL L k) 1 : Nat) : Int)), (2, .int .u64 ((nm (secL L k) 2 : Nat) : Int))] rfl _ (by kernel_rfl)) ?_
      refine nr ?_; intro U h; simp only [z0, z1] at h; subst h
      refine s_store rfl rfl 116 _ _ rfl gb 0 rfl (.agg (c119 ((nm (secL L k) 0 : Nat) : Int) ((nm (secL L k) 1 : Nat) : Int) ((nm (secL L k) 2 : Nat) : Int))) rfl 116 _ kgb (c119 ((nm (secL L k) 0 : Nat) : Int) ((nm (secL L k) 1 : Nat) : Int) ((nm (secL L k) 2 : Nat) : Int)) rfl (by kernel_rfl) (Nat.le_of_ble_eq_true rfl) (by kernel_rfl) (c119 ((nm (secL L k) 0 : Nat) : Int) ((nm (secL L k) 1 : Nat) : Int) ((nm (secL L k) 2 : Nat) : Int)) (by kernel_rfl) ?_
      intro w5 St
      replace GG := GG.store St bgb
      replace kgb := St.new
      clear St
      refine wpList_nil ?_
      refine blk_n ?_
      refine then_n ?_
      refine wp_region_lit ?_
      refine s_val 12 rfl rfl (.int .i64 ((k : Nat) : Int)) (rfl) ?_
      refine nr ?_; intro U h; simp only [z0, z1] at h; subst h
      refine s_val 13 rfl rfl (.int .i64 ((k + 1 : Nat) : Int)) (run_add64 _ _ _ rfl ((k : Nat) : Int) 1 _ rfl rfl (by omega) (by omega) (by omega) _) ?_
      refine nr ?_; intro U h; simp only [z0, z1] at h; subst h
      refine s_val 6 rfl rfl (.int .i64 ((k + 1 : Nat) : Int)) (rfl) ?_
      refine nr ?_; intro U h; simp only [z0, z1] at h; subst h
      refine wpList_nil ?_
      refine then_n ?_
      have hY := best_yes hZ hgt
      exact ⟨_, (by omega : 2 - (k + 1) < 2 - k), k + 1, (fun kz => ([.slice (cutA ao cap (64 * k)) 64 (cap - 64 * k), .bool true, .int .i64 ((i : Nat) : Int), .int .i64 ((k : Nat) : Int), .bool true, .int .i64 ((k : Nat) : Int), .int .i64 ((k + 1 : Nat) : Int), .slice ao (n * 64) cap, .int .i64 ((k : Nat) : Int), .int .i64 ((64 * k : Nat) : Int), .int .i64 ((k : Nat) : Int), .int .i64 ((64 * k : Nat) : Int), .int .i64 ((64 * k + 64 : Nat) : Int), .slice (cutA ao cap (64 * k)) 64 (cap - 64 * k), .int .i64 ((i : Nat) : Int), .bool false, us2 2, us2 3, us2 4, us2 5, us2 6, us2 7, us2 8, us2 9, us2 10, us2 11, .bool true, .bool true, .slice (cutA ao cap (64 * k)) 64 (cap - 64 * k), .int .u64 ((nm (secL L k) 0 : Nat) : Int), .pointer (some ⟨gb, 0, none⟩), .int .u64 (((bestE L k).g : Nat) : Int), .bool true, .bool true, .slice (cutA ao cap (64 * k)) 64 (cap - 64 * k), .int .u64 ((nm (secL L k) 0 : Nat) : Int), .slice (cutA ao cap (64 * k)) 64 (cap - 64 * k), .slice (cutA (cutA ao cap (64 * k)) (cap - 64 * k) 8) (64 - 8) (cap - 64 * k - 8), .int .u64 ((nm (secL L k) 1 : Nat) : Int), .slice (cutA ao cap (64 * k)) 64 (cap - 64 * k), .slice (cutA (cutA ao cap (64 * k)) (cap - 64 * k) 16) (64 - 16) (cap - 64 * k - 16), .int .u64 ((nm (secL L k) 2 : Nat) : Int), .agg (c119 ((nm (secL L k) 0 : Nat) : Int) ((nm (secL L k) 1 : Nat) : Int) ((nm (secL L k) 2 : Nat) : Int))] : List Value).getD kz undef), rfl, rfl, hkn, GG, (by rw [hY]; exact kgb)⟩
    · replace hgt : nm (secL L k) 0 ≤ (bestE L k).g := Nat.le_of_not_lt hgt
      refine wp_region_exA (A := ?Ax6) 6 [(0, 33), (1, 34), (2, 35), (3, 36), (4, 37), (5, 38)] [.val (.bool true), .val (.bool true), .val (.slice (cutA ao cap (64 * k)) 64 (cap - 64 * k)), .val (.int .u64 ((nm (secL L k) 0 : Nat) : Int)), .val (.pointer (some ⟨gb, 0, none⟩)), .val (.int .u64 (((bestE L k).g : Nat) : Int))] follows (by kernel_rfl) rfl ?hAx6 (opsA_cons ?o0x6 (opsA_cons ?o1x6 (opsA_cons ?o2x6 (opsA_cons ?o3x6 (opsA_cons ?o4x6 (opsA_cons ?o5x6 opsA_nil)))))) ?restx6
      case hAx6 =>
        intro ptrs
        simp only [full, foldSlots, filledE, postE, List.foldl_cons, List.foldl_nil, List.getD_cons_zero, List.getD_cons_succ, fill_val, List.set_cons_zero, List.set_cons_succ]
        exact rfl
      case o0x6 => exact fun _ _ _ _ => opE_move (v := .bool true) _ rfl rfl rfl
      case o1x6 => exact fun _ _ _ _ => opE_move (v := .bool true) _ rfl rfl rfl
      case o2x6 => exact fun _ _ _ _ => opE_move (v := .slice (cutA ao cap (64 * k)) 64 (cap - 64 * k)) _ rfl rfl rfl
      case o3x6 => exact fun _ _ hw _ => opE_call (.val (.int .u64 ((nm (secL L k) 0 : Nat) : Int))) rfl _ 58 Try.call58 rfl rfl _ rfl [.slice (cutA ao cap (64 * k)) 64 (cap - 64 * k)] rfl ((rnum0 _ _ _ _ (HS.gro (GG.drew.trans hw)) hsl).mono fun e w' ⟨he, hg⟩ => ⟨_, he, hg, rfl⟩)
      case o4x6 => exact fun _ _ hw _ => opE_value (v := .pointer (some ⟨gb, 0, none⟩)) rfl (run_idx3 _ _ rfl gb 0 rfl rfl (by decide) _)
      case o5x6 => exact fun _ _ hw _ => opE_value (v := .int .u64 (((bestE L k).g : Nat) : Int)) rfl (run_ldc 75 _ rfl gb 0 rfl 116 _ (hw.has kgb) (na75 _) _ rfl)
      intro ptrs w2 GD hxE
      simp only [List.drop_succ_cons, List.drop_zero]
      replace kgb := GD.has kgb
      replace GG := GG.drew.trans GD
      clear GD
      refine s_gval 39 rfl rfl (.bool false) (run_gtrU 75 75 _ _ rfl (nm (secL L k) 0) (bestE L k).g rfl rfl false (by first | exact decide_eq_true (by omega) | exact decide_eq_false (by omega)) _) ?_
      refine nr ?_; intro U h; simp only [z0, z1] at h; subst h
      refine s_val 40 rfl rfl (.bool false) (rfl) ?_
      refine nr ?_; intro U h; simp only [z0, z1] at h; subst h
      refine wpList_nil ?_
      refine then_n ?_
      refine wp_cond_false rfl ?_
      refine wp_skip ?_
      refine blk_n ?_
      refine then_n ?_
      refine wp_region_lit ?_
      refine s_val 12 rfl rfl (.int .i64 ((k : Nat) : Int)) (rfl) ?_
      refine nr ?_; intro U h; simp only [z0, z1] at h; subst h
      refine s_val 13 rfl rfl (.int .i64 ((k + 1 : Nat) : Int)) (run_add64 _ _ _ rfl ((k : Nat) : Int) 1 _ rfl rfl (by omega) (by omega) (by omega) _) ?_
      refine nr ?_; intro U h; simp only [z0, z1] at h; subst h
      refine s_val 6 rfl rfl (.int .i64 ((k + 1 : Nat) : Int)) (rfl) ?_
      refine nr ?_; intro U h; simp only [z0, z1] at h; subst h
      refine wpList_nil ?_
      refine then_n ?_
      exact ⟨_, (by omega : 2 - (k + 1) < 2 - k), k + 1, (fun kz => ([.slice (cutA ao cap (64 * k)) 64 (cap - 64 * k), .bool true, .int .i64 ((i : Nat) : Int), .int .i64 ((k : Nat) : Int), .bool true, .int .i64 ((k : Nat) : Int), .int .i64 ((k + 1 : Nat) : Int), .slice ao (n * 64) cap, .int .i64 ((k : Nat) : Int), .int .i64 ((64 * k : Nat) : Int), .int .i64 ((k : Nat) : Int), .int .i64 ((64 * k : Nat) : Int), .int .i64 ((64 * k + 64 : Nat) : Int), .slice (cutA ao cap (64 * k)) 64 (cap - 64 * k), .int .i64 ((i : Nat) : Int), .bool false, us2 2, us2 3, us2 4, us2 5, us2 6, us2 7, us2 8, us2 9, us2 10, us2 11, .bool true, .bool true, .slice (cutA ao cap (64 * k)) 64 (cap - 64 * k), .int .u64 ((nm (secL L k) 0 : Nat) : Int), .pointer (some ⟨gb, 0, none⟩), .int .u64 (((bestE L k).g : Nat) : Int), .bool false, .bool false, us1 34, us1 35, us1 36, us1 37, us1 38, us1 39, us1 40, us1 41, us1 42] : List Value).getD kz undef), rfl, rfl, hkn, GG, (by rw [best_no (Nat.le_trans hd_le hgt)]; exact kgb)⟩
  have hin : i < 64 := by have := of_decide_eq_true hp2; omega
  refine wpList_nil ?_
  refine then_n ?_
  refine wp_cond_true rfl ?_
  refine wp_skip ?_
  refine then_n ?_
  refine wp_seq ?_
  refine wp_block ?_
  refine wp_region_opq ?_
  intro OPS hY
  have y1 := hY 1 26 rfl
  clear hY
  cases okb
  · have hokf : ¬ ∀ x, 24 ≤ x → x < i → (secL L k).getD x 0 = 0 := fun hh => by have := hok.2 hh; cases this
    refine s_val 25 rfl rfl (.bool false) (rfl) ?_
    refine nr ?_; intro U h; simp only [z0, z1] at h; subst h
    refine s_val 26 rfl rfl (.bool false) (rfl) ?_
    refine nr ?_; intro U h; simp only [z0, z1] at h; subst h
    refine s_skipY 27 rfl rfl y1 rfl ?_
    refine nr ?_; intro U h; simp only [z0, z1] at h; subst h
    refine s_skipY 28 rfl rfl y1 rfl ?_
    refine nr ?_; intro U h; simp only [z0, z1] at h; subst h
    refine s_skipY 29 rfl rfl y1 rfl ?_
    refine nr ?_; intro U h; simp only [z0, z1] at h; subst h
    refine s_skipY 30 rfl rfl y1 rfl ?_
    refine nr ?_; intro U h; simp only [z0, z1] at h; subst h
    refine s_skipY 31 rfl rfl y1 rfl ?_
    refine nr ?_; intro U h; simp only [z0, z1] at h; subst h
    refine s_val 32 rfl rfl (.bool false) (rfl) ?_
    refine nr ?_; intro U h; simp only [z0, z1] at h; subst h
    refine s_val 8 rfl rfl (.bool false) (rfl) ?_
    refine nr ?_; intro U h; simp only [z0, z1] at h; subst h
    refine wpList_nil ?_
    refine blk_n ?_
    refine then_n ?_
    refine wp_region_lit ?_
    refine s_val 23 rfl rfl (.int .i64 ((i : Nat) : Int)) (rfl) ?_
    refine nr ?_; intro U h; simp only [z0, z1] at h; subst h
    refine s_val 24 rfl rfl (.int .i64 ((i + 1 : Nat) : Int)) (run_add64 _ _ _ rfl ((i : Nat) : Int) 1 _ rfl rfl (by omega) (by omega) (by omega) _) ?_
    refine nr ?_; intro U h; simp only [z0, z1] at h; subst h
    refine s_val 9 rfl rfl (.int .i64 ((i + 1 : Nat) : Int)) (rfl) ?_
    refine nr ?_; intro U h; simp only [z0, z1] at h; subst h
    refine wpList_nil ?_
    refine then_n ?_
    exact ⟨_, (by omega : 64 - (i + 1) < 64 - i), i + 1, false, (fun kz => ([.int .i64 ((i : Nat) : Int), .bool true, .int .i64 ((i : Nat) : Int), .int .i64 ((i + 1 : Nat) : Int), .bool false, .bool false, undef, undef, undef, undef, undef, .bool false] : List Value).getD kz undef), rfl, rfl, hin, (by omega), ⟨fun hh => by (cases hh), fun hh => absurd (fun x h1 h2 => hh x h1 (by omega)) hokf⟩, GG, kgb⟩
  have hokt := hok.1 rfl
  refine s_val 25 rfl rfl (.bool true) (rfl) ?_
  refine nr ?_; intro U h; simp only [z0, z1] at h; subst h
  refine s_val 26 rfl rfl (.bool true) (rfl) ?_
  refine nr ?_; intro U h; simp only [z0, z1] at h; subst h
  refine s_gvalY 27 rfl rfl y1 rfl (.slice (cutA ao cap (64 * k)) 64 (cap - 64 * k)) (rfl) ?_
  refine nr ?_; intro U h; simp only [z0, z1] at h; subst h
  refine s_gvalY 28 rfl rfl y1 rfl (.int .i64 ((i : Nat) : Int)) (rfl) ?_
  refine nr ?_; intro U h; simp only [z0, z1] at h; subst h
  obtain ⟨ad, hao, _⟩ := HS.at (j := i) (by rw [hsl]; exact hin)
  refine s_gvalY 29 rfl rfl y1 rfl (.pointer (some (ad.add i))) (run_idx bT _ _ rfl ad 64 (cap - 64 * k) i (by exact congrArg (fun a => Value.slice a 64 (cap - 64 * k)) hao) rfl hin _) ?_
  refine nr ?_; intro U h; simp only [z0, z1] at h; subst h
  refine s_gvalY 30 rfl rfl y1 rfl (.int .u8 (((secL L k).getD i 0 : Nat) : Int)) (run_ld bT _ rfl (ad.add i) rfl _ _ ((HS.gro GG).cell ad hao i (by rw [hsl]; exact hin))) ?_
  refine nr ?_; intro U h; simp only [z0, z1] at h; subst h
  obtain ⟨p3, hp3⟩ : ∃ p, decide ((((secL L k).getD i 0 : Nat) : Int) = 0) = p := ⟨_, rfl⟩
  refine s_gvalY 31 rfl rfl y1 rfl (.bool p3) (run_eq_k 5 .u8 _ _ _ rfl Try.underlying5 (((secL L k).getD i 0 : Nat) : Int) 0 rfl rfl p3 hp3 _) ?_
  refine nr ?_; intro U h; simp only [z0, z1] at h; subst h
  cases p3
  · have hbz : ¬ (secL L k).getD i 0 = 0 := by have := of_decide_eq_false hp3; omega
    refine s_val _ rfl rfl (.bool false) rfl ?_
    refine nr ?_; intro U h; simp only [z0, z1] at h; subst h
    refine s_val _ rfl rfl (.bool false) rfl ?_
    refine nr ?_; intro U h; simp only [z0, z1] at h; subst h
    refine wpList_nil ?_
    refine blk_n ?_
    refine then_n ?_
    refine wp_region_lit ?_
    refine s_val 23 rfl rfl (.int .i64 ((i : Nat) : Int)) (rfl) ?_
    refine nr ?_; intro U h; simp only [z0, z1] at h; subst h
    refine s_val 24 rfl rfl (.int .i64 ((i + 1 : Nat) : Int)) (run_add64 _ _ _ rfl ((i : Nat) : Int) 1 _ rfl rfl (by omega) (by omega) (by omega) _) ?_
    refine nr ?_; intro U h; simp only [z0, z1] at h; subst h
    refine s_val 9 rfl rfl (.int .i64 ((i + 1 : Nat) : Int)) (rfl) ?_
    refine nr ?_; intro U h; simp only [z0, z1] at h; subst h
    refine wpList_nil ?_
    refine then_n ?_
    exact ⟨_, (by omega : 64 - (i + 1) < 64 - i), i + 1, false, (fun kz => ([.int .i64 ((i : Nat) : Int), .bool true, .int .i64 ((i : Nat) : Int), .int .i64 ((i + 1 : Nat) : Int), .bool true, .bool true, .slice (cutA ao cap (64 * k)) 64 (cap - 64 * k), .int .i64 ((i : Nat) : Int), .pointer (some (ad.add i)), .int .u8 (((secL L k).getD i 0 : Nat) : Int), .bool false, .bool false] : List Value).getD kz undef), rfl, rfl, hin, (by omega), ⟨fun hh => by (cases hh), fun hh => absurd (hh i hi24 (by omega)) hbz⟩, GG, kgb⟩
  have hbz : (secL L k).getD i 0 = 0 := by have := of_decide_eq_true hp3; omega
  refine s_val 32 rfl rfl (.bool true) (rfl) ?_
  refine nr ?_; intro U h; simp only [z0, z1] at h; subst h
  refine s_val 8 rfl rfl (.bool true) (rfl) ?_
  refine nr ?_; intro U h; simp only [z0, z1] at h; subst h
  refine wpList_nil ?_
  refine blk_n ?_
  refine then_n ?_
  refine wp_region_lit ?_
  refine s_val 23 rfl rfl (.int .i64 ((i : Nat) : Int)) (rfl) ?_
  refine nr ?_; intro U h; simp only [z0, z1] at h; subst h
  refine s_val 24 rfl rfl (.int .i64 ((i + 1 : Nat) : Int)) (run_add64 _ _ _ rfl ((i : Nat) : Int) 1 _ rfl rfl (by omega) (by omega) (by omega) _) ?_
  refine nr ?_; intro U h; simp only [z0, z1] at h; subst h
  refine s_val 9 rfl rfl (.int .i64 ((i + 1 : Nat) : Int)) (rfl) ?_
  refine nr ?_; intro U h; simp only [z0, z1] at h; subst h
  refine wpList_nil ?_
  refine then_n ?_
  exact ⟨_, (by omega : 64 - (i + 1) < 64 - i), i + 1, true, (fun kz => ([.int .i64 ((i : Nat) : Int), .bool true, .int .i64 ((i : Nat) : Int), .int .i64 ((i + 1 : Nat) : Int), .bool true, .bool true, .slice (cutA ao cap (64 * k)) 64 (cap - 64 * k), .int .i64 ((i : Nat) : Int), .pointer (some (ad.add i)), .int .u8 (((secL L k).getD i 0 : Nat) : Int), .bool true, .bool true] : List Value).getD kz undef), rfl, rfl, hin, (by omega), ⟨fun _ x h1 h2 => by by_cases hxe : x = i; (subst hxe; exact hbz); exact hokt x h1 (by omega), fun _ => rfl⟩, GG, kgb⟩
end Go.Proofs.Ytgfnjekpafempaa
