/- Calls over rows of numbers: likeness, places, the way back, where each stands last, rounds taken out. -/
import Derived.Test.YtjbpgiphimmleaaT2
namespace Go.Proofs.Ytjbpgiphimmleaa
open Go.RowKit Go.Maps

theorem Calls.bool {P : Program} {f : FuncId} {args : Array Value} {w : World} {p q : Bool} (h : Calls P f args w fun e w' => e = .returned (.bool p) ∧ Gro w w') (e : p = q) : Calls P f args w fun e w' => e = .returned (.bool q) ∧ Gro w w' := e ▸ h
theorem Calls.valV {P : Program} {f : FuncId} {args : Array Value} {w : World} {u v : Value} (h : Calls P f args w fun e w' => e = .returned u ∧ Gro w w') (e : u = v) : Calls P f args w fun e w' => e = .returned v ∧ Gro w w' := e ▸ h
/-- All of some that are written out. -/
def Alls : List Int → Prop
  | [] => True
  | x :: r => I64 x ∧ Alls r
theorem allZ : ∀ l : List Int, Alls l → ∀ x ∈ l, I64 x
  | [], _ => fun _ h => by cases h
  | x :: r, h => fun y hy => by
    rcases List.mem_cons.1 hy with rfl | hy
    · exact h.1
    · exact allZ r h.2 y hy
def AllQ : List (Int × Int) → Prop
  | [] => True
  | x :: r => P64 x ∧ AllQ r
theorem allP : ∀ l : List (Int × Int), AllQ l → ∀ x ∈ l, P64 x
  | [], _ => fun _ h => by cases h
  | x :: r, h => fun y hy => by
    rcases List.mem_cons.1 hy with rfl | hy
    · exact h.1
    · exact allP r h.2 y hy
/-- A call that answers a new row. -/
def RowP (w : World) (L : List Int) (e : Ending) (w' : World) : Prop := ∃ ao cap, e = .returned (.slice ao L.length cap) ∧ Gro w w' ∧ OI w' w.heap.size ao cap L
def RowQ (w : World) (L : List (Int × Int)) (e : Ending) (w' : World) : Prop := ∃ ao cap, e = .returned (.slice ao L.length cap) ∧ Gro w w' ∧ OP w' w.heap.size ao cap L
/-- A call that answers where each stands last. -/
def MapP (w : World) (t : List Int) (e : Ending) (w' : World) : Prop := ∃ b n, e = .returned (.map (some b)) ∧ Gro w w' ∧ w.heap.size ≤ b ∧ MX 3 (Value.int .i64) I64 w' b n (lstF t t.length) t.reverse
def rowI (L : List Int) : PostE := PostE.ex (fun v x => ∃ ao cap, v = .slice ao L.length cap ∧ RC x ao cap L) (fun _ _ _ G ⟨a, c, h1, h2⟩ => ⟨a, c, h1, h2.gro G⟩)
theorem fill_rowI (L : List Int) (v : Value) : (rowI L).fill v = v := rfl
def rowQ (L : List (Int × Int)) : PostE := PostE.ex (fun v x => ∃ ao cap, v = .slice ao L.length cap ∧ RP x ao cap L) (fun _ _ _ G ⟨a, c, h1, h2⟩ => ⟨a, c, h1, h2.gro G⟩)
theorem fill_rowQ (L : List (Int × Int)) (v : Value) : (rowQ L).fill v = v := rfl
theorem pc_one (p : Int × Int) : (pc p).all (·.oneCell') = true := by kernel_rfl
theorem i_one (x : Int) : (#[Value.int .i64 x]).all (·.oneCell') = true := by kernel_rfl
theorem bs0 (w : World) : (Instr.buildSlice 22 0 #[]).run Try.prog w = .ok (.slice (some ⟨w.heap.size, 0, none⟩) 0 0) (w.alloc (.cells (ci []).toArray 3)) := by kernel_rfl
theorem bs1 (a0 : Int) (w : World) : (Instr.buildSlice 22 1 #[(0, .int .i64 a0)]).run Try.prog w = .ok (.slice (some ⟨w.heap.size, 0, none⟩) 1 1) (w.alloc (.cells (ci [a0]).toArray 3)) := by kernel_rfl
theorem bs2 (a0 a1 : Int) (w : World) : (Instr.buildSlice 22 2 #[(0, .int .i64 a0), (1, .int .i64 a1)]).run Try.prog w = .ok (.slice (some ⟨w.heap.size, 0, none⟩) 2 2) (w.alloc (.cells (ci [a0, a1]).toArray 3)) := by kernel_rfl
theorem bs3 (a0 a1 a2 : Int) (w : World) : (Instr.buildSlice 22 3 #[(0, .int .i64 a0), (1, .int .i64 a1), (2, .int .i64 a2)]).run Try.prog w = .ok (.slice (some ⟨w.heap.size, 0, none⟩) 3 3) (w.alloc (.cells (ci [a0, a1, a2]).toArray 3)) := by kernel_rfl
theorem bs5 (a0 a1 a2 a3 a4 : Int) (w : World) : (Instr.buildSlice 22 5 #[(0, .int .i64 a0), (1, .int .i64 a1), (2, .int .i64 a2), (3, .int .i64 a3), (4, .int .i64 a4)]).run Try.prog w = .ok (.slice (some ⟨w.heap.size, 0, none⟩) 5 5) (w.alloc (.cells (ci [a0, a1, a2, a3, a4]).toArray 3)) := by kernel_rfl
theorem bp1 (p : Int × Int) (w : World) : (Instr.buildSlice 33 1 #[(0, pv p)]).run Try.prog w = .ok (.slice (some ⟨w.heap.size, 0, none⟩) 1 1) (w.alloc (.cells (cp [p]).toArray 36)) := by kernel_rfl
theorem run_ixB {o : Oper} {A : Act} {w : World} (x y : Operand) (ho : o.op = .indexAddr 22 x y) (g n c j : Nat) (hx : A.eval x = .slice (some ⟨g, 0, none⟩) n c) (hy : A.eval y = .int .i64 (j : Int)) (hj : j < n) :
    (execOp A.eval o).run Try.prog w = .ok (.value (.pointer (some ⟨g, j, none⟩))) w := by
  rw [run_idxX rI x y ho ⟨g, 0, none⟩ n c j hx hy hj w, add_at, Nat.zero_add, Nat.mul_one]
theorem run_minN {P : Program} {o : Oper} {A : Act} (x y : Operand) (ats : Array TypeId) (ho : o.op = .call { callee := .builtin .min, args := #[x, y], argTypes := ats }) (n m : Nat) (hx : A.eval x = .int .i64 (n : Int)) (hy : A.eval y = .int .i64 (m : Int)) (w : World) : (execOp A.eval o).run P w = .ok (.value (.int .i64 ((min n m : Nat) : Int))) w := by
  unfold execOp
  simp only [ho, hx, hy, List.map_toArray, List.map_cons, List.map_nil, resolve, invoke]
  simp [builtin, Builtin.min_, Builtin.min2, go_sem]
  omega
theorem run_cut3X {P : Program} {o : Oper} {A : Act} {t e : TypeId} {sz b : Nat} {z : Value} (T : RowT P t e sz b z) (x z u : Operand) (ho : o.op = .slice t x none (some z) (some u)) (ao : Option Addr) (n cap j : Nat) (hx : A.eval x = .slice ao n cap) (hz : A.eval z = .int .i64 (j : Int)) (hu : A.eval u = .int .i64 (j : Int)) (hj : j ≤ cap) (w : World) :
    (execOp A.eval o).run P w = .ok (.value (.slice ao j j)) w := by
  have h : (Instr.slice t (.slice ao n cap) none (some (.int .i64 (j : Int))) (some (.int .i64 (j : Int)))).run P w = .ok (.slice ao j j) w := by
    simp only [Instr.slice, Sem.run_bind, run_underlying T.und, Result.andThen_ok, Instr.sliceBounds, Instr.sliceBound, asIntOf, Sem.run_pure, run_sizeX T]
    have h3 : (0 : Int) ≤ (j : Int) ∧ (j : Int) ≤ (cap : Int) := by omega
    simp [h3]
    intro _
    cases ao <;> simp [add_zero]
  unfold execOp
  simp only [ho, hx, hz, hu, Option.map_some, Option.map_none, Sem.run_bind, sliceAtX_run T, h, Result.andThen_ok, Sem.run_pure]
theorem MX.below {κ : Type} [DecidableEq κ] {k : TypeId} {kv : κ → Value} {ok : κ → Prop} {w w' : World} {b n B : Nat} {f : κ → Int} {S : List κ} (h : MX k kv ok w b n f S) (G : Below B w w') (hb : b < B) : MX k kv ok w' b n f S := by
  obtain ⟨D, ⟨es, c, h1, h2⟩, h3⟩ := h.out
  exact ⟨D, ⟨es, c, by rw [G.block b hb]; exact h1, h2⟩, h3⟩
set_option maxRecDepth 100000 in
set_option maxHeartbeats 4000000 in
theorem same_any (w : World) (ao : Option Addr) (cap : Nat) (l : List Int) (H : RC w ao cap l) (hl : l.length ≤ 1000000) (bo : Option Addr) (bap : Nat) (m : List Int) (HM : RC w bo bap m) (_hm : m.length ≤ 1000000) : Calls Try.prog 13 #[.slice ao l.length cap, .slice bo m.length bap] w (fun e w' => e = .returned (.bool (decide (l = m))) ∧ Gro w w') := by
  refine s_enter Try.func13 rfl Try.ntmps13 [.slice ao l.length cap, .slice bo m.length bap] [.slice ao l.length cap, .slice bo m.length bap, undef, undef, undef, undef, undef, undef, undef, undef, undef, undef, undef, undef, undef, undef, undef, undef, undef, undef, undef, undef, undef, undef, undef, undef] rfl ?_
  have GG := Gro.refl w
  refine wp_seq ?_
  refine wp_region_lit ?_
  refine s_val 4 rfl rfl (.bool false) (rfl) ?_
  refine nr ?_; intro U h; simp only [z0, z1] at h; subst h
  refine wpList_nil ?_
  refine then_n ?_
  refine wp_seq ?_
  refine wp_seq ?_
  refine wp_region_lit ?_
  refine s_val 6 rfl rfl (.slice ao l.length cap) (rfl) ?_
  refine nr ?_; intro U h; simp only [z0, z1] at h; subst h
  refine s_val 7 rfl rfl (.int .i64 ((l.length : Nat) : Int)) (run_len Try.underlying22 _ rfl _ _ _ rfl _) ?_
  refine nr ?_; intro U h; simp only [z0, z1] at h; subst h
  refine s_val 8 rfl rfl (.slice bo m.length bap) (rfl) ?_
  refine nr ?_; intro U h; simp only [z0, z1] at h; subst h
  refine s_val 9 rfl rfl (.int .i64 ((m.length : Nat) : Int)) (run_len Try.underlying22 _ rfl _ _ _ rfl _) ?_
  refine nr ?_; intro U h; simp only [z0, z1] at h; subst h
  cases hlen : decide (((l.length : Nat) : Int) = ((m.length : Nat) : Int))
  · have hne : l.length ≠ m.length := by have := of_decide_eq_false hlen; omega
    refine s_val 10 rfl rfl (.bool true) (run_neq_k 3 .i64 _ _ _ rfl Try.underlying3 ((l.length : Nat) : Int) ((m.length : Nat) : Int) rfl rfl true hlen _) ?_
    refine nr ?_; intro U h; simp only [z0, z1] at h; subst h
    refine wpList_nil ?_
    refine then_n ?_
    refine wp_cond_true rfl ?_
    refine wp_seq ?_
    refine wp_region_lit ?_
    refine s_val 4 rfl rfl (.bool false) (rfl) ?_
    refine nr ?_; intro U h; simp only [z0, z1] at h; subst h
    refine wpList_nil ?_
    refine then_n ?_
    refine wp_ret ?_
    refine then_r ?_
    refine bodyPost_ret (results_tmp Try.results13 _ _ _) rfl ?_
    exact ⟨congrArg (fun b => Ending.returned (.bool b)) (decide_eq_false (fun e => hne (by rw [e]))).symm, GG⟩
  · have hee : l.length = m.length := by have := of_decide_eq_true hlen; omega
    refine s_val 10 rfl rfl (.bool false) (run_neq_k 3 .i64 _ _ _ rfl Try.underlying3 ((l.length : Nat) : Int) ((m.length : Nat) : Int) rfl rfl false hlen _) ?_
    refine nr ?_; intro U h; simp only [z0, z1] at h; subst h
    refine wpList_nil ?_
    refine then_n ?_
    refine wp_cond_false rfl ?_
    refine wp_skip ?_
    refine then_n ?_
    refine wp_seq ?_
    refine wp_seq ?_
    refine wp_region_lit ?_
    refine s_val 5 rfl rfl (.int .i64 0) (rfl) ?_
    refine nr ?_; intro U h; simp only [z0, z1] at h; subst h
    refine wpList_nil ?_
    refine then_n ?_
    refine wp_block ?_
    refine wp_loopN (fun mz az wv => ∃ (j : Nat) (us1 : Nat → Value), mz = l.length - j ∧ az = ⟨[.slice ao l.length cap, .slice bo m.length bap, undef, undef, us1 0, .int .i64 ((j : Nat) : Int), .slice ao l.length cap, .int .i64 ((l.length : Nat) : Int), .slice bo m.length bap, .int .i64 ((m.length : Nat) : Int), .bool false, us1 1, us1 2, us1 3, us1 4, us1 5, us1 6, us1 7, us1 8, us1 9, us1 10, us1 11, us1 12, us1 13, us1 14, us1 15].toArray, []⟩ ∧ j ≤ l.length ∧ (∀ i, i < j → l.getD i 0 = m.getD i 0) ∧ Gro w wv) ?_ _ ⟨0, (fun kz => ([.bool false, undef, undef, undef, undef, undef, undef, undef, undef, undef, undef, undef, undef, undef, undef, undef] : List Value).getD kz undef), rfl, rfl, Nat.zero_le _, (fun i hi => absurd hi (Nat.not_lt_zero i)), GG⟩
    clear GG
    rintro mz az wv ⟨j, us1, rfl, rfl, hj, hall, GG⟩
    refine wp_seq ?_
    refine wp_seq ?_
    refine wp_region_lit ?_
    refine s_val 11 rfl rfl (.int .i64 ((j : Nat) : Int)) (rfl) ?_
    refine nr ?_; intro U h; simp only [z0, z1] at h; subst h
    refine s_val 12 rfl rfl (.slice ao l.length cap) (rfl) ?_
    refine nr ?_; intro U h; simp only [z0, z1] at h; subst h
    refine s_val 13 rfl rfl (.int .i64 ((l.length : Nat) : Int)) (run_len Try.underlying22 _ rfl _ _ _ rfl _) ?_
    refine nr ?_; intro U h; simp only [z0, z1] at h; subst h
    cases hj1 : decide (((j : Nat) : Int) < ((l.length : Nat) : Int))
    · have hje : j = l.length := by have := of_decide_eq_false hj1; omega
      refine s_val 14 rfl rfl (.bool false) (run_lssT 3 _ _ _ rfl ((j : Nat) : Int) ((l.length : Nat) : Int) rfl rfl false hj1 _) ?_
      refine nr ?_; intro U h; simp only [z0, z1] at h; subst h
      refine wpList_nil ?_
      refine then_n ?_
      refine wp_cond_false rfl ?_
      refine wp_exit ?_
      refine then_x ?_
      refine then_x ?_
      refine blk_x ?_
      refine then_n ?_
      refine wp_seq ?_
      refine wp_region_lit ?_
      refine s_val 4 rfl rfl (.bool true) (rfl) ?_
      refine nr ?_; intro U h; simp only [z0, z1] at h; subst h
      refine wpList_nil ?_
      refine then_n ?_
      refine wp_ret ?_
      refine bodyPost_ret (results_tmp Try.results13 _ _ _) rfl ?_
      subst hje
      exact ⟨congrArg (fun b => Ending.returned (.bool b)) (decide_eq_true (eq_of_getDZ hee hall)).symm, GG⟩
    · have hjl : j < l.length := by have := of_decide_eq_true hj1; omega
      have hjm : j < m.length := by omega
      refine s_val 14 rfl rfl (.bool true) (run_lssT 3 _ _ _ rfl ((j : Nat) : Int) ((l.length : Nat) : Int) rfl rfl true hj1 _) ?_
      refine nr ?_; intro U h; simp only [z0, z1] at h; subst h
      refine wpList_nil ?_
      refine then_n ?_
      refine wp_cond_true rfl ?_
      refine wp_skip ?_
      refine then_n ?_
      refine wp_seq ?_
      refine wp_block ?_
      refine wp_seq ?_
      cases hq : decide ((l.getD j 0) = (m.getD j 0))
      · refine wp_region_exA (A := ?Ax1) 8 [(0, 17), (1, 18), (2, 19), (3, 20), (4, 21), (5, 22), (6, 23), (7, 24)] [.val (.slice ao l.length cap), .val (.int .i64 ((j : Nat) : Int)), .val (.pointer (pA ao j)), .val (.int .i64 (l.getD j 0)), .val (.slice bo m.length bap), .val (.int .i64 ((j : Nat) : Int)), .val (.pointer (pA bo j)), .val (.int .i64 (m.getD j 0))] follows (by kernel_rfl) rfl ?hAx1 (opsA_cons ?o0x1 (opsA_cons ?o1x1 (opsA_cons ?o2x1 (opsA_cons ?o3x1 (opsA_cons ?o4x1 (opsA_cons ?o5x1 (opsA_cons ?o6x1 (opsA_cons ?o7x1 opsA_nil)))))))) ?restx1
        case hAx1 =>
          intro ptrs
          simp only [full, foldSlots, filledE, postE, List.foldl_cons, List.foldl_nil, List.getD_cons_zero, List.getD_cons_succ, fill_val, List.set_cons_zero, List.set_cons_succ]
          exact rfl
        case o0x1 => exact fun _ _ _ _ => opE_move (v := .slice ao l.length cap) _ rfl rfl rfl
        case o1x1 => exact fun _ _ _ _ => opE_move (v := .int .i64 ((j : Nat) : Int)) _ rfl rfl rfl
        case o2x1 => exact fun _ _ hw _ => opE_value (v := .pointer (pA ao j)) rfl (run_ixI (H.gro (GG.drew.trans hw)) _ _ rfl rfl j rfl hjl)
        case o3x1 => exact fun _ _ hw _ => opE_value (v := .int .i64 (l.getD j 0)) rfl (run_ldI (H.gro (GG.drew.trans hw)) _ rfl j rfl hjl)
        case o4x1 => exact fun _ _ _ _ => opE_move (v := .slice bo m.length bap) _ rfl rfl rfl
        case o5x1 => exact fun _ _ _ _ => opE_move (v := .int .i64 ((j : Nat) : Int)) _ rfl rfl rfl
        case o6x1 => exact fun _ _ hw _ => opE_value (v := .pointer (pA bo j)) rfl (run_ixI (HM.gro (GG.drew.trans hw)) _ _ rfl rfl j rfl hjm)
        case o7x1 => exact fun _ _ hw _ => opE_value (v := .int .i64 (m.getD j 0)) rfl (run_ldI (HM.gro (GG.drew.trans hw)) _ rfl j rfl hjm)
        intro ptrs w1 GD hxE
        simp only [List.drop_succ_cons, List.drop_zero]
        replace GG := GG.drew.trans GD
        clear GD
        refine s_val 25 rfl rfl (.bool true) (run_neq_k 3 .i64 _ _ _ rfl Try.underlying3 (l.getD j 0) (m.getD j 0) rfl rfl true hq _) ?_
        refine nr ?_; intro U h; simp only [z0, z1] at h; subst h
        refine wpList_nil ?_
        refine then_n ?_
        refine wp_cond_true rfl ?_
        refine wp_seq ?_
        refine wp_region_lit ?_
        refine s_val 4 rfl rfl (.bool false) (rfl) ?_
        refine nr ?_; intro U h; simp only [z0, z1] at h; subst h
        refine wpList_nil ?_
        refine then_n ?_
        refine wp_ret ?_
        refine blk_r ?_
        refine then_r ?_
        refine then_r ?_
        refine blk_r ?_
        refine then_r ?_
        refine bodyPost_ret (results_tmp Try.results13 _ _ _) rfl ?_
        exact ⟨congrArg (fun b => Ending.returned (.bool b)) (decide_eq_false (fun e => of_decide_eq_false hq (by rw [e]))).symm, GG⟩
      · refine wp_region_exA (A := ?Ax2) 8 [(0, 17), (1, 18), (2, 19), (3, 20), (4, 21), (5, 22), (6, 23), (7, 24)] [.val (.slice ao l.length cap), .val (.int .i64 ((j : Nat) : Int)), .val (.pointer (pA ao j)), .val (.int .i64 (l.getD j 0)), .val (.slice bo m.length bap), .val (.int .i64 ((j : Nat) : Int)), .val (.pointer (pA bo j)), .val (.int .i64 (m.getD j 0))] follows (by kernel_rfl) rfl ?hAx2 (opsA_cons ?o0x2 (opsA_cons ?o1x2 (opsA_cons ?o2x2 (opsA_cons ?o3x2 (opsA_cons ?o4x2 (opsA_cons ?o5x2 (opsA_cons ?o6x2 (opsA_cons ?o7x2 opsA_nil)))))))) ?restx2
        case hAx2 =>
          intro ptrs
          simp only [full, foldSlots, filledE, postE, List.foldl_cons, List.foldl_nil, List.getD_cons_zero, List.getD_cons_succ, fill_val, List.set_cons_zero, List.set_cons_succ]
          exact rfl
        case o0x2 => exact fun _ _ _ _ => opE_move (v := .slice ao l.length cap) _ rfl rfl rfl
        case o1x2 => exact fun _ _ _ _ => opE_move (v := .int .i64 ((j : Nat) : Int)) _ rfl rfl rfl
        case o2x2 => exact fun _ _ hw _ => opE_value (v := .pointer (pA ao j)) rfl (run_ixI (H.gro (GG.drew.trans hw)) _ _ rfl rfl j rfl hjl)
        case o3x2 => exact fun _ _ hw _ => opE_value (v := .int .i64 (l.getD j 0)) rfl (run_ldI (H.gro (GG.drew.trans hw)) _ rfl j rfl hjl)
        case o4x2 => exact fun _ _ _ _ => opE_move (v := .slice bo m.length bap) _ rfl rfl rfl
        case o5x2 => exact fun _ _ _ _ => opE_move (v := .int .i64 ((j : Nat) : Int)) _ rfl rfl rfl
        case o6x2 => exact fun _ _ hw _ => opE_value (v := .pointer (pA bo j)) rfl (run_ixI (HM.gro (GG.drew.trans hw)) _ _ rfl rfl j rfl hjm)
        case o7x2 => exact fun _ _ hw _ => opE_value (v := .int .i64 (m.getD j 0)) rfl (run_ldI (HM.gro (GG.drew.trans hw)) _ rfl j rfl hjm)
        intro ptrs w1 GD hxE
        simp only [List.drop_succ_cons, List.drop_zero]
        replace GG := GG.drew.trans GD
        clear GD
        refine s_val 25 rfl rfl (.bool false) (run_neq_k 3 .i64 _ _ _ rfl Try.underlying3 (l.getD j 0) (m.getD j 0) rfl rfl false hq _) ?_
        refine nr ?_; intro U h; simp only [z0, z1] at h; subst h
        refine wpList_nil ?_
        refine then_n ?_
        refine wp_cond_false rfl ?_
        refine wp_skip ?_
        refine blk_n ?_
        refine then_n ?_
        refine wp_region_lit ?_
        refine s_val 15 rfl rfl (.int .i64 ((j : Nat) : Int)) (rfl) ?_
        refine nr ?_; intro U h; simp only [z0, z1] at h; subst h
        refine s_val 16 rfl rfl (.int .i64 ((j + 1 : Nat) : Int)) (run_addI 3 _ _ _ rfl ((j : Nat) : Int) 1 ((j + 1 : Nat) : Int) rfl rfl (by omega) (by omega) (by omega) _) ?_
        refine nr ?_; intro U h; simp only [z0, z1] at h; subst h
        refine s_val 5 rfl rfl (.int .i64 ((j + 1 : Nat) : Int)) (rfl) ?_
        refine nr ?_; intro U h; simp only [z0, z1] at h; subst h
        refine wpList_nil ?_
        refine then_n ?_
        exact ⟨_, (by omega : l.length - (j + 1) < l.length - j), j + 1, (fun kz => ([us1 0, .int .i64 ((j : Nat) : Int), .slice ao l.length cap, .int .i64 ((l.length : Nat) : Int), .bool true, .int .i64 ((j : Nat) : Int), .int .i64 ((j + 1 : Nat) : Int), .slice ao l.length cap, .int .i64 ((j : Nat) : Int), .pointer (pA ao j), .int .i64 (l.getD j 0), .slice bo m.length bap, .int .i64 ((j : Nat) : Int), .pointer (pA bo j), .int .i64 (m.getD j 0), .bool false] : List Value).getD kz undef), rfl, rfl, hjl, (upto_succ hall (of_decide_eq_true hq)), GG⟩
set_option maxRecDepth 100000 in
set_option maxHeartbeats 4000000 in
theorem refplace_any (w : World) (ao : Option Addr) (cap : Nat) (l : List Int) (H : RC w ao cap l) (hl : l.length ≤ 1000000) (x : Int) : Calls Try.prog 19 #[.slice ao l.length cap, .int .i64 x] w (fun e w' => e = .returned (.int .i64 (plc l x)) ∧ Gro w w') := by
  refine s_enter Try.func19 rfl Try.ntmps19 [.slice ao l.length cap, .int .i64 x] [.slice ao l.length cap, .int .i64 x, undef, undef, undef, undef, undef, undef, undef, undef, undef, undef, undef, undef, undef, undef, undef, undef, undef] rfl ?_
  have GG := Gro.refl w
  refine wp_seq ?_
  refine wp_region_lit ?_
  refine s_val 4 rfl rfl (.int .i64 0) (rfl) ?_
  refine nr ?_; intro U h; simp only [z0, z1] at h; subst h
  refine wpList_nil ?_
  refine then_n ?_
  refine wp_seq ?_
  refine wp_seq ?_
  refine wp_region_lit ?_
  refine s_val 5 rfl rfl (.int .i64 0) (rfl) ?_
  refine nr ?_; intro U h; simp only [z0, z1] at h; subst h
  refine wpList_nil ?_
  refine then_n ?_
  refine wp_block ?_
  refine wp_loopN (fun mz az wv => ∃ (j : Nat) (us1 : Nat → Value), mz = l.length - j ∧ az = ⟨[.slice ao l.length cap, .int .i64 x, undef, undef, us1 0, .int .i64 ((j : Nat) : Int), us1 1, us1 2, us1 3, us1 4, us1 5, us1 6, us1 7, us1 8, us1 9, us1 10, us1 11, us1 12, us1 13].toArray, []⟩ ∧ j ≤ l.length ∧ (∀ i, i < j → l.getD i 0 ≠ x) ∧ Gro w wv) ?_ _ ⟨0, (fun kz => ([.int .i64 0, undef, undef, undef, undef, undef, undef, undef, undef, undef, undef, undef, undef, undef] : List Value).getD kz undef), rfl, rfl, Nat.zero_le _, (fun i hi => absurd hi (Nat.not_lt_zero i)), GG⟩
  clear GG
  rintro mz az wv ⟨j, us1, rfl, rfl, hj, hnot, GG⟩
  refine wp_seq ?_
  refine wp_seq ?_
  refine wp_region_lit ?_
  refine s_val 6 rfl rfl (.int .i64 ((j : Nat) : Int)) (rfl) ?_
  refine nr ?_; intro U h; simp only [z0, z1] at h; subst h
  refine s_val 7 rfl rfl (.slice ao l.length cap) (rfl) ?_
  refine nr ?_; intro U h; simp only [z0, z1] at h; subst h
  refine s_val 8 rfl rfl (.int .i64 ((l.length : Nat) : Int)) (run_len Try.underlying22 _ rfl _ _ _ rfl _) ?_
  refine nr ?_; intro U h; simp only [z0, z1] at h; subst h
  cases hj1 : decide (((j : Nat) : Int) < ((l.length : Nat) : Int))
  · have hje : j = l.length := by have := of_decide_eq_false hj1; omega
    refine s_val 9 rfl rfl (.bool false) (run_lssT 3 _ _ _ rfl ((j : Nat) : Int) ((l.length : Nat) : Int) rfl rfl false hj1 _) ?_
    refine nr ?_; intro U h; simp only [z0, z1] at h; subst h
    refine wpList_nil ?_
    refine then_n ?_
    refine wp_cond_false rfl ?_
    refine wp_exit ?_
    refine then_x ?_
    refine then_x ?_
    refine blk_x ?_
    refine then_n ?_
    refine wp_seq ?_
    refine wp_region_lit ?_
    refine s_val 4 rfl rfl (.int .i64 (-1)) (rfl) ?_
    refine nr ?_; intro U h; simp only [z0, z1] at h; subst h
    refine wpList_nil ?_
    refine then_n ?_
    refine wp_ret ?_
    refine bodyPost_ret (results_tmp Try.results19 _ _ _) rfl ?_
    subst hje
    exact ⟨congrArg (fun z => Ending.returned (.int .i64 z)) (plc_none hnot).symm, GG⟩
  · have hjl : j < l.length := by have := of_decide_eq_true hj1; omega
    refine s_val 9 rfl rfl (.bool true) (run_lssT 3 _ _ _ rfl ((j : Nat) : Int) ((l.length : Nat) : Int) rfl rfl true hj1 _) ?_
    refine nr ?_; intro U h; simp only [z0, z1] at h; subst h
    refine wpList_nil ?_
    refine then_n ?_
    refine wp_cond_true rfl ?_
    refine wp_skip ?_
    refine then_n ?_
    refine wp_seq ?_
    refine wp_block ?_
    refine wp_seq ?_
    refine wp_region_lit ?_
    refine s_val 12 rfl rfl (.slice ao l.length cap) (rfl) ?_
    refine nr ?_; intro U h; simp only [z0, z1] at h; subst h
    refine s_val 13 rfl rfl (.int .i64 ((j : Nat) : Int)) (rfl) ?_
    refine nr ?_; intro U h; simp only [z0, z1] at h; subst h
    refine s_val 14 rfl rfl (.pointer (pA ao j)) (run_ixI (H.gro GG) _ _ rfl rfl j rfl hjl) ?_
    refine nr ?_; intro U h; simp only [z0, z1] at h; subst h
    refine s_val 15 rfl rfl (.int .i64 (l.getD j 0)) (run_ldI (H.gro GG) _ rfl j rfl hjl) ?_
    refine nr ?_; intro U h; simp only [z0, z1] at h; subst h
    refine s_val 16 rfl rfl (.int .i64 x) (rfl) ?_
    refine nr ?_; intro U h; simp only [z0, z1] at h; subst h
    cases hq : decide ((l.getD j 0) = x)
    · refine s_val 17 rfl rfl (.bool false) (run_eq_k 3 .i64 _ _ _ rfl Try.underlying3 (l.getD j 0) x rfl rfl false hq _) ?_
      refine nr ?_; intro U h; simp only [z0, z1] at h; subst h
      refine wpList_nil ?_
      refine then_n ?_
      refine wp_cond_false rfl ?_
      refine wp_skip ?_
      refine blk_n ?_
      refine then_n ?_
      refine wp_region_lit ?_
      refine s_val 10 rfl rfl (.int .i64 ((j : Nat) : Int)) (rfl) ?_
      refine nr ?_; intro U h; simp only [z0, z1] at h; subst h
      refine s_val 11 rfl rfl (.int .i64 ((j + 1 : Nat) : Int)) (run_addI 3 _ _ _ rfl ((j : Nat) : Int) 1 ((j + 1 : Nat) : Int) rfl rfl (by omega) (by omega) (by omega) _) ?_
      refine nr ?_; intro U h; simp only [z0, z1] at h; subst h
      refine s_val 5 rfl rfl (.int .i64 ((j + 1 : Nat) : Int)) (rfl) ?_
      refine nr ?_; intro U h; simp only [z0, z1] at h; subst h
      refine wpList_nil ?_
      refine then_n ?_
      exact ⟨_, (by omega : l.length - (j + 1) < l.length - j), j + 1, (fun kz => ([us1 0, .int .i64 ((j : Nat) : Int), .slice ao l.length cap, .int .i64 ((l.length : Nat) : Int), .bool true, .int .i64 ((j : Nat) : Int), .int .i64 ((j + 1 : Nat) : Int), .slice ao l.length cap, .int .i64 ((j : Nat) : Int), .pointer (pA ao j), .int .i64 (l.getD j 0), .int .i64 x, .bool false, us1 13] : List Value).getD kz undef), rfl, rfl, hjl, (upto_succ hnot (of_decide_eq_false hq)), GG⟩
    · refine s_val 17 rfl rfl (.bool true) (run_eq_k 3 .i64 _ _ _ rfl Try.underlying3 (l.getD j 0) x rfl rfl true hq _) ?_
      refine nr ?_; intro U h; simp only [z0, z1] at h; subst h
      refine wpList_nil ?_
      refine then_n ?_
      refine wp_cond_true rfl ?_
      refine wp_seq ?_
      refine wp_region_lit ?_
      refine s_val 18 rfl rfl (.int .i64 ((j : Nat) : Int)) (rfl) ?_
      refine nr ?_; intro U h; simp only [z0, z1] at h; subst h
      refine s_val 4 rfl rfl (.int .i64 ((j : Nat) : Int)) (rfl) ?_
      refine nr ?_; intro U h; simp only [z0, z1] at h; subst h
      refine wpList_nil ?_
      refine then_n ?_
      refine wp_ret ?_
      refine blk_r ?_
      refine then_r ?_
      refine then_r ?_
      refine blk_r ?_
      refine then_r ?_
      refine bodyPost_ret (results_tmp Try.results19 _ _ _) rfl ?_
      exact ⟨congrArg (fun z => Ending.returned (.int .i64 z)) (plc_at hjl (of_decide_eq_true hq) hnot).symm, GG⟩
set_option maxRecDepth 100000 in
set_option maxHeartbeats 4000000 in
theorem index_any (w : World) (ao : Option Addr) (cap : Nat) (l : List Int) (H : RC w ao cap l) (hl : l.length ≤ 1000000) (x : Int) : Calls Try.prog 23 #[.slice ao l.length cap, .int .i64 x] w (fun e w' => e = .returned (.int .i64 (plc l x)) ∧ Gro w w') := by
  refine s_enter Try.func23 rfl Try.ntmps23 [.slice ao l.length cap, .int .i64 x] [.slice ao l.length cap, .int .i64 x, undef, undef, undef, undef, undef, undef, undef, undef, undef, undef, undef, undef, undef, undef, undef, undef, undef] rfl ?_
  have GG := Gro.refl w
  refine wp_seq ?_
  refine wp_region_lit ?_
  refine s_val 4 rfl rfl (.int .i64 0) (rfl) ?_
  refine nr ?_; intro U h; simp only [z0, z1] at h; subst h
  refine wpList_nil ?_
  refine then_n ?_
  refine wp_seq ?_
  refine wp_seq ?_
  refine wp_region_lit ?_
  refine s_val 6 rfl rfl (.slice ao l.length cap) (rfl) ?_
  refine nr ?_; intro U h; simp only [z0, z1] at h; subst h
  refine s_val 7 rfl rfl (.int .i64 ((l.length : Nat) : Int)) (run_len Try.underlying22 _ rfl _ _ _ rfl _) ?_
  refine nr ?_; intro U h; simp only [z0, z1] at h; subst h
  refine s_val 8 rfl rfl (.int .i64 0) (rfl) ?_
  refine nr ?_; intro U h; simp only [z0, z1] at h; subst h
  refine wpList_nil ?_
  refine then_n ?_
  refine wp_block ?_
  refine wp_loopN (fun mz az wv => ∃ (j : Nat) (us1 : Nat → Value), mz = l.length - j ∧ az = ⟨[.slice ao l.length cap, .int .i64 x, undef, undef, us1 0, us1 1, .slice ao l.length cap, .int .i64 ((l.length : Nat) : Int), .int .i64 ((j : Nat) : Int), us1 2, us1 3, us1 4, us1 5, us1 6, us1 7, us1 8, us1 9, us1 10, us1 11].toArray, []⟩ ∧ j ≤ l.length ∧ (∀ i, i < j → l.getD i 0 ≠ x) ∧ Gro w wv) ?_ _ ⟨0, (fun kz => ([.int .i64 0, undef, undef, undef, undef, undef, undef, undef, undef, undef, undef, undef] : List Value).getD kz undef), rfl, rfl, Nat.zero_le _, (fun i hi => absurd hi (Nat.not_lt_zero i)), GG⟩
  clear GG
  rintro mz az wv ⟨j, us1, rfl, rfl, hj, hnot, GG⟩
  refine wp_seq ?_
  refine wp_region_lit ?_
  cases hj1 : decide (((j : Nat) : Int) < ((l.length : Nat) : Int))
  · have hje : j = l.length := by have := of_decide_eq_false hj1; omega
    refine s_val 9 rfl rfl (.bool false) (run_lssT 3 _ _ _ rfl ((j : Nat) : Int) ((l.length : Nat) : Int) rfl rfl false hj1 _) ?_
    refine nr ?_; intro U h; simp only [z0, z1] at h; subst h
    refine wpList_nil ?_
    refine then_n ?_
    refine wp_seq ?_
    refine wp_cond_false rfl ?_
    refine wp_exit ?_
    refine then_x ?_
    refine then_x ?_
    refine blk_x ?_
    refine then_n ?_
    refine wp_seq ?_
    refine wp_region_lit ?_
    refine s_val 4 rfl rfl (.int .i64 (-1)) (rfl) ?_
    refine nr ?_; intro U h; simp only [z0, z1] at h; subst h
    refine wpList_nil ?_
    refine then_n ?_
    refine wp_ret ?_
    refine bodyPost_ret (results_tmp Try.results23 _ _ _) rfl ?_
    subst hje
    exact ⟨congrArg (fun z => Ending.returned (.int .i64 z)) (plc_none hnot).symm, GG⟩
  · have hjl : j < l.length := by have := of_decide_eq_true hj1; omega
    refine s_val 9 rfl rfl (.bool true) (run_lssT 3 _ _ _ rfl ((j : Nat) : Int) ((l.length : Nat) : Int) rfl rfl true hj1 _) ?_
    refine nr ?_; intro U h; simp only [z0, z1] at h; subst h
    refine wpList_nil ?_
    refine then_n ?_
    refine wp_seq ?_
    refine wp_cond_true rfl ?_
    refine wp_skip ?_
    refine then_n ?_
    refine wp_seq ?_
    refine wp_block ?_
    refine wp_seq ?_
    refine wp_region_lit ?_
    refine s_val 10 rfl rfl (.int .i64 ((j : Nat) : Int)) (rfl) ?_
    refine nr ?_; intro U h; simp only [z0, z1] at h; subst h
    refine s_val 5 rfl rfl (.int .i64 ((j : Nat) : Int)) (rfl) ?_
    refine nr ?_; intro U h; simp only [z0, z1] at h; subst h
    refine wpList_nil ?_
    refine then_n ?_
    refine wp_seq ?_
    refine wp_region_lit ?_
    refine s_val 11 rfl rfl (.int .i64 x) (rfl) ?_
    refine nr ?_; intro U h; simp only [z0, z1] at h; subst h
    refine s_val 12 rfl rfl (.slice ao l.length cap) (rfl) ?_
    refine nr ?_; intro U h; simp only [z0, z1] at h; subst h
    refine s_val 13 rfl rfl (.int .i64 ((j : Nat) : Int)) (rfl) ?_
    refine nr ?_; intro U h; simp only [z0, z1] at h; subst h
    refine s_val 14 rfl rfl (.pointer (pA ao j)) (run_ixI (H.gro GG) _ _ rfl rfl j rfl hjl) ?_
    refine nr ?_; intro U h; simp only [z0, z1] at h; subst h
    refine s_val 15 rfl rfl (.int .i64 (l.getD j 0)) (run_ldI (H.gro GG) _ rfl j rfl hjl) ?_
    refine nr ?_; intro U h; simp only [z0, z1] at h; subst h
    cases hq : decide (x = (l.getD j 0))
    · refine s_val 16 rfl rfl (.bool false) (run_eq_k 3 .i64 _ _ _ rfl Try.underlying3 x (l.getD j 0) rfl rfl false hq _) ?_
      refine nr ?_; intro U h; simp only [z0, z1] at h; subst h
      refine wpList_nil ?_
      refine then_n ?_
      refine wp_cond_false rfl ?_
      refine wp_skip ?_
      refine blk_n ?_
      refine then_n ?_
      refine wp_region_lit ?_
      refine s_val 18 rfl rfl (.int .i64 ((j + 1 : Nat) : Int)) (run_addI 3 _ _ _ rfl ((j : Nat) : Int) 1 ((j + 1 : Nat) : Int) rfl rfl (by omega) (by omega) (by omega) _) ?_
      refine nr ?_; intro U h; simp only [z0, z1] at h; subst h
      refine s_val 8 rfl rfl (.int .i64 ((j + 1 : Nat) : Int)) (rfl) ?_
      refine nr ?_; intro U h; simp only [z0, z1] at h; subst h
      refine wpList_nil ?_
      refine then_n ?_
      exact ⟨_, (by omega : l.length - (j + 1) < l.length - j), j + 1, (fun kz => ([us1 0, .int .i64 ((j : Nat) : Int), .bool true, .int .i64 ((j : Nat) : Int), .int .i64 x, .slice ao l.length cap, .int .i64 ((j : Nat) : Int), .pointer (pA ao j), .int .i64 (l.getD j 0), .bool false, us1 10, .int .i64 ((j + 1 : Nat) : Int)] : List Value).getD kz undef), rfl, rfl, hjl, (upto_succ hnot (fun h => of_decide_eq_false hq h.symm)), GG⟩
    · refine s_val 16 rfl rfl (.bool true) (run_eq_k 3 .i64 _ _ _ rfl Try.underlying3 x (l.getD j 0) rfl rfl true hq _) ?_
      refine nr ?_; intro U h; simp only [z0, z1] at h; subst h
      refine wpList_nil ?_
      refine then_n ?_
      refine wp_cond_true rfl ?_
      refine wp_seq ?_
      refine wp_region_lit ?_
      refine s_val 17 rfl rfl (.int .i64 ((j : Nat) : Int)) (rfl) ?_
      refine nr ?_; intro U h; simp only [z0, z1] at h; subst h
      refine s_val 4 rfl rfl (.int .i64 ((j : Nat) : Int)) (rfl) ?_
      refine nr ?_; intro U h; simp only [z0, z1] at h; subst h
      refine wpList_nil ?_
      refine then_n ?_
      refine wp_ret ?_
      refine blk_r ?_
      refine then_r ?_
      refine then_r ?_
      refine blk_r ?_
      refine then_r ?_
      refine bodyPost_ret (results_tmp Try.results23 _ _ _) rfl ?_
      exact ⟨congrArg (fun z => Ending.returned (.int .i64 z)) (plc_at hjl (of_decide_eq_true hq).symm hnot).symm, GG⟩
set_option maxRecDepth 100000 in
set_option maxHeartbeats 4000000 in
theorem place_any (w : World) (ao : Option Addr) (cap : Nat) (l : List Int) (H : RC w ao cap l) (hl : l.length ≤ 1000000) (x : Int) : Calls Try.prog 18 #[.slice ao l.length cap, .int .i64 x] w (fun e w' => e = .returned (.int .i64 (plc l x)) ∧ Gro w w') := by
  refine s_enter Try.func18 rfl Try.ntmps18 [.slice ao l.length cap, .int .i64 x] [.slice ao l.length cap, .int .i64 x, undef, undef, undef, undef, undef, undef] rfl ?_
  have GG := Gro.refl w
  refine wp_seq ?_
  refine wp_region_lit ?_
  refine s_val 4 rfl rfl (.int .i64 0) (rfl) ?_
  refine nr ?_; intro U h; simp only [z0, z1] at h; subst h
  refine wpList_nil ?_
  refine then_n ?_
  refine wp_seq ?_
  refine wp_region_lit ?_
  refine s_val 5 rfl rfl (.slice ao l.length cap) (rfl) ?_
  refine nr ?_; intro U h; simp only [z0, z1] at h; subst h
  refine s_val 6 rfl rfl (.int .i64 x) (rfl) ?_
  refine nr ?_; intro U h; simp only [z0, z1] at h; subst h
  refine s_callv 7 rfl rfl _ 23 Try.call23 rfl rfl _ rfl [.slice ao l.length cap, .int .i64 x] rfl (index_any _ ao cap l (H.gro GG) hl x) ?_
  intro w1 G
  replace GG := GG.trans G
  clear G
  refine nr ?_; intro U h; simp only [z0, z1] at h; subst h
  refine s_val 4 rfl rfl (.int .i64 (plc l x)) (rfl) ?_
  refine nr ?_; intro U h; simp only [z0, z1] at h; subst h
  refine wpList_nil ?_
  refine then_n ?_
  refine wp_ret ?_
  refine bodyPost_ret (results_tmp Try.results18 _ _ _) rfl ?_
  exact ⟨rfl, GG⟩
set_option maxRecDepth 100000 in
set_option maxHeartbeats 4000000 in
theorem cut_any (w : World) (ao : Option Addr) (cap : Nat) (l : List Int) (H : RC w ao cap l) (m : Nat) : Calls Try.prog 9 #[.slice ao l.length cap, .int .i64 ((m : Nat) : Int)] w (fun e w' => e = .returned (.slice ao (l.take m).length (l.take m).length) ∧ Gro w w') := by
  refine s_enter Try.func9 rfl Try.ntmps9 [.slice ao l.length cap, .int .i64 ((m : Nat) : Int)] [.slice ao l.length cap, .int .i64 ((m : Nat) : Int), undef, undef, undef, undef, undef, undef, undef, undef, undef, undef, undef, undef, undef] rfl ?_
  have GG := Gro.refl w
  refine wp_seq ?_
  refine wp_region_lit ?_
  refine s_val 4 rfl rfl (.slice none 0 0) (rfl) ?_
  refine nr ?_; intro U h; simp only [z0, z1] at h; subst h
  refine wpList_nil ?_
  refine then_n ?_
  refine wp_seq ?_
  refine wp_region_lit ?_
  refine s_val 5 rfl rfl (.slice ao l.length cap) (rfl) ?_
  refine nr ?_; intro U h; simp only [z0, z1] at h; subst h
  refine s_val 6 rfl rfl (.slice ao l.length cap) (rfl) ?_
  refine nr ?_; intro U h; simp only [z0, z1] at h; subst h
  refine s_val 7 rfl rfl (.int .i64 ((l.length : Nat) : Int)) (run_len Try.underlying22 _ rfl _ _ _ rfl _) ?_
  refine nr ?_; intro U h; simp only [z0, z1] at h; subst h
  refine s_val 8 rfl rfl (.int .i64 ((m : Nat) : Int)) (rfl) ?_
  refine nr ?_; intro U h; simp only [z0, z1] at h; subst h
  refine s_val 9 rfl rfl (.int .i64 (((min l.length m) : Nat) : Int)) (run_minN _ _ _ rfl l.length m rfl rfl _) ?_
  refine nr ?_; intro U h; simp only [z0, z1] at h; subst h
  refine s_val 10 rfl rfl (.slice ao l.length cap) (rfl) ?_
  refine nr ?_; intro U h; simp only [z0, z1] at h; subst h
  refine s_val 11 rfl rfl (.int .i64 ((l.length : Nat) : Int)) (run_len Try.underlying22 _ rfl _ _ _ rfl _) ?_
  refine nr ?_; intro U h; simp only [z0, z1] at h; subst h
  refine s_val 12 rfl rfl (.int .i64 ((m : Nat) : Int)) (rfl) ?_
  refine nr ?_; intro U h; simp only [z0, z1] at h; subst h
  refine s_val 13 rfl rfl (.int .i64 (((min l.length m) : Nat) : Int)) (run_minN _ _ _ rfl l.length m rfl rfl _) ?_
  refine nr ?_; intro U h; simp only [z0, z1] at h; subst h
  refine s_val 14 rfl rfl (.slice ao ((l.take m).length) ((l.take m).length)) ((run_cut3X rI _ _ _ rfl ao l.length cap (min l.length m) rfl rfl rfl (by have := H.fit; omega) _).trans (by rw [List.length_take, Nat.min_comm])) ?_
  refine nr ?_; intro U h; simp only [z0, z1] at h; subst h
  refine s_val 4 rfl rfl (.slice ao ((l.take m).length) ((l.take m).length)) (rfl) ?_
  refine nr ?_; intro U h; simp only [z0, z1] at h; subst h
  refine wpList_nil ?_
  refine then_n ?_
  refine wp_ret ?_
  refine bodyPost_ret (results_tmp Try.results9 _ _ _) rfl ?_
  exact ⟨rfl, GG⟩
set_option maxRecDepth 100000 in
set_option maxHeartbeats 4000000 in
theorem refsimple_any (w : World) (ao : Option Addr) (cap : Nat) (l : List Int) (H : RC w ao cap l) (hl : l.length ≤ 1000000) : Calls Try.prog 17 #[.slice ao l.length cap] w (fun e w' => e = .returned (.bool (decide l.Nodup)) ∧ Gro w w') := by
  refine s_enter Try.func17 rfl Try.ntmps17 [.slice ao l.length cap] [.slice ao l.length cap, undef, undef, undef, undef, undef, undef, undef, undef, undef, undef, undef, undef, undef, undef, undef, undef, undef] rfl ?_
  have GG := Gro.refl w
  refine wp_seq ?_
  refine wp_region_lit ?_
  refine s_val 2 rfl rfl (.bool false) (rfl) ?_
  refine nr ?_; intro U h; simp only [z0, z1] at h; subst h
  refine wpList_nil ?_
  refine then_n ?_
  refine wp_seq ?_
  refine wp_seq ?_
  refine wp_region_lit ?_
  refine s_val 3 rfl rfl (.int .i64 0) (rfl) ?_
  refine nr ?_; intro U h; simp only [z0, z1] at h; subst h
  refine wpList_nil ?_
  refine then_n ?_
  refine wp_block ?_
  refine wp_loopN (fun mz az wv => ∃ (j : Nat) (us1 : Nat → Value), mz = l.length - j ∧ az = ⟨[.slice ao l.length cap, undef, us1 0, .int .i64 ((j : Nat) : Int), us1 1, us1 2, us1 3, us1 4, us1 5, us1 6, us1 7, us1 8, us1 9, us1 10, us1 11, us1 12, us1 13, us1 14].toArray, []⟩ ∧ j ≤ l.length ∧ (∀ i, i < j → plc l (l.getD i 0) = ((i : Nat) : Int)) ∧ Gro w wv) ?_ _ ⟨0, (fun kz => ([.bool false, undef, undef, undef, undef, undef, undef, undef, undef, undef, undef, undef, undef, undef, undef] : List Value).getD kz undef), rfl, rfl, Nat.zero_le _, (fun i hi => absurd hi (Nat.not_lt_zero i)), GG⟩
  clear GG
  rintro mz az wv ⟨j, us1, rfl, rfl, hj, hall, GG⟩
  refine wp_seq ?_
  refine wp_seq ?_
  refine wp_region_lit ?_
  refine s_val 4 rfl rfl (.int .i64 ((j : Nat) : Int)) (rfl) ?_
  refine nr ?_; intro U h; simp only [z0, z1] at h; subst h
  refine s_val 5 rfl rfl (.slice ao l.length cap) (rfl) ?_
  refine nr ?_; intro U h; simp only [z0, z1] at h; subst h
  refine s_val 6 rfl rfl (.int .i64 ((l.length : Nat) : Int)) (run_len Try.underlying22 _ rfl _ _ _ rfl _) ?_
  refine nr ?_; intro U h; simp only [z0, z1] at h; subst h
  cases hj1 : decide (((j : Nat) : Int) < ((l.length : Nat) : Int))
  · have hje : j = l.length := by have := of_decide_eq_false hj1; omega
    refine s_val 7 rfl rfl (.bool false) (run_lssT 3 _ _ _ rfl ((j : Nat) : Int) ((l.length : Nat) : Int) rfl rfl false hj1 _) ?_
    refine nr ?_; intro U h; simp only [z0, z1] at h; subst h
    refine wpList_nil ?_
    refine then_n ?_
    refine wp_cond_false rfl ?_
    refine wp_exit ?_
    refine then_x ?_
    refine then_x ?_
    refine blk_x ?_
    refine then_n ?_
    refine wp_seq ?_
    refine wp_region_lit ?_
    refine s_val 2 rfl rfl (.bool true) (rfl) ?_
    refine nr ?_; intro U h; simp only [z0, z1] at h; subst h
    refine wpList_nil ?_
    refine then_n ?_
    refine wp_ret ?_
    refine bodyPost_ret (results_tmp Try.results17 _ _ _) rfl ?_
    subst hje
    exact ⟨congrArg (fun b => Ending.returned (.bool b)) (decide_eq_true (nodup_plc hall)).symm, GG⟩
  · have hjl : j < l.length := by have := of_decide_eq_true hj1; omega
    refine s_val 7 rfl rfl (.bool true) (run_lssT 3 _ _ _ rfl ((j : Nat) : Int) ((l.length : Nat) : Int) rfl rfl true hj1 _) ?_
    refine nr ?_; intro U h; simp only [z0, z1] at h; subst h
    refine wpList_nil ?_
    refine then_n ?_
    refine wp_cond_true rfl ?_
    refine wp_skip ?_
    refine then_n ?_
    refine wp_seq ?_
    refine wp_block ?_
    refine wp_seq ?_
    refine wp_region_lit ?_
    refine s_val 10 rfl rfl (.slice ao l.length cap) (rfl) ?_
    refine nr ?_; intro U h; simp only [z0, z1] at h; subst h
    refine s_val 11 rfl rfl (.slice ao l.length cap) (rfl) ?_
    refine nr ?_; intro U h; simp only [z0, z1] at h; subst h
    refine s_val 12 rfl rfl (.int .i64 ((j : Nat) : Int)) (rfl) ?_
    refine nr ?_; intro U h; simp only [z0, z1] at h; subst h
    refine s_val 13 rfl rfl (.pointer (pA ao j)) (run_ixI (H.gro GG) _ _ rfl rfl j rfl hjl) ?_
    refine nr ?_; intro U h; simp only [z0, z1] at h; subst h
    refine s_val 14 rfl rfl (.int .i64 (l.getD j 0)) (run_ldI (H.gro GG) _ rfl j rfl hjl) ?_
    refine nr ?_; intro U h; simp only [z0, z1] at h; subst h
    refine s_callv 15 rfl rfl _ 19 Try.call19 rfl rfl _ rfl [.slice ao l.length cap, .int .i64 (l.getD j 0)] rfl (refplace_any _ ao cap l (H.gro GG) hl (l.getD j 0)) ?_
    intro w1 G
    replace GG := GG.trans G
    clear G
    refine nr ?_; intro U h; simp only [z0, z1] at h; subst h
    refine s_val 16 rfl rfl (.int .i64 ((j : Nat) : Int)) (rfl) ?_
    refine nr ?_; intro U h; simp only [z0, z1] at h; subst h
    cases hq : decide (plc l (l.getD j 0) = ((j : Nat) : Int))
    · refine s_val 17 rfl rfl (.bool true) (run_neq_k 3 .i64 _ _ _ rfl Try.underlying3 (plc l (l.getD j 0)) ((j : Nat) : Int) rfl rfl true hq _) ?_
      refine nr ?_; intro U h; simp only [z0, z1] at h; subst h
      refine wpList_nil ?_
      refine then_n ?_
      refine wp_cond_true rfl ?_
      refine wp_seq ?_
      refine wp_region_lit ?_
      refine s_val 2 rfl rfl (.bool false) (rfl) ?_
      refine nr ?_; intro U h; simp only [z0, z1] at h; subst h
      refine wpList_nil ?_
      refine then_n ?_
      refine wp_ret ?_
      refine blk_r ?_
      refine then_r ?_
      refine then_r ?_
      refine blk_r ?_
      refine then_r ?_
      refine bodyPost_ret (results_tmp Try.results17 _ _ _) rfl ?_
      exact ⟨congrArg (fun b => Ending.returned (.bool b)) (decide_eq_false (fun e => of_decide_eq_false hq (plc_nodup e hjl))).symm, GG⟩
    · refine s_val 17 rfl rfl (.bool false) (run_neq_k 3 .i64 _ _ _ rfl Try.underlying3 (plc l (l.getD j 0)) ((j : Nat) : Int) rfl rfl false hq _) ?_
      refine nr ?_; intro U h; simp only [z0, z1] at h; subst h
      refine wpList_nil ?_
      refine then_n ?_
      refine wp_cond_false rfl ?_
      refine wp_skip ?_
      refine blk_n ?_
      refine then_n ?_
      refine wp_region_lit ?_
      refine s_val 8 rfl rfl (.int .i64 ((j : Nat) : Int)) (rfl) ?_
      refine nr ?_; intro U h; simp only [z0, z1] at h; subst h
      refine s_val 9 rfl rfl (.int .i64 ((j + 1 : Nat) : Int)) (run_addI 3 _ _ _ rfl ((j : Nat) : Int) 1 ((j + 1 : Nat) : Int) rfl rfl (by omega) (by omega) (by omega) _) ?_
      refine nr ?_; intro U h; simp only [z0, z1] at h; subst h
      refine s_val 3 rfl rfl (.int .i64 ((j + 1 : Nat) : Int)) (rfl) ?_
      refine nr ?_; intro U h; simp only [z0, z1] at h; subst h
      refine wpList_nil ?_
      refine then_n ?_
      exact ⟨_, (by omega : l.length - (j + 1) < l.length - j), j + 1, (fun kz => ([us1 0, .int .i64 ((j : Nat) : Int), .slice ao l.length cap, .int .i64 ((l.length : Nat) : Int), .bool true, .int .i64 ((j : Nat) : Int), .int .i64 ((j + 1 : Nat) : Int), .slice ao l.length cap, .slice ao l.length cap, .int .i64 ((j : Nat) : Int), .pointer (pA ao j), .int .i64 (l.getD j 0), .int .i64 (plc l (l.getD j 0)), .int .i64 ((j : Nat) : Int), .bool false] : List Value).getD kz undef), rfl, rfl, hjl, (upto_succ hall (of_decide_eq_true hq)), GG⟩
end Go.Proofs.Ytjbpgiphimmleaa
