/- The document's disk: made anew, read, written. -/
import Derived.Test.YtaejjmoocnpdaaaD4
namespace Go.Proofs.Ytaejjmoocnpdaaa
open Go.RowKit
/-- A new slice that is written out. -/
theorem run_bsl {P : Program} {o : Oper} {A : Act} {w : World} (t : TypeId) (n : Nat) (l : List (Nat × Operand)) (ho : o.op = .buildSlice t n l.toArray) (vals : List (Nat × Value)) (hv : (l.map fun p => (p.1, A.eval p.2)) = vals) {v : Value} {w' : World} (h : (Instr.buildSlice t n vals.toArray).run P w = .ok v w') :
    (execOp A.eval o).run P w = .ok (.value v) w' := by
  unfold execOp
  simp only [ho]
  have : (l.toArray.map fun (i, x) => (i, A.eval x)) = vals.toArray := by rw [← hv]; simp
  rw [this]
  simp [h]
section
variable {P : Program} {ops : Array Oper} {rest : List Oper} {o : Oper} {T : List Value} {ds : List Deferred} {w : World} {Q : Exit → Act → World → Prop}
theorem s_bsl (dst : Nat) (hd : o.dst = some dst) (hgd : o.guard = none) (t : TypeId) (n : Nat) (l : List (Nat × Operand)) (ho : o.op = .buildSlice t n l.toArray) (vals : List (Nat × Value)) (hv : (l.map fun p => (p.1, (⟨T.toArray, ds⟩ : Act).eval p.2)) = vals) (cs : Array Value) (e : TypeId)
    (hr : (Instr.buildSlice t n vals.toArray).run P w = .ok (.slice (some ⟨w.heap.size, 0, none⟩) n n) (w.alloc (.cells cs e)))
    (h : ∀ w' g, Gro w w' → w.heap.size = g → w'.heap[g]? = some (.cells cs e (0, 0)) → wpList P ops Q rest ⟨(T.set dst (.slice (some ⟨g, 0, none⟩) n n)).toArray, ds⟩ w') : wpList P ops Q (o :: rest) ⟨T.toArray, ds⟩ w :=
  wpList_plain hgd fun _ hK => by
    have he := run_bsl (A := ⟨T.toArray, ds⟩) t n l ho vals hv hr
    unfold Oper.wp
    rw [he, Oper.upon_value, hd, put_list]
    exact hK _ _ (h _ _ (gro_alloc _ _) rfl (heap_alloc_new _ _))
end
theorem ob_below {w w' : World} {e : TypeId} {k : IntKind} {B C : Nat} {ao : Option Addr} {cap : Nat} {l : List Nat} (h : OB w e k B ao cap l) (G : Below C w w') (hb : ∀ ad, ao = some ad → ad.block < C) : OB w' e k B ao cap l := by
  refine ⟨⟨h.own.1, ?_⟩, h.wf⟩
  rcases h.own.2 with h1 | ⟨g, c, cur, h1, h2, h3, h4⟩
  · exact .inl h1
  · refine .inr ⟨g, c, cur, h1, h2, ?_, h4⟩
    cases ao with
    | none => cases h1
    | some ad =>
      have : ad.block = g := by cases h1; rfl
      rw [G.block g (by have := hb ad rfl; omega)]
      exact h3
theorem s_app {P : Program} {ops : Array Oper} {rest : List Oper} {o : Oper} {T : List Value} {ds : List Deferred} {w : World} {Q : Exit → Act → World → Prop} {t e : TypeId} {k : IntKind} {b : Nat} (TT : NumT P t e k b) (dst : Nat) (hd : o.dst = some dst) (hgd : o.guard = none) (s x : Operand)
    (ho : o.op = .call { callee := .builtin .append, args := #[s, x], argTypes := #[t, t] }) {B : Nat} {ao : Option Addr} {cap : Nat} {l : List Nat} (hs : (⟨T.toArray, ds⟩ : Act).eval s = .slice ao l.length cap) (hown : OB w e k B ao cap l)
    {ao' : Option Addr} {cap' : Nat} {l' : List Nat} (hx : (⟨T.toArray, ds⟩ : Act).eval x = .slice ao' l'.length cap') (hsrc : NC w k ao' cap' l') (hb : (l.length + l'.length) * b ≤ 140737488355328) (hb0 : 0 < b) (hB : B ≤ w.heap.size)
    (h : ∀ ao2 cap2 w', OB w' e k B ao2 cap2 (l ++ l') → Below B w w' → wpList P ops Q rest ⟨(T.set dst (.slice ao2 (l ++ l').length cap2)).toArray, ds⟩ w') : wpList P ops Q (o :: rest) ⟨T.toArray, ds⟩ w :=
  wpList_app TT dst hd hgd s x ho hs hown hx hsrc hb hb0 hB fun ao2 cap2 L w' hL h1 h2 => by
    have e1 := hL.out
    subst e1
    rw [put_list]
    exact h ao2 cap2 w' h1 h2

/-- The document's disk. -/
structure RK (w : World) (p sg n : Nat) (L : List Nat) (pw dn : Int) : Prop where
  box : w.heap[p]? = some (.cells (c50 ⟨some ⟨sg, 0, none⟩, n * 64, n * 64⟩ pw dn) 50 (0, 0))
  sec : w.heap[sg]? = some (.cells (bv L) 5 (0, 0))
  len : L.length = n * 64
  le : n ≤ 4096
  byte : ∀ x ∈ L, x < 256
  ne : p ≠ sg
theorem RK.gro {w w' : World} {p sg n : Nat} {L : List Nat} {pw dn : Int} (h : RK w p sg n L pw dn) (G : Gro w w') : RK w' p sg n L pw dn := ⟨G.has h.box, G.has h.sec, h.len, h.le, h.byte, h.ne⟩
theorem RK.gros {S : List Nat} {w w' : World} {p sg n : Nat} {L : List Nat} {pw dn : Int} (h : RK w p sg n L pw dn) (G : GroS S w w') (hp : p ∉ S) (hs : sg ∉ S) : RK w' p sg n L pw dn := ⟨G.has h.box hp, G.has h.sec hs, h.len, h.le, h.byte, h.ne⟩
theorem quoN {n : Nat} : ((n * 64 : Nat) : Int).tdiv 64 = (n : Int) := by
  rw [show (64 : Int) = ((64 : Nat) : Int) from rfl, tdivN]
  omega
theorem cut2_at {o : Oper} {A : Act} (x y z : Operand) (ho : o.op = .slice 22 x (some y) (some z) none) (g n i m : Nat) (hx : A.eval x = .slice (some ⟨g, 0, none⟩) n n) (hy : A.eval y = .int .i64 (i : Int)) (hz : A.eval z = .int .i64 ((i + m : Nat) : Int)) (hi : i < n) (hm : i + m ≤ n) (w : World) :
    (execOp A.eval o).run Try.prog w = .ok (.value (.slice (some ⟨g, i, none⟩) m (n - i))) w := by
  rw [run_cut2 bT x y z ho (some ⟨g, 0, none⟩) n n i (i + m) hx hy hz (by omega) hm w, if_neg (by omega), Option.map_some, add_at, Nat.zero_add, Nat.add_sub_cancel_left]
theorem bat {o : Oper} {A : Act} (x y : Operand) (ho : o.op = .indexAddr 22 x y) (g n cap j : Nat) (hx : A.eval x = .slice (some ⟨g, 0, none⟩) n cap) (hy : A.eval y = .int .i64 (j : Int)) (hj : j < n) (w : World) :
    (execOp A.eval o).run Try.prog w = .ok (.value (.pointer (some ⟨g, j, none⟩))) w := by
  rw [run_idx bT x y ho ⟨g, 0, none⟩ n cap j hx hy hj w, add_at, Nat.zero_add]
theorem bv_set (C : List Nat) (m y : Nat) (h : m < C.length) : splice (bv C) m #[.int .u8 (y : Int)] = bv (C.set m y) := by
  rw [splice_one _ _ _ (by rw [bv_size]; exact h)]
  apply Array.toList_inj.1
  simp [bv, List.map_set]
theorem wr_set {L P : List Nat} {off k : Nat} (hk : k < P.length) (h : off + P.length ≤ L.length) : (wr L off (P.take k)).set (off + k) (P.getD k 0) = wr L off (P.take (k + 1)) := by
  have h1 : (P.take k).length = k := by rw [List.length_take]; omega
  have h2 : (P.take (k + 1)).length = k + 1 := by rw [List.length_take]; omega
  have h3 : (L.take off).length = off := by rw [List.length_take]; omega
  have h4 : (L.take off ++ P.take k).length = off + k := by rw [List.length_append, h1, h3]
  unfold wr
  rw [h1, h2, List.set_append_right _ _ (by omega), h4, Nat.sub_self]
  have h5 : L.drop (off + k) = L.getD (off + k) 0 :: L.drop (off + (k + 1)) := by
    rw [List.drop_eq_getElem_cons (by omega)]
    simp [List.getD_eq_getElem?_getD, List.getElem?_eq_getElem (show off + k < L.length by omega), Nat.add_assoc]
  rw [h5, List.set_cons_zero]
  have h6 : P.take (k + 1) = P.take k ++ [P.getD k 0] := by
    rw [List.take_add_one, List.getElem?_eq_getElem hk, List.getD_eq_getElem?_getD, List.getElem?_eq_getElem hk]
    rfl
  rw [h6]
  simp
theorem wr_setv {L P : List Nat} {off k y : Nat} (hy : P.getD k 0 = y) (hk : k < P.length) (h : off + P.length ≤ L.length) : (wr L off (P.take k)).set (off + k) y = wr L off (P.take (k + 1)) := by
  subst hy
  exact wr_set hk h
theorem padS_at {l : List Nat} {k : Nat} (h : k < l.length) : (padS l).getD k 0 = l.getD k 0 := by
  rw [padS, List.getD_eq_getElem?_getD, List.getElem?_append_left h, ← List.getD_eq_getElem?_getD]
theorem padS_out {l : List Nat} {k : Nat} (h : l.length ≤ k) : (padS l).getD k 0 = 0 := by
  rw [padS, List.getD_eq_getElem?_getD, List.getElem?_append_right h, zs]
  cases h2 : decide (k - l.length < 64 - l.length)
  · rw [List.getElem?_eq_none (by simp; have := of_decide_eq_false h2; omega)]
    rfl
  · rw [List.getElem?_replicate, if_pos (of_decide_eq_true h2)]
    rfl
theorem wrk_len {L l : List Nat} {n i k : Nat} (h : L.length = n * 64) (hi : i < n) (hk : k ≤ 64) (hl : l.length ≤ 64) : (wr L (i * 64) ((padS l).take k)).length = L.length :=
  wr_len (by rw [List.length_take, padS_len hl]; omega)
theorem one1 (y : Int) : (#[Value.int .u8 y]).all (·.oneCell') = true := by
  rw [Array.all_eq_true_iff_forall_mem]
  intro x hx
  simp at hx
  subst hx
  rfl
theorem u8n (n : Int) (h0 : 0 ≤ n) (h : n < 256) : ∃ m : Nat, n = (m : Int) ∧ m < 256 := ⟨n.toNat, by omega, by omega⟩
theorem hasB_f {n : Nat} {i : Int} (h : hasB n i = false) : i < 0 ∨ (0 ≤ i ∧ (n : Int) ≤ i) := by
  unfold hasB at h
  cases h1 : decide (0 ≤ i)
  · left; have := of_decide_eq_false h1; omega
  · rw [h1] at h
    have h2 := of_decide_eq_true h1
    have h3 : ¬ i < (n : Int) := of_decide_eq_false h
    omega
set_option maxRecDepth 100000 in
set_option maxHeartbeats 4000000 in
theorem rwrite_neg (w : World) (p sg n : Nat) (L : List Nat) (pw dn : Int) (H : RK w p sg n L pw dn) (ao : Option Addr) (cap : Nat) (l : List Nat) (i : Int) (hi : i < 0) : Calls Try.prog 34 #[.pointer (some ⟨p, 0, none⟩), .int .i64 i, .slice ao l.length cap] w fun e w' => e = .returned (.int .i64 1) ∧ Gro w w' := by
  refine s_enter Try.func34 rfl Try.ntmps34 [.pointer (some ⟨p, 0, none⟩), .int .i64 i, .slice ao l.length cap] [.pointer (some ⟨p, 0, none⟩), .int .i64 i, .slice ao l.length cap, undef, undef, undef, undef, undef, undef, undef, undef, undef, undef, undef, undef, undef, undef, undef, undef, undef, undef, undef, undef, undef, undef, undef, undef, undef, undef, undef, undef, undef, undef, undef, undef, undef, undef, undef, undef, undef, undef, undef, undef, undef, undef, undef, undef, undef, undef, undef, undef, undef, undef, undef, undef, undef, undef, undef, undef, undef, undef, undef, undef, undef, undef, undef, undef, undef, undef, undef, undef, undef, undef, undef, undef, undef, undef] rfl ?_
  have GG := Gro.refl w
  have kp := H.box
  have ksg := H.sec
  have hne := H.ne
  refine wp_seq ?_
  refine wp_region_lit ?_
  refine s_val 6 rfl rfl (.int .i64 0) (rfl) ?_
  refine nr ?_; intro U h; simp only [z0, z1] at h; subst h
  refine wpList_nil ?_
  refine then_n ?_
  refine wp_seq ?_
  refine wp_seq ?_
  refine wp_region_opq ?_
  intro OPS hY
  have y2 := hY 2 10 rfl
  clear hY
  refine s_val 8 rfl rfl (.int .i64 i) (rfl) ?_
  refine nr ?_; intro U h; simp only [z0, z1] at h; subst h
  refine s_val 9 rfl rfl (.bool true) (run_lssT 3 _ _ _ rfl i 0 rfl rfl true (by first | exact decide_eq_true (by omega) | exact decide_eq_false (by omega)) _) ?_
  refine nr ?_; intro U h; simp only [z0, z1] at h; subst h
  refine s_val 10 rfl rfl (.bool true) (rfl) ?_
  refine nr ?_; intro U h; simp only [z0, z1] at h; subst h
  refine s_skipY 11 rfl rfl y2 rfl ?_
  refine nr ?_; intro U h; simp only [z0, z1] at h; subst h
  refine s_skipY 12 rfl rfl y2 rfl ?_
  refine nr ?_; intro U h; simp only [z0, z1] at h; subst h
  refine s_skipY 13 rfl rfl y2 rfl ?_
  refine nr ?_; intro U h; simp only [z0, z1] at h; subst h
  refine s_skipY 14 rfl rfl y2 rfl ?_
  refine nr ?_; intro U h; simp only [z0, z1] at h; subst h
  refine s_skipY 15 rfl rfl y2 rfl ?_
  refine nr ?_; intro U h; simp only [z0, z1] at h; subst h
  refine s_skipY 16 rfl rfl y2 rfl ?_
  refine nr ?_; intro U h; simp only [z0, z1] at h; subst h
  refine s_skipY 17 rfl rfl y2 rfl ?_
  refine nr ?_; intro U h; simp only [z0, z1] at h; subst h
  refine s_skipY 18 rfl rfl y2 rfl ?_
  refine nr ?_; intro U h; simp only [z0, z1] at h; subst h
  refine s_val 19 rfl rfl (.bool true) (rfl) ?_
  refine nr ?_; intro U h; simp only [z0, z1] at h; subst h
  refine wpList_nil ?_
  refine then_n ?_
  refine wp_cond_true rfl ?_
  refine wp_seq ?_
  refine wp_region_lit ?_
  refine s_val 6 rfl rfl (.int .i64 1) (rfl) ?_
  refine nr ?_; intro U h; simp only [z0, z1] at h; subst h
  refine wpList_nil ?_
  refine then_n ?_
  refine wp_ret ?_
  refine then_r ?_
  refine bodyPost_ret (results_tmp Try.results34 _ _ _) rfl ?_
  exact ⟨rfl, GG⟩
set_option maxRecDepth 100000 in
set_option maxHeartbeats 4000000 in
theorem rwrite_big (w : World) (p sg n : Nat) (L : List Nat) (pw dn : Int) (H : RK w p sg n L pw dn) (ao : Option Addr) (cap : Nat) (l : List Nat) (i : Int) (hi : 0 ≤ i) (hn : (n : Int) ≤ i) : Calls Try.prog 34 #[.pointer (some ⟨p, 0, none⟩), .int .i64 i, .slice ao l.length cap] w fun e w' => e = .returned (.int .i64 1) ∧ Gro w w' := by
  refine s_enter Try.func34 rfl Try.ntmps34 [.pointer (some ⟨p, 0, none⟩), .int .i64 i, .slice ao l.length cap] [.pointer (some ⟨p, 0, none⟩), .int .i64 i, .slice ao l.length cap, undef, undef, undef, undef, undef, undef, undef, undef, undef, undef, undef, undef, undef, undef, undef, undef, undef, undef, undef, undef, undef, undef, undef, undef, undef, undef, undef, undef, undef, undef, undef, undef, undef, undef, undef, undef, undef, undef, undef, undef, undef, undef, undef, undef, undef, undef, undef, undef, undef, undef, undef, undef, undef, undef, undef, undef, undef, undef, undef, undef, undef, undef, undef, undef, undef, undef, undef, undef, undef, undef, undef, undef, undef, undef] rfl ?_
  have GG := Gro.refl w
  have kp := H.box
  have ksg := H.sec
  have hne := H.ne
  refine wp_seq ?_
  refine wp_region_lit ?_
  refine s_val 6 rfl rfl (.int .i64 0) (rfl) ?_
  refine nr ?_; intro U h; simp only [z0, z1] at h; subst h
  refine wpList_nil ?_
  refine then_n ?_
  refine wp_seq ?_
  refine wp_seq ?_
  refine wp_region_opq ?_
  intro OPS hY
  have y2 := hY 2 10 rfl
  clear hY
  refine s_val 8 rfl rfl (.int .i64 i) (rfl) ?_
  refine nr ?_; intro U h; simp only [z0, z1] at h; subst h
  refine s_val 9 rfl rfl (.bool false) (run_lssT 3 _ _ _ rfl i 0 rfl rfl false (by first | exact decide_eq_true (by omega) | exact decide_eq_false (by omega)) _) ?_
  refine nr ?_; intro U h; simp only [z0, z1] at h; subst h
  refine s_val 10 rfl rfl (.bool false) (rfl) ?_
  refine nr ?_; intro U h; simp only [z0, z1] at h; subst h
  refine s_gvalY 11 rfl rfl y2 rfl (.int .i64 i) (rfl) ?_
  refine nr ?_; intro U h; simp only [z0, z1] at h; subst h
  refine s_gvalY 12 rfl rfl y2 rfl (.pointer (some ⟨p, 0, none⟩)) (rfl) ?_
  refine nr ?_; intro U h; simp only [z0, z1] at h; subst h
  refine s_gvalY 13 rfl rfl y2 rfl (.pointer (some ⟨p, 0, none⟩)) (run_nc _ rfl _ rfl) ?_
  refine nr ?_; intro U h; simp only [z0, z1] at h; subst h
  refine s_gvalY 14 rfl rfl y2 rfl (.pointer (some ⟨p, 0, none⟩)) (run_fld 50 _ 0 rfl _ _ rfl _ (by kernel_rfl)) ?_
  refine nr ?_; intro U h; simp only [z0, z1] at h; subst h
  refine s_gvalY 15 rfl rfl y2 rfl (.slice (some ⟨sg, 0, none⟩) (n * 64) (n * 64)) (run_ldc 22 _ rfl p 0 rfl 50 _ kp (na22 _) _ rfl) ?_
  refine nr ?_; intro U h; simp only [z0, z1] at h; subst h
  refine s_gvalY 16 rfl rfl y2 rfl (.int .i64 ((n * 64 : Nat) : Int)) (run_len Try.underlying22 _ rfl _ _ _ rfl _) ?_
  refine nr ?_; intro U h; simp only [z0, z1] at h; subst h
  refine s_gvalY 17 rfl rfl y2 rfl (.int .i64 ((n : Nat) : Int)) (run_quo64 _ _ _ rfl ((n * 64 : Nat) : Int) 64 _ rfl rfl (by decide) quoN (by omega) (by have := H.le; omega) _) ?_
  refine nr ?_; intro U h; simp only [z0, z1] at h; subst h
  refine s_gvalY 18 rfl rfl y2 rfl (.bool true) (run_geqT 3 _ _ _ rfl i ((n : Nat) : Int) rfl rfl true (by first | exact decide_eq_true (by omega) | exact decide_eq_false (by omega)) _) ?_
  refine nr ?_; intro U h; simp only [z0, z1] at h; subst h
  refine s_val 19 rfl rfl (.bool true) (rfl) ?_
  refine nr ?_; intro U h; simp only [z0, z1] at h; subst h
  refine wpList_nil ?_
  refine then_n ?_
  refine wp_cond_true rfl ?_
  refine wp_seq ?_
  refine wp_region_lit ?_
  refine s_val 6 rfl rfl (.int .i64 1) (rfl) ?_
  refine nr ?_; intro U h; simp only [z0, z1] at h; subst h
  refine wpList_nil ?_
  refine then_n ?_
  refine wp_ret ?_
  refine then_r ?_
  refine bodyPost_ret (results_tmp Try.results34 _ _ _) rfl ?_
  exact ⟨rfl, GG⟩
theorem rwrite_bad (w : World) (p sg n : Nat) (L : List Nat) (pw dn : Int) (H : RK w p sg n L pw dn) (ao : Option Addr) (cap : Nat) (l : List Nat) (i : Int) (hi : hasB n i = false) : Calls Try.prog 34 #[.pointer (some ⟨p, 0, none⟩), .int .i64 i, .slice ao l.length cap] w fun e w' => e = .returned (.int .i64 1) ∧ Gro w w' := by
  rcases hasB_f hi with h | ⟨h, h'⟩
  · exact rwrite_neg w p sg n L pw dn H ao cap l i h
  · exact rwrite_big w p sg n L pw dn H ao cap l i h h'
set_option maxRecDepth 100000 in
set_option maxHeartbeats 4000000 in
theorem rwrite_long (w : World) (p sg n : Nat) (L : List Nat) (pw dn : Int) (H : RK w p sg n L pw dn) (ao : Option Addr) (cap : Nat) (l : List Nat) (i : Nat) (hi : i < n) (hl : 64 < l.length) : Calls Try.prog 34 #[.pointer (some ⟨p, 0, none⟩), .int .i64 ((i : Nat) : Int), .slice ao l.length cap] w fun e w' => e = .returned (.int .i64 4) ∧ Gro w w' := by
  refine s_enter Try.func34 rfl Try.ntmps34 [.pointer (some ⟨p, 0, none⟩), .int .i64 ((i : Nat) : Int), .slice ao l.length cap] [.pointer (some ⟨p, 0, none⟩), .int .i64 ((i : Nat) : Int), .slice ao l.length cap, undef, undef, undef, undef, undef, undef, undef, undef, undef, undef, undef, undef, undef, undef, undef, undef, undef, undef, undef, undef, undef, undef, undef, undef, undef, undef, undef, undef, undef, undef, undef, undef, undef, undef, undef, undef, undef, undef, undef, undef, undef, undef, undef, undef, undef, undef, undef, undef, undef, undef, undef, undef, undef, undef, undef, undef, undef, undef, undef, undef, undef, undef, undef, undef, undef, undef, undef, undef, undef, undef, undef, undef, undef, undef] rfl ?_
  have GG := Gro.refl w
  have kp := H.box
  have ksg := H.sec
  have hne := H.ne
  refine wp_seq ?_
  refine wp_region_lit ?_
  refine s_val 6 rfl rfl (.int .i64 0) (rfl) ?_
  refine nr ?_; intro U h; simp only [z0, z1] at h; subst h
  refine wpList_nil ?_
  refine then_n ?_
  refine wp_seq ?_
  refine wp_seq ?_
  refine wp_region_opq ?_
  intro OPS hY
  have y2 := hY 2 10 rfl
  clear hY
  refine s_val 8 rfl rfl (.int .i64 ((i : Nat) : Int)) (rfl) ?_
  refine nr ?_; intro U h; simp only [z0, z1] at h; subst h
  refine s_val 9 rfl rfl (.bool false) (run_lssT 3 _ _ _ rfl ((i : Nat) : Int) 0 rfl rfl false (by first | exact decide_eq_true (by omega) | exact decide_eq_false (by omega)) _) ?_
  refine nr ?_; intro U h; simp only [z0, z1] at h; subst h
  refine s_val 10 rfl rfl (.bool false) (rfl) ?_
  refine nr ?_; intro U h; simp only [z0, z1] at h; subst h
  refine s_gvalY 11 rfl rfl y2 rfl (.int .i64 ((i : Nat) : Int)) (rfl) ?_
  refine nr ?_; intro U h; simp only [z0, z1] at h; subst h
  refine s_gvalY 12 rfl rfl y2 rfl (.pointer (some ⟨p, 0, none⟩)) (rfl) ?_
  refine nr ?_; intro U h; simp only [z0, z1] at h; subst h
  refine s_gvalY 13 rfl rfl y2 rfl (.pointer (some ⟨p, 0, none⟩)) (run_nc _ rfl _ rfl) ?_
  refine nr ?_; intro U h; simp only [z0, z1] at h; subst h
  refine s_gvalY 14 rfl rfl y2 rfl (.pointer (some ⟨p, 0, none⟩)) (run_fld 50 _ 0 rfl _ _ rfl _ (by kernel_rfl)) ?_
  refine nr ?_; intro U h; simp only [z0, z1] at h; subst h
  refine s_gvalY 15 rfl rfl y2 rfl (.slice (some ⟨sg, 0, none⟩) (n * 64) (n * 64)) (run_ldc 22 _ rfl p 0 rfl 50 _ kp (na22 _) _ rfl) ?_
  refine nr ?_; intro U h; simp only [z0, z1] at h; subst h
  refine s_gvalY 16 rfl rfl y2 rfl (.int .i64 ((n * 64 : Nat) : Int)) (run_len Try.underlying22 _ rfl _ _ _ rfl _) ?_
  refine nr ?_; intro U h; simp only [z0, z1] at h; subst h
  refine s_gvalY 17 rfl rfl y2 rfl (.int .i64 ((n : Nat) : Int)) (run_quo64 _ _ _ rfl ((n * 64 : Nat) : Int) 64 _ rfl rfl (by decide) quoN (by omega) (by have := H.le; omega) _) ?_
  refine nr ?_; intro U h; simp only [z0, z1] at h; subst h
  refine s_gvalY 18 rfl rfl y2 rfl (.bool false) (run_geqT 3 _ _ _ rfl ((i : Nat) : Int) ((n : Nat) : Int) rfl rfl false (by first | exact decide_eq_true (by omega) | exact decide_eq_false (by omega)) _) ?_
  refine nr ?_; intro U h; simp only [z0, z1] at h; subst h
  refine s_val 19 rfl rfl (.bool false) (rfl) ?_
  refine nr ?_; intro U h; simp only [z0, z1] at h; subst h
  refine wpList_nil ?_
  refine then_n ?_
  refine wp_cond_false rfl ?_
  refine wp_skip ?_
  refine then_n ?_
  refine wp_seq ?_
  refine wp_seq ?_
  refine wp_region_lit ?_
  refine s_val 20 rfl rfl (.slice ao l.length cap) (rfl) ?_
  refine nr ?_; intro U h; simp only [z0, z1] at h; subst h
  refine s_val 21 rfl rfl (.int .i64 ((l.length : Nat) : Int)) (run_len Try.underlying22 _ rfl _ _ _ rfl _) ?_
  refine nr ?_; intro U h; simp only [z0, z1] at h; subst h
  refine s_val 22 rfl rfl (.bool true) (run_gtrT 3 _ _ _ rfl ((l.length : Nat) : Int) 64 rfl rfl true (decide_eq_true (by omega)) _) ?_
  refine nr ?_; intro U h; simp only [z0, z1] at h; subst h
  refine wpList_nil ?_
  refine then_n ?_
  refine wp_cond_true rfl ?_
  refine wp_seq ?_
  refine wp_region_lit ?_
  refine s_val 6 rfl rfl (.int .i64 4) (rfl) ?_
  refine nr ?_; intro U h; simp only [z0, z1] at h; subst h
  refine wpList_nil ?_
  refine then_n ?_
  refine wp_ret ?_
  refine then_r ?_
  refine bodyPost_ret (results_tmp Try.results34 _ _ _) rfl ?_
  exact ⟨rfl, GG⟩
set_option maxRecDepth 100000 in
set_option maxHeartbeats 4000000 in
theorem rwrite_down (w : World) (p sg n : Nat) (L : List Nat) (pw dn : Int) (H : RK w p sg n L pw dn) (ao : Option Addr) (cap : Nat) (l : List Nat) (h0 : pw = 0) (i : Nat) (hi : i < n) (hl : l.length ≤ 64) : Calls Try.prog 34 #[.pointer (some ⟨p, 0, none⟩), .int .i64 ((i : Nat) : Int), .slice ao l.length cap] w fun e w' => e = .returned (.int .i64 8) ∧ Gro w w' := by
  refine s_enter Try.func34 rfl Try.ntmps34 [.pointer (some ⟨p, 0, none⟩), .int .i64 ((i : Nat) : Int), .slice ao l.length cap] [.pointer (some ⟨p, 0, none⟩), .int .i64 ((i : Nat) : Int), .slice ao l.length cap, undef, undef, undef, undef, undef, undef, undef, undef, undef, undef, undef, undef, undef, undef, undef, undef, undef, undef, undef, undef, undef, undef, undef, undef, undef, undef, undef, undef, undef, undef, undef, undef, undef, undef, undef, undef, undef, undef, undef, undef, undef, undef, undef, undef, undef, undef, undef, undef, undef, undef, undef, undef, undef, undef, undef, undef, undef, undef, undef, undef, undef, undef, undef, undef, undef, undef, undef, undef, undef, undef, undef, undef, undef, undef] rfl ?_
  have GG := Gro.refl w
  have kp := H.box
  have ksg := H.sec
  have hne := H.ne
  refine wp_seq ?_
  refine wp_region_lit ?_
  refine s_val 6 rfl rfl (.int .i64 0) (rfl) ?_
  refine nr ?_; intro U h; simp only [z0, z1] at h; subst h
  refine wpList_nil ?_
  refine then_n ?_
  refine wp_seq ?_
  refine wp_seq ?_
  refine wp_region_opq ?_
  intro OPS hY
  have y2 := hY 2 10 rfl
  clear hY
  refine s_val 8 rfl rfl (.int .i64 ((i : Nat) : Int)) (rfl) ?_
  refine nr ?_; intro U h; simp only [z0, z1] at h; subst h
  refine s_val 9 rfl rfl (.bool false) (run_lssT 3 _ _ _ rfl ((i : Nat) : Int) 0 rfl rfl false (by first | exact decide_eq_true (by omega) | exact decide_eq_false (by omega)) _) ?_
  refine nr ?_; intro U h; simp only [z0, z1] at h; subst h
  refine s_val 10 rfl rfl (.bool false) (rfl) ?_
  refine nr ?_; intro U h; simp only [z0, z1] at h; subst h
  refine s_gvalY 11 rfl rfl y2 rfl (.int .i64 ((i : Nat) : Int)) (rfl) ?_
  refine nr ?_; intro U h; simp only [z0, z1] at h; subst h
  refine s_gvalY 12 rfl rfl y2 rfl (.pointer (some ⟨p, 0, none⟩)) (rfl) ?_
  refine nr ?_; intro U h; simp only [z0, z1] at h; subst h
  refine s_gvalY 13 rfl rfl y2 rfl (.pointer (some ⟨p, 0, none⟩)) (run_nc _ rfl _ rfl) ?_
  refine nr ?_; intro U h; simp only [z0, z1] at h; subst h
  refine s_gvalY 14 rfl rfl y2 rfl (.pointer (some ⟨p, 0, none⟩)) (run_fld 50 _ 0 rfl _ _ rfl _ (by kernel_rfl)) ?_
  refine nr ?_; intro U h; simp only [z0, z1] at h; subst h
  refine s_gvalY 15 rfl rfl y2 rfl (.slice (some ⟨sg, 0, none⟩) (n * 64) (n * 64)) (run_ldc 22 _ rfl p 0 rfl 50 _ kp (na22 _) _ rfl) ?_
  refine nr ?_; intro U h; simp only [z0, z1] at h; subst h
  refine s_gvalY 16 rfl rfl y2 rfl (.int .i64 ((n * 64 : Nat) : Int)) (run_len Try.underlying22 _ rfl _ _ _ rfl _) ?_
  refine nr ?_; intro U h; simp only [z0, z1] at h; subst h
  refine s_gvalY 17 rfl rfl y2 rfl (.int .i64 ((n : Nat) : Int)) (run_quo64 _ _ _ rfl ((n * 64 : Nat) : Int) 64 _ rfl rfl (by decide) quoN (by omega) (by have := H.le; omega) _) ?_
  refine nr ?_; intro U h; simp only [z0, z1] at h; subst h
  refine s_gvalY 18 rfl rfl y2 rfl (.bool false) (run_geqT 3 _ _ _ rfl ((i : Nat) : Int) ((n : Nat) : Int) rfl rfl false (by first | exact decide_eq_true (by omega) | exact decide_eq_false (by omega)) _) ?_
  refine nr ?_; intro U h; simp only [z0, z1] at h; subst h
  refine s_val 19 rfl rfl (.bool false) (rfl) ?_
  refine nr ?_; intro U h; simp only [z0, z1] at h; subst h
  refine wpList_nil ?_
  refine then_n ?_
  refine wp_cond_false rfl ?_
  refine wp_skip ?_
  refine then_n ?_
  refine wp_seq ?_
  refine wp_seq ?_
  refine wp_region_lit ?_
  refine s_val 20 rfl rfl (.slice ao l.length cap) (rfl) ?_
  refine nr ?_; intro U h; simp only [z0, z1] at h; subst h
  refine s_val 21 rfl rfl (.int .i64 ((l.length : Nat) : Int)) (run_len Try.underlying22 _ rfl _ _ _ rfl _) ?_
  refine nr ?_; intro U h; simp only [z0, z1] at h; subst h
  refine s_val 22 rfl rfl (.bool false) (run_gtrT 3 _ _ _ rfl ((l.length : Nat) : Int) 64 rfl rfl false (decide_eq_false (by omega)) _) ?_
  refine nr ?_; intro U h; simp only [z0, z1] at h; subst h
  refine wpList_nil ?_
  refine then_n ?_
  refine wp_cond_false rfl ?_
  refine wp_skip ?_
  refine then_n ?_
  refine wp_seq ?_
  refine wp_seq ?_
  refine wp_region_lit ?_
  refine s_val 23 rfl rfl (.pointer (some ⟨p, 0, none⟩)) (rfl) ?_
  refine nr ?_; intro U h; simp only [z0, z1] at h; subst h
  refine s_val 24 rfl rfl (.pointer (some ⟨p, 0, none⟩)) (run_nc _ rfl _ rfl) ?_
  refine nr ?_; intro U h; simp only [z0, z1] at h; subst h
  refine s_val 25 rfl rfl (.pointer (some ⟨p, 1, none⟩)) (run_fld 50 _ 1 rfl _ _ rfl _ (by kernel_rfl)) ?_
  refine nr ?_; intro U h; simp only [z0, z1] at h; subst h
  refine s_val 26 rfl rfl (.int .i64 pw) (run_ldc 3 _ rfl p 1 rfl 50 _ kp (na3 _) _ rfl) ?_
  refine nr ?_; intro U h; simp only [z0, z1] at h; subst h
  refine s_val 27 rfl rfl (.bool true) (run_eq_k 3 .i64 _ _ _ rfl Try.underlying3 pw 0 rfl rfl true (decide_eq_true h0) _) ?_
  refine nr ?_; intro U h; simp only [z0, z1] at h; subst h
  refine wpList_nil ?_
  refine then_n ?_
  refine wp_cond_true rfl ?_
  refine wp_seq ?_
  refine wp_region_lit ?_
  refine s_val 6 rfl rfl (.int .i64 8) (rfl) ?_
  refine nr ?_; intro U h; simp only [z0, z1] at h; subst h
  refine wpList_nil ?_
  refine then_n ?_
  refine wp_ret ?_
  refine then_r ?_
  refine bodyPost_ret (results_tmp Try.results34 _ _ _) rfl ?_
  exact ⟨rfl, GG⟩
theorem below_gro {w a b : World} {g : Nat} (G : Gro w a) (BB : Below g a b) (hg : w.heap.size ≤ g) : Gro w b := Below.trans G (BB.mono hg)
set_option maxRecDepth 100000 in
set_option maxHeartbeats 4000000 in
theorem rwrite_end (w : World) (p sg n : Nat) (L : List Nat) (pw dn : Int) (H : RK w p sg n L pw dn) (ao : Option Addr) (cap : Nat) (l : List Nat) (HB : BS [p, sg] w ao cap l) (i : Nat) (hi : i < n) (hl : l.length ≤ 64) (h1 : pw = -1) (hd : 0 ≤ dn) (hd2 : dn < 9223372036854775807) : Calls Try.prog 34 #[.pointer (some ⟨p, 0, none⟩), .int .i64 ((i : Nat) : Int), .slice ao l.length cap] w fun e w' => e = .returned (.int .i64 0) ∧ GroS [p, sg] w w' ∧ RK w' p sg n (wr L (i * 64) (padS l)) pw (dn + 1) := by
  refine s_enter Try.func34 rfl Try.ntmps34 [.pointer (some ⟨p, 0, none⟩), .int .i64 ((i : Nat) : Int), .slice ao l.length cap] [.pointer (some ⟨p, 0, none⟩), .int .i64 ((i : Nat) : Int), .slice ao l.length cap, undef, undef, undef, undef, undef, undef, undef, undef, undef, undef, undef, undef, undef, undef, undef, undef, undef, undef, undef, undef, undef, undef, undef, undef, undef, undef, undef, undef, undef, undef, undef, undef, undef, undef, undef, undef, undef, undef, undef, undef, undef, undef, undef, undef, undef, undef, undef, undef, undef, undef, undef, undef, undef, undef, undef, undef, undef, undef, undef, undef, undef, undef, undef, undef, undef, undef, undef, undef, undef, undef, undef, undef, undef, undef] rfl ?_
  have GG := GroS.refl [p, sg] w
  have kp := H.box
  have ksg := H.sec
  have hne := H.ne
  have HN := HB
  refine wp_seq ?_
  refine wp_region_lit ?_
  refine s_val 6 rfl rfl (.int .i64 0) (rfl) ?_
  refine nr ?_; intro U h; simp only [z0, z1] at h; subst h
  refine wpList_nil ?_
  refine then_n ?_
  refine wp_seq ?_
  refine wp_seq ?_
  refine wp_region_opq ?_
  intro OPS hY
  have y2 := hY 2 10 rfl
  clear hY
  refine s_val 8 rfl rfl (.int .i64 ((i : Nat) : Int)) (rfl) ?_
  refine nr ?_; intro U h; simp only [z0, z1] at h; subst h
  refine s_val 9 rfl rfl (.bool false) (run_lssT 3 _ _ _ rfl ((i : Nat) : Int) 0 rfl rfl false (by first | exact decide_eq_true (by omega) | exact decide_eq_false (by omega)) _) ?_
  refine nr ?_; intro U h; simp only [z0, z1] at h; subst h
  refine s_val 10 rfl rfl (.bool false) (rfl) ?_
  refine nr ?_; intro U h; simp only [z0, z1] at h; subst h
  refine s_gvalY 11 rfl rfl y2 rfl (.int .i64 ((i : Nat) : Int)) (rfl) ?_
  refine nr ?_; intro U h; simp only [z0, z1] at h; subst h
  refine s_gvalY 12 rfl rfl y2 rfl (.pointer (some ⟨p, 0, none⟩)) (rfl) ?_
  refine nr ?_; intro U h; simp only [z0, z1] at h; subst h
  refine s_gvalY 13 rfl rfl y2 rfl (.pointer (some ⟨p, 0, none⟩)) (run_nc _ rfl _ rfl) ?_
  refine nr ?_; intro U h; simp only [z0, z1] at h; subst h
  refine s_gvalY 14 rfl rfl y2 rfl (.pointer (some ⟨p, 0, none⟩)) (run_fld 50 _ 0 rfl _ _ rfl _ (by kernel_rfl)) ?_
  refine nr ?_; intro U h; simp only [z0, z1] at h; subst h
  refine s_gvalY 15 rfl rfl y2 rfl (.slice (some ⟨sg, 0, none⟩) (n * 64) (n * 64)) (run_ldc 22 _ rfl p 0 rfl 50 _ kp (na22 _) _ rfl) ?_
  refine nr ?_; intro U h; simp only [z0, z1] at h; subst h
  refine s_gvalY 16 rfl rfl y2 rfl (.int .i64 ((n * 64 : Nat) : Int)) (run_len Try.underlying22 _ rfl _ _ _ rfl _) ?_
  refine nr ?_; intro U h; simp only [z0, z1] at h; subst h
  refine s_gvalY 17 rfl rfl y2 rfl (.int .i64 ((n : Nat) : Int)) (run_quo64 _ _ _ rfl ((n * 64 : Nat) : Int) 64 _ rfl rfl (by decide) quoN (by omega) (by have := H.le; omega) _) ?_
  refine nr ?_; intro U h; simp only [z0, z1] at h; subst h
  refine s_gvalY 18 rfl rfl y2 rfl (.bool false) (run_geqT 3 _ _ _ rfl ((i : Nat) : Int) ((n : Nat) : Int) rfl rfl false (by first | exact decide_eq_true (by omega) | exact decide_eq_false (by omega)) _) ?_
  refine nr ?_; intro U h; simp only [z0, z1] at h; subst h
  refine s_val 19 rfl rfl (.bool false) (rfl) ?_
  refine nr ?_; intro U h; simp only [z0, z1] at h; subst h
  refine wpList_nil ?_
  refine then_n ?_
  refine wp_cond_false rfl ?_
  refine wp_skip ?_
  refine then_n ?_
  refine wp_seq ?_
  refine wp_seq ?_
  refine wp_region_lit ?_
  refine s_val 20 rfl rfl (.slice ao l.length cap) (rfl) ?_
  refine nr ?_; intro U h; simp only [z0, z1] at h; subst h
  refine s_val 21 rfl rfl (.int .i64 ((l.length : Nat) : Int)) (run_len Try.underlying22 _ rfl _ _ _ rfl _) ?_
  refine nr ?_; intro U h; simp only [z0, z1] at h; subst h
  refine s_val 22 rfl rfl (.bool false) (run_gtrT 3 _ _ _ rfl ((l.length : Nat) : Int) 64 rfl rfl false (decide_eq_false (by omega)) _) ?_
  refine nr ?_; intro U h; simp only [z0, z1] at h; subst h
  refine wpList_nil ?_
  refine then_n ?_
  refine wp_cond_false rfl ?_
  refine wp_skip ?_
  refine then_n ?_
  refine wp_seq ?_
  refine wp_seq ?_
  refine wp_region_lit ?_
  refine s_val 23 rfl rfl (.pointer (some ⟨p, 0, none⟩)) (rfl) ?_
  refine nr ?_; intro U h; simp only [z0, z1] at h; subst h
  refine s_val 24 rfl rfl (.pointer (some ⟨p, 0, none⟩)) (run_nc _ rfl _ rfl) ?_
  refine nr ?_; intro U h; simp only [z0, z1] at h; subst h
  refine s_val 25 rfl rfl (.pointer (some ⟨p, 1, none⟩)) (run_fld 50 _ 1 rfl _ _ rfl _ (by kernel_rfl)) ?_
  refine nr ?_; intro U h; simp only [z0, z1] at h; subst h
  refine s_val 26 rfl rfl (.int .i64 pw) (run_ldc 3 _ rfl p 1 rfl 50 _ kp (na3 _) _ rfl) ?_
  refine nr ?_; intro U h; simp only [z0, z1] at h; subst h
  refine s_val 27 rfl rfl (.bool false) (run_eq_k 3 .i64 _ _ _ rfl Try.underlying3 pw 0 rfl rfl false (decide_eq_false (by omega)) _) ?_
  refine nr ?_; intro U h; simp only [z0, z1] at h; subst h
  refine wpList_nil ?_
  refine then_n ?_
  refine wp_cond_false rfl ?_
  refine wp_skip ?_
  refine then_n ?_
  refine wp_seq ?_
  refine wp_seq ?_
  refine wp_region_lit ?_
  refine s_val 7 rfl rfl (.int .i64 0) (rfl) ?_
  refine nr ?_; intro U h; simp only [z0, z1] at h; subst h
  refine wpList_nil ?_
  refine then_n ?_
  refine wp_block ?_
  refine wp_loopN (fun m a wv => ∃ (k : Nat) (u28 u29 u30 u31 u32 u33 u34 u35 u36 u37 u38 u39 u40 u41 u42 u43 u44 u45 u46 u47 u48 u49 u50 u51 u52 u53 u54 u55 u56 u57 : Value), m = 64 - k ∧ a = ⟨[.pointer (some ⟨p, 0, none⟩), .int .i64 ((i : Nat) : Int), .slice ao l.length cap, undef, undef, undef, .int .i64 0, .int .i64 ((k : Nat) : Int), .int .i64 ((i : Nat) : Int), .bool false, .bool false, .int .i64 ((i : Nat) : Int), .pointer (some ⟨p, 0, none⟩), .pointer (some ⟨p, 0, none⟩), .pointer (some ⟨p, 0, none⟩), .slice (some ⟨sg, 0, none⟩) (n * 64) (n * 64), .int .i64 ((n * 64 : Nat) : Int), .int .i64 ((n : Nat) : Int), .bool false, .bool false, .slice ao l.length cap, .int .i64 ((l.length : Nat) : Int), .bool false, .pointer (some ⟨p, 0, none⟩), .pointer (some ⟨p, 0, none⟩), .pointer (some ⟨p, 1, none⟩), .int .i64 pw, .bool false, u28, u29, u30, u31, u32, u33, u34, u35, u36, u37, u38, u39, u40, u41, u42, u43, u44, u45, u46, u47, u48, u49, u50, u51, u52, u53, u54, u55, u56, u57, undef, undef, undef, undef, undef, undef, undef, undef, undef, undef, undef, undef, undef, undef, undef, undef, undef, undef, undef].toArray, []⟩ ∧ k ≤ 64 ∧ GroS [p, sg] w wv ∧ wv.heap[p]? = some (.cells (c50 ⟨some ⟨sg, 0, none⟩, n * 64, n * 64⟩ pw dn) 50 (0, 0)) ∧ wv.heap[sg]? = some (.cells (bv (wr L (i * 64) ((padS l).take k))) 5 (0, 0)) ∧ BS [p, sg] wv ao cap l) ?_ _ ⟨0, undef, undef, undef, undef, undef, undef, undef, undef, undef, undef, undef, undef, undef, undef, undef, undef, undef, undef, undef, undef, undef, undef, undef, undef, undef, undef, undef, undef, undef, undef, rfl, rfl, Nat.zero_le _, GG, kp, by simpa [wr] using ksg, HN⟩
  clear kp ksg GG HN
  rintro m a wv ⟨k, u28, u29, u30, u31, u32, u33, u34, u35, u36, u37, u38, u39, u40, u41, u42, u43, u44, u45, u46, u47, u48, u49, u50, u51, u52, u53, u54, u55, u56, u57, rfl, rfl, hk, GG, kp, ksg, HN⟩
  refine wp_seq ?_
  refine wp_seq ?_
  refine wp_region_lit ?_
  refine s_val 28 rfl rfl (.int .i64 ((k : Nat) : Int)) (rfl) ?_
  refine nr ?_; intro U h; simp only [z0, z1] at h; subst h
  obtain ⟨p1, hp1⟩ : ∃ p, decide (((k : Nat) : Int) < 64) = p := ⟨_, rfl⟩
  refine s_val 29 rfl rfl (.bool p1) (run_lssT 3 _ _ _ rfl ((k : Nat) : Int) 64 rfl rfl p1 hp1 _) ?_
  refine nr ?_; intro U h; simp only [z0, z1] at h; subst h
  cases p1
  · replace hk : k = 64 := by have := of_decide_eq_false hp1; omega
    refine wpList_nil ?_
    refine then_n ?_
    refine wp_cond_false rfl ?_
    refine wp_exit ?_
    refine then_x ?_
    refine then_x ?_
    refine blk_x ?_
    refine then_n ?_
    refine wp_seq ?_
    refine wp_seq ?_
    refine wp_region_lit ?_
    refine s_val 58 rfl rfl (.pointer (some ⟨p, 0, none⟩)) (rfl) ?_
    refine nr ?_; intro U h; simp only [z0, z1] at h; subst h
    refine s_val 59 rfl rfl (.pointer (some ⟨p, 0, none⟩)) (run_nc _ rfl _ rfl) ?_
    refine nr ?_; intro U h; simp only [z0, z1] at h; subst h
    refine s_val 60 rfl rfl (.pointer (some ⟨p, 1, none⟩)) (run_fld 50 _ 1 rfl _ _ rfl _ (by kernel_rfl)) ?_
    refine nr ?_; intro U h; simp only [z0, z1] at h; subst h
    refine s_val 61 rfl rfl (.int .i64 pw) (run_ldc 3 _ rfl p 1 rfl 50 _ kp (na3 _) _ rfl) ?_
    refine nr ?_; intro U h; simp only [z0, z1] at h; subst h
    refine s_val 62 rfl rfl (.bool false) (run_gtrT 3 _ _ _ rfl pw 0 rfl rfl false (by first | exact decide_eq_true (by omega) | exact decide_eq_false (by omega)) _) ?_
    refine nr ?_; intro U h; simp only [z0, z1] at h; subst h
    refine wpList_nil ?_
    refine then_n ?_
    refine wp_cond_false rfl ?_
    refine wp_skip ?_
    refine then_n ?_
    refine wp_seq ?_
    refine wp_region_lit ?_
    refine s_val 70 rfl rfl (.pointer (some ⟨p, 0, none⟩)) (rfl) ?_
    refine nr ?_; intro U h; simp only [z0, z1] at h; subst h
    refine s_val 71 rfl rfl (.pointer (some ⟨p, 0, none⟩)) (run_nc _ rfl _ rfl) ?_
    refine nr ?_; intro U h; simp only [z0, z1] at h; subst h
    refine s_val 72 rfl rfl (.pointer (some ⟨p, 2, none⟩)) (run_fld 50 _ 2 rfl _ _ rfl _ (by kernel_rfl)) ?_
    refine nr ?_; intro U h; simp only [z0, z1] at h; subst h
    refine s_val 73 rfl rfl (.int .i64 dn) (run_ldc 3 _ rfl p 2 rfl 50 _ kp (na3 _) _ rfl) ?_
    refine nr ?_; intro U h; simp only [z0, z1] at h; subst h
    refine s_val 74 rfl rfl (.int .i64 (dn + 1)) (run_add64 _ _ _ rfl dn 1 _ rfl rfl rfl (by omega) (by omega) _) ?_
    refine nr ?_; intro U h; simp only [z0, z1] at h; subst h
    refine s_val 75 rfl rfl (.pointer (some ⟨p, 0, none⟩)) (run_nc _ rfl _ rfl) ?_
    refine nr ?_; intro U h; simp only [z0, z1] at h; subst h
    refine s_val 76 rfl rfl (.pointer (some ⟨p, 2, none⟩)) (run_fld 50 _ 2 rfl _ _ rfl _ (by kernel_rfl)) ?_
    refine nr ?_; intro U h; simp only [z0, z1] at h; subst h
    refine s_store rfl rfl 3 _ _ rfl p 2 rfl (.int .i64 (dn + 1)) rfl 50 _ kp #[.int .i64 (dn + 1)] rfl (by kernel_rfl) (Nat.le_of_ble_eq_true rfl) (by kernel_rfl) (c50 ⟨some ⟨sg, 0, none⟩, n * 64, n * 64⟩ pw (dn + 1)) (by kernel_rfl) ?_
    intro w2 St
    replace ksg := St.has (by omega) ksg
    replace HN := HN.gros ((GroS.refl [p, sg] _).st St (.inr (by simp)))
    replace GG := GG.st St (.inr (by simp))
    replace kp := St.new
    clear St
    refine wpList_nil ?_
    refine then_n ?_
    refine wp_seq ?_
    refine wp_region_lit ?_
    refine s_val 6 rfl rfl (.int .i64 0) (rfl) ?_
    refine nr ?_; intro U h; simp only [z0, z1] at h; subst h
    refine wpList_nil ?_
    refine then_n ?_
    refine wp_ret ?_
    refine bodyPost_ret (results_tmp Try.results34 _ _ _) rfl ?_
    subst hk
    rw [List.take_of_length_le (by rw [padS_len hl]; exact Nat.le_refl _)] at ksg
    exact ⟨rfl, GG, kp, ksg, by rw [wr_len (by rw [padS_len hl]; exact sec_fit H.len hi)]; exact H.len, H.le, wr_byte H.byte (padS_byte HB.nc.lt256), H.ne⟩
  replace hk : k < 64 := by have := of_decide_eq_true hp1; omega
  refine wpList_nil ?_
  refine then_n ?_
  refine wp_cond_true rfl ?_
  refine wp_skip ?_
  refine then_n ?_
  refine wp_seq ?_
  refine wp_block ?_
  refine wp_seq ?_
  refine wp_region_lit ?_
  refine s_val 32 rfl rfl (.pointer (some ⟨p, 0, none⟩)) (rfl) ?_
  refine nr ?_; intro U h; simp only [z0, z1] at h; subst h
  refine s_val 33 rfl rfl (.pointer (some ⟨p, 0, none⟩)) (run_nc _ rfl _ rfl) ?_
  refine nr ?_; intro U h; simp only [z0, z1] at h; subst h
  refine s_val 34 rfl rfl (.pointer (some ⟨p, 0, none⟩)) (run_fld 50 _ 0 rfl _ _ rfl _ (by kernel_rfl)) ?_
  refine nr ?_; intro U h; simp only [z0, z1] at h; subst h
  refine s_val 35 rfl rfl (.slice (some ⟨sg, 0, none⟩) (n * 64) (n * 64)) (run_ldc 22 _ rfl p 0 rfl 50 _ kp (na22 _) _ rfl) ?_
  refine nr ?_; intro U h; simp only [z0, z1] at h; subst h
  refine s_val 36 rfl rfl (.int .i64 ((i : Nat) : Int)) (rfl) ?_
  refine nr ?_; intro U h; simp only [z0, z1] at h; subst h
  refine s_val 37 rfl rfl (.int .i64 ((i * 64 : Nat) : Int)) (run_mul64 _ _ _ rfl 64 ((i : Nat) : Int) _ rfl rfl (by omega) (by omega) (by have := H.le; omega) _) ?_
  refine nr ?_; intro U h; simp only [z0, z1] at h; subst h
  refine s_val 38 rfl rfl (.int .i64 ((k : Nat) : Int)) (rfl) ?_
  refine nr ?_; intro U h; simp only [z0, z1] at h; subst h
  refine s_val 39 rfl rfl (.int .i64 ((i * 64 + k : Nat) : Int)) (run_add64 _ _ _ rfl ((i * 64 : Nat) : Int) ((k : Nat) : Int) _ rfl rfl (by omega) (by omega) (by have := H.le; omega) _) ?_
  refine nr ?_; intro U h; simp only [z0, z1] at h; subst h
  refine s_val 40 rfl rfl (.pointer (some ⟨sg, i * 64 + k, none⟩)) (bat _ _ rfl sg (n * 64) (n * 64) (i * 64 + k) rfl rfl (by omega) _) ?_
  refine nr ?_; intro U h; simp only [z0, z1] at h; subst h
  refine s_store rfl rfl 5 _ _ rfl sg (i * 64 + k) rfl (.int .u8 0) rfl 5 _ ksg #[.int .u8 ((0 : Nat) : Int)] rfl si5 (by rw [bv_size]; rw [wrk_len H.len hi (Nat.le_of_lt hk) hl, H.len]; simp only [List.size_toArray, List.length_cons, List.length_nil]; omega) (one1 _) _ (bv_set (wr L (i * 64) ((padS l).take k)) (i * 64 + k) 0 (by rw [wrk_len H.len hi (Nat.le_of_lt hk) hl, H.len]; omega)) ?_
  intro w1 St
  replace kp := St.has (by omega) kp
  replace HN := HN.gros ((GroS.refl [p, sg] _).st St (.inr (by simp)))
  replace GG := GG.st St (.inr (by simp))
  replace ksg := St.new
  clear St
  refine wpList_nil ?_
  refine then_n ?_
  refine wp_seq ?_
  refine wp_region_lit ?_
  refine s_val 41 rfl rfl (.int .i64 ((k : Nat) : Int)) (rfl) ?_
  refine nr ?_; intro U h; simp only [z0, z1] at h; subst h
  refine s_val 42 rfl rfl (.slice ao l.length cap) (rfl) ?_
  refine nr ?_; intro U h; simp only [z0, z1] at h; subst h
  refine s_val 43 rfl rfl (.int .i64 ((l.length : Nat) : Int)) (run_len Try.underlying22 _ rfl _ _ _ rfl _) ?_
  refine nr ?_; intro U h; simp only [z0, z1] at h; subst h
  obtain ⟨p2, hp2⟩ : ∃ p, decide (((k : Nat) : Int) < ((l.length : Nat) : Int)) = p := ⟨_, rfl⟩
  refine s_val 44 rfl rfl (.bool p2) (run_lssT 3 _ _ _ rfl ((k : Nat) : Int) ((l.length : Nat) : Int) rfl rfl p2 hp2 _) ?_
  refine nr ?_; intro U h; simp only [z0, z1] at h; subst h
  cases p2
  · have hkl : l.length ≤ k := by have := of_decide_eq_false hp2; omega
    refine wpList_nil ?_
    refine then_n ?_
    refine wp_cond_false rfl ?_
    refine wp_skip ?_
    refine blk_n ?_
    refine then_n ?_
    refine wp_region_lit ?_
    refine s_val 30 rfl rfl (.int .i64 ((k : Nat) : Int)) (rfl) ?_
    refine nr ?_; intro U h; simp only [z0, z1] at h; subst h
    refine s_val 31 rfl rfl (.int .i64 ((k + 1 : Nat) : Int)) (run_add64 _ _ _ rfl ((k : Nat) : Int) 1 _ rfl rfl (by omega) (by omega) (by omega) _) ?_
    refine nr ?_; intro U h; simp only [z0, z1] at h; subst h
    refine s_val 7 rfl rfl (.int .i64 ((k + 1 : Nat) : Int)) (rfl) ?_
    refine nr ?_; intro U h; simp only [z0, z1] at h; subst h
    refine wpList_nil ?_
    refine then_n ?_
    rw [wr_setv (padS_out hkl) (by rw [padS_len hl]; omega) (by rw [padS_len hl]; exact sec_fit H.len hi)] at ksg
    exact ⟨_, (by omega : 64 - (k + 1) < 64 - k), k + 1, .int .i64 ((k : Nat) : Int), .bool true, .int .i64 ((k : Nat) : Int), .int .i64 ((k + 1 : Nat) : Int), .pointer (some ⟨p, 0, none⟩), .pointer (some ⟨p, 0, none⟩), .pointer (some ⟨p, 0, none⟩), .slice (some ⟨sg, 0, none⟩) (n * 64) (n * 64), .int .i64 ((i : Nat) : Int), .int .i64 ((i * 64 : Nat) : Int), .int .i64 ((k : Nat) : Int), .int .i64 ((i * 64 + k : Nat) : Int), .pointer (some ⟨sg, i * 64 + k, none⟩), .int .i64 ((k : Nat) : Int), .slice ao l.length cap, .int .i64 ((l.length : Nat) : Int), .bool false, u45, u46, u47, u48, u49, u50, u51, u52, u53, u54, u55, u56, u57, rfl, rfl, hk, GG, kp, ksg, HN⟩
  have hkl : k < l.length := by have := of_decide_eq_true hp2; omega
  obtain ⟨ad, hao, _⟩ := HN.nc.at hkl
  refine wpList_nil ?_
  refine then_n ?_
  refine wp_cond_true rfl ?_
  refine wp_region_exA (A := ?A) 12 [(0, 45), (1, 46), (2, 47), (3, 48), (4, 49), (5, 50), (6, 51), (7, 52), (8, 53), (9, 54), (10, 55), (11, 56)] [.val (.pointer (some ⟨p, 0, none⟩)), .val (.pointer (some ⟨p, 0, none⟩)), .val (.pointer (some ⟨p, 0, none⟩)), .val (.slice (some ⟨sg, 0, none⟩) (n * 64) (n * 64)), .val (.int .i64 ((i : Nat) : Int)), .val (.int .i64 ((i * 64 : Nat) : Int)), .val (.int .i64 ((k : Nat) : Int)), .val (.int .i64 ((i * 64 + k : Nat) : Int)), .val (.slice ao l.length cap), .val (.int .i64 ((k : Nat) : Int)), .val (.pointer (some (ad.add k))), .val (.int .u8 ((l.getD k 0 : Nat) : Int))] follows (by kernel_rfl) rfl ?hA (opsA_cons ?o0 (opsA_cons ?o1 (opsA_cons ?o2 (opsA_cons ?o3 (opsA_cons ?o4 (opsA_cons ?o5 (opsA_cons ?o6 (opsA_cons ?o7 (opsA_cons ?o8 (opsA_cons ?o9 (opsA_cons ?o10 (opsA_cons ?o11 opsA_nil)))))))))))) ?rest
  case hA =>
    intro ptrs
    simp only [full, foldSlots, filledE, postE, List.foldl_cons, List.foldl_nil, List.getD_cons_zero, List.getD_cons_succ, fill_val, List.set_cons_zero, List.set_cons_succ]
    exact rfl
  case o0 => exact fun _ _ _ _ => opE_move (v := .pointer (some ⟨p, 0, none⟩)) _ rfl rfl rfl
  case o1 => exact fun _ _ hw _ => opE_value (v := .pointer (some ⟨p, 0, none⟩)) rfl (run_nc _ rfl _ rfl)
  case o2 => exact fun _ _ hw _ => opE_value (v := .pointer (some ⟨p, 0, none⟩)) rfl (run_fld 50 _ 0 rfl _ _ rfl _ (by kernel_rfl))
  case o3 => exact fun _ _ hw _ => opE_value (v := .slice (some ⟨sg, 0, none⟩) (n * 64) (n * 64)) rfl (run_ldc 22 _ rfl p 0 rfl 50 _ (hw.has kp) (na22 _) _ rfl)
  case o4 => exact fun _ _ _ _ => opE_move (v := .int .i64 ((i : Nat) : Int)) _ rfl rfl rfl
  case o5 => exact fun _ _ hw _ => opE_value (v := .int .i64 ((i * 64 : Nat) : Int)) rfl (run_mul64 _ _ _ rfl 64 ((i : Nat) : Int) _ rfl rfl (by omega) (by omega) (by have := H.le; omega) _)
  case o6 => exact fun _ _ _ _ => opE_move (v := .int .i64 ((k : Nat) : Int)) _ rfl rfl rfl
  case o7 => exact fun _ _ hw _ => opE_value (v := .int .i64 ((i * 64 + k : Nat) : Int)) rfl (run_add64 _ _ _ rfl ((i * 64 : Nat) : Int) ((k : Nat) : Int) _ rfl rfl (by omega) (by omega) (by have := H.le; omega) _)
  case o8 => exact fun _ _ _ _ => opE_move (v := .slice ao l.length cap) _ rfl rfl rfl
  case o9 => exact fun _ _ _ _ => opE_move (v := .int .i64 ((k : Nat) : Int)) _ rfl rfl rfl
  case o10 => exact fun _ _ hw _ => opE_value (v := .pointer (some (ad.add k))) rfl (run_idx bT _ _ rfl ad l.length cap k (by exact congrArg (fun a => Value.slice a l.length cap) hao) rfl hkl _)
  case o11 => exact fun _ _ hw _ => opE_value (v := .int .u8 ((l.getD k 0 : Nat) : Int)) rfl (run_ld bT _ rfl (ad.add k) rfl _ _ ((HN.nc.gro ((Gro.refl _).drew.trans hw)).cell ad hao k hkl))
  intro ptrs w2 GD hxE
  simp only [List.drop_succ_cons, List.drop_zero]
  replace kp := GD.has kp
  replace ksg := GD.has ksg
  replace HN := HN.gro ((Gro.refl _).drew.trans GD)
  replace GG := GG.drew.tg GD
  clear GD
  refine s_val 57 rfl rfl (.pointer (some ⟨sg, i * 64 + k, none⟩)) (bat _ _ rfl sg (n * 64) (n * 64) (i * 64 + k) rfl rfl (by omega) _) ?_
  refine nr ?_; intro U h; simp only [z0, z1] at h; subst h
  refine s_store rfl rfl 5 _ _ rfl sg (i * 64 + k) rfl (.int .u8 ((l.getD k 0 : Nat) : Int)) rfl 5 _ ksg #[.int .u8 (((l.getD k 0) : Nat) : Int)] rfl si5 (by rw [bv_size]; simp only [List.length_set]; rw [wrk_len H.len hi (Nat.le_of_lt hk) hl, H.len]; simp only [List.size_toArray, List.length_cons, List.length_nil]; omega) (one1 _) _ (bv_set ((wr L (i * 64) ((padS l).take k)).set (i * 64 + k) 0) (i * 64 + k) (l.getD k 0) (by simp only [List.length_set]; rw [wrk_len H.len hi (Nat.le_of_lt hk) hl, H.len]; omega)) ?_
  intro w3 St
  replace kp := St.has (by omega) kp
  replace HN := HN.gros ((GroS.refl [p, sg] _).st St (.inr (by simp)))
  replace GG := GG.st St (.inr (by simp))
  replace ksg := St.new
  clear St
  refine wpList_nil ?_
  refine blk_n ?_
  refine then_n ?_
  refine wp_region_lit ?_
  refine s_val 30 rfl rfl (.int .i64 ((k : Nat) : Int)) (rfl) ?_
  refine nr ?_; intro U h; simp only [z0, z1] at h; subst h
  refine s_val 31 rfl rfl (.int .i64 ((k + 1 : Nat) : Int)) (run_add64 _ _ _ rfl ((k : Nat) : Int) 1 _ rfl rfl (by omega) (by omega) (by omega) _) ?_
  refine nr ?_; intro U h; simp only [z0, z1] at h; subst h
  refine s_val 7 rfl rfl (.int .i64 ((k + 1 : Nat) : Int)) (rfl) ?_
  refine nr ?_; intro U h; simp only [z0, z1] at h; subst h
  refine wpList_nil ?_
  refine then_n ?_
  rw [List.set_set, wr_setv (padS_at hkl) (by rw [padS_len hl]; omega) (by rw [padS_len hl]; exact sec_fit H.len hi)] at ksg
  exact ⟨_, (by omega : 64 - (k + 1) < 64 - k), k + 1, .int .i64 ((k : Nat) : Int), .bool true, .int .i64 ((k : Nat) : Int), .int .i64 ((k + 1 : Nat) : Int), .pointer (some ⟨p, 0, none⟩), .pointer (some ⟨p, 0, none⟩), .pointer (some ⟨p, 0, none⟩), .slice (some ⟨sg, 0, none⟩) (n * 64) (n * 64), .int .i64 ((i : Nat) : Int), .int .i64 ((i * 64 : Nat) : Int), .int .i64 ((k : Nat) : Int), .int .i64 ((i * 64 + k : Nat) : Int), .pointer (some ⟨sg, i * 64 + k, none⟩), .int .i64 ((k : Nat) : Int), .slice ao l.length cap, .int .i64 ((l.length : Nat) : Int), .bool true, .pointer (some ⟨p, 0, none⟩), .pointer (some ⟨p, 0, none⟩), .pointer (some ⟨p, 0, none⟩), .slice (some ⟨sg, 0, none⟩) (n * 64) (n * 64), .int .i64 ((i : Nat) : Int), .int .i64 ((i * 64 : Nat) : Int), .int .i64 ((k : Nat) : Int), .int .i64 ((i * 64 + k : Nat) : Int), .slice ao l.length cap, .int .i64 ((k : Nat) : Int), .pointer (some (ad.add k)), .int .u8 ((l.getD k 0 : Nat) : Int), .pointer (some ⟨sg, i * 64 + k, none⟩), rfl, rfl, hk, GG, kp, ksg, HN⟩
set_option maxRecDepth 100000 in
set_option maxHeartbeats 4000000 in
theorem rwrite_ok (w : World) (p sg n : Nat) (L : List Nat) (pw dn : Int) (H : RK w p sg n L pw dn) (ao : Option Addr) (cap : Nat) (l : List Nat) (HB : BS [p, sg] w ao cap l) (i : Nat) (hi : i < n) (hl : l.length ≤ 64) (h1 : 0 < pw) (h2 : pw < 9223372036854775808) (hd : 0 ≤ dn) (hd2 : dn < 9223372036854775807) : Calls Try.prog 34 #[.pointer (some ⟨p, 0, none⟩), .int .i64 ((i : Nat) : Int), .slice ao l.length cap] w fun e w' => e = .returned (.int .i64 0) ∧ GroS [p, sg] w w' ∧ RK w' p sg n (wr L (i * 64) (padS l)) (pw - 1) (dn + 1) := by
  refine s_enter Try.func34 rfl Try.ntmps34 [.pointer (some ⟨p, 0, none⟩), .int .i64 ((i : Nat) : Int), .slice ao l.length cap] [.pointer (some ⟨p, 0, none⟩), .int .i64 ((i : Nat) : Int), .slice ao l.length cap, undef, undef, undef, undef, undef, undef, undef, undef, undef, undef, undef, undef, undef, undef, undef, undef, undef, undef, undef, undef, undef, undef, undef, undef, undef, undef, undef, undef, undef, undef, undef, undef, undef, undef, undef, undef, undef, undef, undef, undef, undef, undef, undef, undef, undef, undef, undef, undef, undef, undef, undef, undef, undef, undef, undef, undef, undef, undef, undef, undef, undef, undef, undef, undef, undef, undef, undef, undef, undef, undef, undef, undef, undef, undef] rfl ?_
  have GG := GroS.refl [p, sg] w
  have kp := H.box
  have ksg := H.sec
  have hne := H.ne
  have HN := HB
  refine wp_seq ?_
  refine wp_region_lit ?_
  refine s_val 6 rfl rfl (.int .i64 0) (rfl) ?_
  refine nr ?_; intro U h; simp only [z0, z1] at h; subst h
  refine wpList_nil ?_
  refine then_n ?_
  refine wp_seq ?_
  refine wp_seq ?_
  refine wp_region_opq ?_
  intro OPS hY
  have y2 := hY 2 10 rfl
  clear hY
  refine s_val 8 rfl rfl (.int .i64 ((i : Nat) : Int)) (rfl) ?_
  refine nr ?_; intro U h; simp only [z0, z1] at h; subst h
  refine s_val 9 rfl rfl (.bool false) (run_lssT 3 _ _ _ rfl ((i : Nat) : Int) 0 rfl rfl false (by first | exact decide_eq_true (by omega) | exact decide_eq_false (by omega)) _) ?_
  refine nr ?_; intro U h; simp only [z0, z1] at h; subst h
  refine s_val 10 rfl rfl (.bool false) (rfl) ?_
  refine nr ?_; intro U h; simp only [z0, z1] at h; subst h
  refine s_gvalY 11 rfl rfl y2 rfl (.int .i64 ((i : Nat) : Int)) (rfl) ?_
  refine nr ?_; intro U h; simp only [z0, z1] at h; subst h
  refine s_gvalY 12 rfl rfl y2 rfl (.pointer (some ⟨p, 0, none⟩)) (rfl) ?_
  refine nr ?_; intro U h; simp only [z0, z1] at h; subst h
  refine s_gvalY 13 rfl rfl y2 rfl (.pointer (some ⟨p, 0, none⟩)) (run_nc _ rfl _ rfl) ?_
  refine nr ?_; intro U h; simp only [z0, z1] at h; subst h
  refine s_gvalY 14 rfl rfl y2 rfl (.pointer (some ⟨p, 0, none⟩)) (run_fld 50 _ 0 rfl _ _ rfl _ (by kernel_rfl)) ?_
  refine nr ?_; intro U h; simp only [z0, z1] at h; subst h
  refine s_gvalY 15 rfl rfl y2 rfl (.slice (some ⟨sg, 0, none⟩) (n * 64) (n * 64)) (run_ldc 22 _ rfl p 0 rfl 50 _ kp (na22 _) _ rfl) ?_
  refine nr ?_; intro U h; simp only [z0, z1] at h; subst h
  refine s_gvalY 16 rfl rfl y2 rfl (.int .i64 ((n * 64 : Nat) : Int)) (run_len Try.underlying22 _ rfl _ _ _ rfl _) ?_
  refine nr ?_; intro U h; simp only [z0, z1] at h; subst h
  refine s_gvalY 17 rfl rfl y2 rfl (.int .i64 ((n : Nat) : Int)) (run_quo64 _ _ _ rfl ((n * 64 : Nat) : Int) 64 _ rfl rfl (by decide) quoN (by omega) (by have := H.le; omega) _) ?_
  refine nr ?_; intro U h; simp only [z0, z1] at h; subst h
  refine s_gvalY 18 rfl rfl y2 rfl (.bool false) (run_geqT 3 _ _ _ rfl ((i : Nat) : Int) ((n : Nat) : Int) rfl rfl false (by first | exact decide_eq_true (by omega) | exact decide_eq_false (by omega)) _) ?_
  refine nr ?_; intro U h; simp only [z0, z1] at h; subst h
  refine s_val 19 rfl rfl (.bool false) (rfl) ?_
  refine nr ?_; intro U h; simp only [z0, z1] at h; subst h
  refine wpList_nil ?_
  refine then_n ?_
  refine wp_cond_false rfl ?_
  refine wp_skip ?_
  refine then_n ?_
  refine wp_seq ?_
  refine wp_seq ?_
  refine wp_region_lit ?_
  refine s_val 20 rfl rfl (.slice ao l.length cap) (rfl) ?_
  refine nr ?_; intro U h; simp only [z0, z1] at h; subst h
  refine s_val 21 rfl rfl (.int .i64 ((l.length : Nat) : Int)) (run_len Try.underlying22 _ rfl _ _ _ rfl _) ?_
  refine nr ?_; intro U h; simp only [z0, z1] at h; subst h
  refine s_val 22 rfl rfl (.bool false) (run_gtrT 3 _ _ _ rfl ((l.length : Nat) : Int) 64 rfl rfl false (decide_eq_false (by omega)) _) ?_
  refine nr ?_; intro U h; simp only [z0, z1] at h; subst h
  refine wpList_nil ?_
  refine then_n ?_
  refine wp_cond_false rfl ?_
  refine wp_skip ?_
  refine then_n ?_
  refine wp_seq ?_
  refine wp_seq ?_
  refine wp_region_lit ?_
  refine s_val 23 rfl rfl (.pointer (some ⟨p, 0, none⟩)) (rfl) ?_
  refine nr ?_; intro U h; simp only [z0, z1] at h; subst h
  refine s_val 24 rfl rfl (.pointer (some ⟨p, 0, none⟩)) (run_nc _ rfl _ rfl) ?_
  refine nr ?_; intro U h; simp only [z0, z1] at h; subst h
  refine s_val 25 rfl rfl (.pointer (some ⟨p, 1, none⟩)) (run_fld 50 _ 1 rfl _ _ rfl _ (by kernel_rfl)) ?_
  refine nr ?_; intro U h; simp only [z0, z1] at h; subst h
  refine s_val 26 rfl rfl (.int .i64 pw) (run_ldc 3 _ rfl p 1 rfl 50 _ kp (na3 _) _ rfl) ?_
  refine nr ?_; intro U h; simp only [z0, z1] at h; subst h
  refine s_val 27 rfl rfl (.bool false) (run_eq_k 3 .i64 _ _ _ rfl Try.underlying3 pw 0 rfl rfl false (decide_eq_false (by omega)) _) ?_
  refine nr ?_; intro U h; simp only [z0, z1] at h; subst h
  refine wpList_nil ?_
  refine then_n ?_
  refine wp_cond_false rfl ?_
  refine wp_skip ?_
  refine then_n ?_
  refine wp_seq ?_
  refine wp_seq ?_
  refine wp_region_lit ?_
  refine s_val 7 rfl rfl (.int .i64 0) (rfl) ?_
  refine nr ?_; intro U h; simp only [z0, z1] at h; subst h
  refine wpList_nil ?_
  refine then_n ?_
  refine wp_block ?_
  refine wp_loopN (fun m a wv => ∃ (k : Nat) (u28 u29 u30 u31 u32 u33 u34 u35 u36 u37 u38 u39 u40 u41 u42 u43 u44 u45 u46 u47 u48 u49 u50 u51 u52 u53 u54 u55 u56 u57 : Value), m = 64 - k ∧ a = ⟨[.pointer (some ⟨p, 0, none⟩), .int .i64 ((i : Nat) : Int), .slice ao l.length cap, undef, undef, undef, .int .i64 0, .int .i64 ((k : Nat) : Int), .int .i64 ((i : Nat) : Int), .bool false, .bool false, .int .i64 ((i : Nat) : Int), .pointer (some ⟨p, 0, none⟩), .pointer (some ⟨p, 0, none⟩), .pointer (some ⟨p, 0, none⟩), .slice (some ⟨sg, 0, none⟩) (n * 64) (n * 64), .int .i64 ((n * 64 : Nat) : Int), .int .i64 ((n : Nat) : Int), .bool false, .bool false, .slice ao l.length cap, .int .i64 ((l.length : Nat) : Int), .bool false, .pointer (some ⟨p, 0, none⟩), .pointer (some ⟨p, 0, none⟩), .pointer (some ⟨p, 1, none⟩), .int .i64 pw, .bool false, u28, u29, u30, u31, u32, u33, u34, u35, u36, u37, u38, u39, u40, u41, u42, u43, u44, u45, u46, u47, u48, u49, u50, u51, u52, u53, u54, u55, u56, u57, undef, undef, undef, undef, undef, undef, undef, undef, undef, undef, undef, undef, undef, undef, undef, undef, undef, undef, undef].toArray, []⟩ ∧ k ≤ 64 ∧ GroS [p, sg] w wv ∧ wv.heap[p]? = some (.cells (c50 ⟨some ⟨sg, 0, none⟩, n * 64, n * 64⟩ pw dn) 50 (0, 0)) ∧ wv.heap[sg]? = some (.cells (bv (wr L (i * 64) ((padS l).take k))) 5 (0, 0)) ∧ BS [p, sg] wv ao cap l) ?_ _ ⟨0, undef, undef, undef, undef, undef, undef, undef, undef, undef, undef, undef, undef, undef, undef, undef, undef, undef, undef, undef, undef, undef, undef, undef, undef, undef, undef, undef, undef, undef, undef, rfl, rfl, Nat.zero_le _, GG, kp, by simpa [wr] using ksg, HN⟩
  clear kp ksg GG HN
  rintro m a wv ⟨k, u28, u29, u30, u31, u32, u33, u34, u35, u36, u37, u38, u39, u40, u41, u42, u43, u44, u45, u46, u47, u48, u49, u50, u51, u52, u53, u54, u55, u56, u57, rfl, rfl, hk, GG, kp, ksg, HN⟩
  refine wp_seq ?_
  refine wp_seq ?_
  refine wp_region_lit ?_
  refine s_val 28 rfl rfl (.int .i64 ((k : Nat) : Int)) (rfl) ?_
  refine nr ?_; intro U h; simp only [z0, z1] at h; subst h
  obtain ⟨p1, hp1⟩ : ∃ p, decide (((k : Nat) : Int) < 64) = p := ⟨_, rfl⟩
  refine s_val 29 rfl rfl (.bool p1) (run_lssT 3 _ _ _ rfl ((k : Nat) : Int) 64 rfl rfl p1 hp1 _) ?_
  refine nr ?_; intro U h; simp only [z0, z1] at h; subst h
  cases p1
  · replace hk : k = 64 := by have := of_decide_eq_false hp1; omega
    refine wpList_nil ?_
    refine then_n ?_
    refine wp_cond_false rfl ?_
    refine wp_exit ?_
    refine then_x ?_
    refine then_x ?_
    refine blk_x ?_
    refine then_n ?_
    refine wp_seq ?_
    refine wp_seq ?_
    refine wp_region_lit ?_
    refine s_val 58 rfl rfl (.pointer (some ⟨p, 0, none⟩)) (rfl) ?_
    refine nr ?_; intro U h; simp only [z0, z1] at h; subst h
    refine s_val 59 rfl rfl (.pointer (some ⟨p, 0, none⟩)) (run_nc _ rfl _ rfl) ?_
    refine nr ?_; intro U h; simp only [z0, z1] at h; subst h
    refine s_val 60 rfl rfl (.pointer (some ⟨p, 1, none⟩)) (run_fld 50 _ 1 rfl _ _ rfl _ (by kernel_rfl)) ?_
    refine nr ?_; intro U h; simp only [z0, z1] at h; subst h
    refine s_val 61 rfl rfl (.int .i64 pw) (run_ldc 3 _ rfl p 1 rfl 50 _ kp (na3 _) _ rfl) ?_
    refine nr ?_; intro U h; simp only [z0, z1] at h; subst h
    refine s_val 62 rfl rfl (.bool true) (run_gtrT 3 _ _ _ rfl pw 0 rfl rfl true (by first | exact decide_eq_true (by omega) | exact decide_eq_false (by omega)) _) ?_
    refine nr ?_; intro U h; simp only [z0, z1] at h; subst h
    refine wpList_nil ?_
    refine then_n ?_
    refine wp_cond_true rfl ?_
    refine wp_region_lit ?_
    refine s_val 63 rfl rfl (.pointer (some ⟨p, 0, none⟩)) (rfl) ?_
    refine nr ?_; intro U h; simp only [z0, z1] at h; subst h
    refine s_val 64 rfl rfl (.pointer (some ⟨p, 0, none⟩)) (run_nc _ rfl _ rfl) ?_
    refine nr ?_; intro U h; simp only [z0, z1] at h; subst h
    refine s_val 65 rfl rfl (.pointer (some ⟨p, 1, none⟩)) (run_fld 50 _ 1 rfl _ _ rfl _ (by kernel_rfl)) ?_
    refine nr ?_; intro U h; simp only [z0, z1] at h; subst h
    refine s_val 66 rfl rfl (.int .i64 pw) (run_ldc 3 _ rfl p 1 rfl 50 _ kp (na3 _) _ rfl) ?_
    refine nr ?_; intro U h; simp only [z0, z1] at h; subst h
    refine s_val 67 rfl rfl (.int .i64 (pw - 1)) (run_sub64 _ _ _ rfl pw 1 _ rfl rfl rfl (by omega) (by omega) _) ?_
    refine nr ?_; intro U h; simp only [z0, z1] at h; subst h
    refine s_val 68 rfl rfl (.pointer (some ⟨p, 0, none⟩)) (run_nc _ rfl _ rfl) ?_
    refine nr ?_; intro U h; simp only [z0, z1] at h; subst h
    refine s_val 69 rfl rfl (.pointer (some ⟨p, 1, none⟩)) (run_fld 50 _ 1 rfl _ _ rfl _ (by kernel_rfl)) ?_
    refine nr ?_; intro U h; simp only [z0, z1] at h; subst h
    refine s_store rfl rfl 3 _ _ rfl p 1 rfl (.int .i64 (pw - 1)) rfl 50 _ kp #[.int .i64 (pw - 1)] rfl (by kernel_rfl) (Nat.le_of_ble_eq_true rfl) (by kernel_rfl) (c50 ⟨some ⟨sg, 0, none⟩, n * 64, n * 64⟩ (pw - 1) dn) (by kernel_rfl) ?_
    intro w2 St
    replace ksg := St.has (by omega) ksg
    replace HN := HN.gros ((GroS.refl [p, sg] _).st St (.inr (by simp)))
    replace GG := GG.st St (.inr (by simp))
    replace kp := St.new
    clear St
    refine wpList_nil ?_
    refine then_n ?_
    refine wp_seq ?_
    refine wp_region_lit ?_
    refine s_val 70 rfl rfl (.pointer (some ⟨p, 0, none⟩)) (rfl) ?_
    refine nr ?_; intro U h; simp only [z0, z1] at h; subst h
    refine s_val 71 rfl rfl (.pointer (some ⟨p, 0, none⟩)) (run_nc _ rfl _ rfl) ?_
    refine nr ?_; intro U h; simp only [z0, z1] at h; subst h
    refine s_val 72 rfl rfl (.pointer (some ⟨p, 2, none⟩)) (run_fld 50 _ 2 rfl _ _ rfl _ (by kernel_rfl)) ?_
    refine nr ?_; intro U h; simp only [z0, z1] at h; subst h
    refine s_val 73 rfl rfl (.int .i64 dn) (run_ldc 3 _ rfl p 2 rfl 50 _ kp (na3 _) _ rfl) ?_
    refine nr ?_; intro U h; simp only [z0, z1] at h; subst h
    refine s_val 74 rfl rfl (.int .i64 (dn + 1)) (run_add64 _ _ _ rfl dn 1 _ rfl rfl rfl (by omega) (by omega) _) ?_
    refine nr ?_; intro U h; simp only [z0, z1] at h; subst h
    refine s_val 75 rfl rfl (.pointer (some ⟨p, 0, none⟩)) (run_nc _ rfl _ rfl) ?_
    refine nr ?_; intro U h; simp only [z0, z1] at h; subst h
    refine s_val 76 rfl rfl (.pointer (some ⟨p, 2, none⟩)) (run_fld 50 _ 2 rfl _ _ rfl _ (by kernel_rfl)) ?_
    refine nr ?_; intro U h; simp only [z0, z1] at h; subst h
    refine s_store rfl rfl 3 _ _ rfl p 2 rfl (.int .i64 (dn + 1)) rfl 50 _ kp #[.int .i64 (dn + 1)] rfl (by kernel_rfl) (Nat.le_of_ble_eq_true rfl) (by kernel_rfl) (c50 ⟨some ⟨sg, 0, none⟩, n * 64, n * 64⟩ (pw - 1) (dn + 1)) (by kernel_rfl) ?_
    intro w4 St
    replace ksg := St.has (by omega) ksg
    replace HN := HN.gros ((GroS.refl [p, sg] _).st St (.inr (by simp)))
    replace GG := GG.st St (.inr (by simp))
    replace kp := St.new
    clear St
    refine wpList_nil ?_
    refine then_n ?_
    refine wp_seq ?_
    refine wp_region_lit ?_
    refine s_val 6 rfl rfl (.int .i64 0) (rfl) ?_
    refine nr ?_; intro U h; simp only [z0, z1] at h; subst h
    refine wpList_nil ?_
    refine then_n ?_
    refine wp_ret ?_
    refine bodyPost_ret (results_tmp Try.results34 _ _ _) rfl ?_
    subst hk
    rw [List.take_of_length_le (by rw [padS_len hl]; exact Nat.le_refl _)] at ksg
    exact ⟨rfl, GG, kp, ksg, by rw [wr_len (by rw [padS_len hl]; exact sec_fit H.len hi)]; exact H.len, H.le, wr_byte H.byte (padS_byte HB.nc.lt256), H.ne⟩
  replace hk : k < 64 := by have := of_decide_eq_true hp1; omega
  refine wpList_nil ?_
  refine then_n ?_
  refine wp_cond_true rfl ?_
  refine wp_skip ?_
  refine then_n ?_
  refine wp_seq ?_
  refine wp_block ?_
  refine wp_seq ?_
  refine wp_region_lit ?_
  refine s_val 32 rfl rfl (.pointer (some ⟨p, 0, none⟩)) (rfl) ?_
  refine nr ?_; intro U h; simp only [z0, z1] at h; subst h
  refine s_val 33 rfl rfl (.pointer (some ⟨p, 0, none⟩)) (run_nc _ rfl _ rfl) ?_
  refine nr ?_; intro U h; simp only [z0, z1] at h; subst h
  refine s_val 34 rfl rfl (.pointer (some ⟨p, 0, none⟩)) (run_fld 50 _ 0 rfl _ _ rfl _ (by kernel_rfl)) ?_
  refine nr ?_; intro U h; simp only [z0, z1] at h; subst h
  refine s_val 35 rfl rfl (.slice (some ⟨sg, 0, none⟩) (n * 64) (n * 64)) (run_ldc 22 _ rfl p 0 rfl 50 _ kp (na22 _) _ rfl) ?_
  refine nr ?_; intro U h; simp only [z0, z1] at h; subst h
  refine s_val 36 rfl rfl (.int .i64 ((i : Nat) : Int)) (rfl) ?_
  refine nr ?_; intro U h; simp only [z0, z1] at h; subst h
  refine s_val 37 rfl rfl (.int .i64 ((i * 64 : Nat) : Int)) (run_mul64 _ _ _ rfl 64 ((i : Nat) : Int) _ rfl rfl (by omega) (by omega) (by have := H.le; omega) _) ?_
  refine nr ?_; intro U h; simp only [z0, z1] at h; subst h
  refine s_val 38 rfl rfl (.int .i64 ((k : Nat) : Int)) (rfl) ?_
  refine nr ?_; intro U h; simp only [z0, z1] at h; subst h
  refine s_val 39 rfl rfl (.int .i64 ((i * 64 + k : Nat) : Int)) (run_add64 _ _ _ rfl ((i * 64 : Nat) : Int) ((k : Nat) : Int) _ rfl rfl (by omega) (by omega) (by have := H.le; omega) _) ?_
  refine nr ?_; intro U h; simp only [z0, z1] at h; subst h
  refine s_val 40 rfl rfl (.pointer (some ⟨sg, i * 64 + k, none⟩)) (bat _ _ rfl sg (n * 64) (n * 64) (i * 64 + k) rfl rfl (by omega) _) ?_
  refine nr ?_; intro U h; simp only [z0, z1] at h; subst h
  refine s_store rfl rfl 5 _ _ rfl sg (i * 64 + k) rfl (.int .u8 0) rfl 5 _ ksg #[.int .u8 ((0 : Nat) : Int)] rfl si5 (by rw [bv_size]; rw [wrk_len H.len hi (Nat.le_of_lt hk) hl, H.len]; simp only [List.size_toArray, List.length_cons, List.length_nil]; omega) (one1 _) _ (bv_set (wr L (i * 64) ((padS l).take k)) (i * 64 + k) 0 (by rw [wrk_len H.len hi (Nat.le_of_lt hk) hl, H.len]; omega)) ?_
  intro w1 St
  replace kp := St.has (by omega) kp
  replace HN := HN.gros ((GroS.refl [p, sg] _).st St (.inr (by simp)))
  replace GG := GG.st St (.inr (by simp))
  replace ksg := St.new
  clear St
  refine wpList_nil ?_
  refine then_n ?_
  refine wp_seq ?_
  refine wp_region_lit ?_
  refine s_val 41 rfl rfl (.int .i64 ((k : Nat) : Int)) (rfl) ?_
  refine nr ?_; intro U h; simp only [z0, z1] at h; subst h
  refine s_val 42 rfl rfl (.slice ao l.length cap) (rfl) ?_
  refine nr ?_; intro U h; simp only [z0, z1] at h; subst h
  refine s_val 43 rfl rfl (.int .i64 ((l.length : Nat) : Int)) (run_len Try.underlying22 _ rfl _ _ _ rfl _) ?_
  refine nr ?_; intro U h; simp only [z0, z1] at h; subst h
  obtain ⟨p2, hp2⟩ : ∃ p, decide (((k : Nat) : Int) < ((l.length : Nat) : Int)) = p := ⟨_, rfl⟩
  refine s_val 44 rfl rfl (.bool p2) (run_lssT 3 _ _ _ rfl ((k : Nat) : Int) ((l.length : Nat) : Int) rfl rfl p2 hp2 _) ?_
  refine nr ?_; intro U h; simp only [z0, z1] at h; subst h
  cases p2
  · have hkl : l.length ≤ k := by have := of_decide_eq_false hp2; omega
    refine wpList_nil ?_
    refine then_n ?_
    refine wp_cond_false rfl ?_
    refine wp_skip ?_
    refine blk_n ?_
    refine then_n ?_
    refine wp_region_lit ?_
    refine s_val 30 rfl rfl (.int .i64 ((k : Nat) : Int)) (rfl) ?_
    refine nr ?_; intro U h; simp only [z0, z1] at h; subst h
    refine s_val 31 rfl rfl (.int .i64 ((k + 1 : Nat) : Int)) (run_add64 _ _ _ rfl ((k : Nat) : Int) 1 _ rfl rfl (by omega) (by omega) (by omega) _) ?_
    refine nr ?_; intro U h; simp only [z0, z1] at h; subst h
    refine s_val 7 rfl rfl (.int .i64 ((k + 1 : Nat) : Int)) (rfl) ?_
    refine nr ?_; intro U h; simp only [z0, z1] at h; subst h
    refine wpList_nil ?_
    refine then_n ?_
    rw [wr_setv (padS_out hkl) (by rw [padS_len hl]; omega) (by rw [padS_len hl]; exact sec_fit H.len hi)] at ksg
    exact ⟨_, (by omega : 64 - (k + 1) < 64 - k), k + 1, .int .i64 ((k : Nat) : Int), .bool true, .int .i64 ((k : Nat) : Int), .int .i64 ((k + 1 : Nat) : Int), .pointer (some ⟨p, 0, none⟩), .pointer (some ⟨p, 0, none⟩), .pointer (some ⟨p, 0, none⟩), .slice (some ⟨sg, 0, none⟩) (n * 64) (n * 64), .int .i64 ((i : Nat) : Int), .int .i64 ((i * 64 : Nat) : Int), .int .i64 ((k : Nat) : Int), .int .i64 ((i * 64 + k : Nat) : Int), .pointer (some ⟨sg, i * 64 + k, none⟩), .int .i64 ((k : Nat) : Int), .slice ao l.length cap, .int .i64 ((l.length : Nat) : Int), .bool false, u45, u46, u47, u48, u49, u50, u51, u52, u53, u54, u55, u56, u57, rfl, rfl, hk, GG, kp, ksg, HN⟩
  have hkl : k < l.length := by have := of_decide_eq_true hp2; omega
  obtain ⟨ad, hao, _⟩ := HN.nc.at hkl
  refine wpList_nil ?_
  refine then_n ?_
  refine wp_cond_true rfl ?_
  refine wp_region_exA (A := ?A) 12 [(0, 45), (1, 46), (2, 47), (3, 48), (4, 49), (5, 50), (6, 51), (7, 52), (8, 53), (9, 54), (10, 55), (11, 56)] [.val (.pointer (some ⟨p, 0, none⟩)), .val (.pointer (some ⟨p, 0, none⟩)), .val (.pointer (some ⟨p, 0, none⟩)), .val (.slice (some ⟨sg, 0, none⟩) (n * 64) (n * 64)), .val (.int .i64 ((i : Nat) : Int)), .val (.int .i64 ((i * 64 : Nat) : Int)), .val (.int .i64 ((k : Nat) : Int)), .val (.int .i64 ((i * 64 + k : Nat) : Int)), .val (.slice ao l.length cap), .val (.int .i64 ((k : Nat) : Int)), .val (.pointer (some (ad.add k))), .val (.int .u8 ((l.getD k 0 : Nat) : Int))] follows (by kernel_rfl) rfl ?hA (opsA_cons ?o0 (opsA_cons ?o1 (opsA_cons ?o2 (opsA_cons ?o3 (opsA_cons ?o4 (opsA_cons ?o5 (opsA_cons ?o6 (opsA_cons ?o7 (opsA_cons ?o8 (opsA_cons ?o9 (opsA_cons ?o10 (opsA_cons ?o11 opsA_nil)))))))))))) ?rest
  case hA =>
    intro ptrs
    simp only [full, foldSlots, filledE, postE, List.foldl_cons, List.foldl_nil, List.getD_cons_zero, List.getD_cons_succ, fill_val, List.set_cons_zero, List.set_cons_succ]
    exact rfl
  case o0 => exact fun _ _ _ _ => opE_move (v := .pointer (some ⟨p, 0, none⟩)) _ rfl rfl rfl
  case o1 => exact fun _ _ hw _ => opE_value (v := .pointer (some ⟨p, 0, none⟩)) rfl (run_nc _ rfl _ rfl)
  case o2 => exact fun _ _ hw _ => opE_value (v := .pointer (some ⟨p, 0, none⟩)) rfl (run_fld 50 _ 0 rfl _ _ rfl _ (by kernel_rfl))
  case o3 => exact fun _ _ hw _ => opE_value (v := .slice (some ⟨sg, 0, none⟩) (n * 64) (n * 64)) rfl (run_ldc 22 _ rfl p 0 rfl 50 _ (hw.has kp) (na22 _) _ rfl)
  case o4 => exact fun _ _ _ _ => opE_move (v := .int .i64 ((i : Nat) : Int)) _ rfl rfl rfl
  case o5 => exact fun _ _ hw _ => opE_value (v := .int .i64 ((i * 64 : Nat) : Int)) rfl (run_mul64 _ _ _ rfl 64 ((i : Nat) : Int) _ rfl rfl (by omega) (by omega) (by have := H.le; omega) _)
  case o6 => exact fun _ _ _ _ => opE_move (v := .int .i64 ((k : Nat) : Int)) _ rfl rfl rfl
  case o7 => exact fun _ _ hw _ => opE_value (v := .int .i64 ((i * 64 + k : Nat) : Int)) rfl (run_add64 _ _ _ rfl ((i * 64 : Nat) : Int) ((k : Nat) : Int) _ rfl rfl (by omega) (by omega) (by have := H.le; omega) _)
  case o8 => exact fun _ _ _ _ => opE_move (v := .slice ao l.length cap) _ rfl rfl rfl
  case o9 => exact fun _ _ _ _ => opE_move (v := .int .i64 ((k : Nat) : Int)) _ rfl rfl rfl
  case o10 => exact fun _ _ hw _ => opE_value (v := .pointer (some (ad.add k))) rfl (run_idx bT _ _ rfl ad l.length cap k (by exact congrArg (fun a => Value.slice a l.length cap) hao) rfl hkl _)
  case o11 => exact fun _ _ hw _ => opE_value (v := .int .u8 ((l.getD k 0 : Nat) : Int)) rfl (run_ld bT _ rfl (ad.add k) rfl _ _ ((HN.nc.gro ((Gro.refl _).drew.trans hw)).cell ad hao k hkl))
  intro ptrs w2 GD hxE
  simp only [List.drop_succ_cons, List.drop_zero]
  replace kp := GD.has kp
  replace ksg := GD.has ksg
  replace HN := HN.gro ((Gro.refl _).drew.trans GD)
  replace GG := GG.drew.tg GD
  clear GD
  refine s_val 57 rfl rfl (.pointer (some ⟨sg, i * 64 + k, none⟩)) (bat _ _ rfl sg (n * 64) (n * 64) (i * 64 + k) rfl rfl (by omega) _) ?_
  refine nr ?_; intro U h; simp only [z0, z1] at h; subst h
  refine s_store rfl rfl 5 _ _ rfl sg (i * 64 + k) rfl (.int .u8 ((l.getD k 0 : Nat) : Int)) rfl 5 _ ksg #[.int .u8 (((l.getD k 0) : Nat) : Int)] rfl si5 (by rw [bv_size]; simp only [List.length_set]; rw [wrk_len H.len hi (Nat.le_of_lt hk) hl, H.len]; simp only [List.size_toArray, List.length_cons, List.length_nil]; omega) (one1 _) _ (bv_set ((wr L (i * 64) ((padS l).take k)).set (i * 64 + k) 0) (i * 64 + k) (l.getD k 0) (by simp only [List.length_set]; rw [wrk_len H.len hi (Nat.le_of_lt hk) hl, H.len]; omega)) ?_
  intro w3 St
  replace kp := St.has (by omega) kp
  replace HN := HN.gros ((GroS.refl [p, sg] _).st St (.inr (by simp)))
  replace GG := GG.st St (.inr (by simp))
  replace ksg := St.new
  clear St
  refine wpList_nil ?_
  refine blk_n ?_
  refine then_n ?_
  refine wp_region_lit ?_
  refine s_val 30 rfl rfl (.int .i64 ((k : Nat) : Int)) (rfl) ?_
  refine nr ?_; intro U h; simp only [z0, z1] at h; subst h
  refine s_val 31 rfl rfl (.int .i64 ((k + 1 : Nat) : Int)) (run_add64 _ _ _ rfl ((k : Nat) : Int) 1 _ rfl rfl (by omega) (by omega) (by omega) _) ?_
  refine nr ?_; intro U h; simp only [z0, z1] at h; subst h
  refine s_val 7 rfl rfl (.int .i64 ((k + 1 : Nat) : Int)) (rfl) ?_
  refine nr ?_; intro U h; simp only [z0, z1] at h; subst h
  refine wpList_nil ?_
  refine then_n ?_
  rw [List.set_set, wr_setv (padS_at hkl) (by rw [padS_len hl]; omega) (by rw [padS_len hl]; exact sec_fit H.len hi)] at ksg
  exact ⟨_, (by omega : 64 - (k + 1) < 64 - k), k + 1, .int .i64 ((k : Nat) : Int), .bool true, .int .i64 ((k : Nat) : Int), .int .i64 ((k + 1 : Nat) : Int), .pointer (some ⟨p, 0, none⟩), .pointer (some ⟨p, 0, none⟩), .pointer (some ⟨p, 0, none⟩), .slice (some ⟨sg, 0, none⟩) (n * 64) (n * 64), .int .i64 ((i : Nat) : Int), .int .i64 ((i * 64 : Nat) : Int), .int .i64 ((k : Nat) : Int), .int .i64 ((i * 64 + k : Nat) : Int), .pointer (some ⟨sg, i * 64 + k, none⟩), .int .i64 ((k : Nat) : Int), .slice ao l.length cap, .int .i64 ((l.length : Nat) : Int), .bool true, .pointer (some ⟨p, 0, none⟩), .pointer (some ⟨p, 0, none⟩), .pointer (some ⟨p, 0, none⟩), .slice (some ⟨sg, 0, none⟩) (n * 64) (n * 64), .int .i64 ((i : Nat) : Int), .int .i64 ((i * 64 : Nat) : Int), .int .i64 ((k : Nat) : Int), .int .i64 ((i * 64 + k : Nat) : Int), .slice ao l.length cap, .int .i64 ((k : Nat) : Int), .pointer (some (ad.add k)), .int .u8 ((l.getD k 0 : Nat) : Int), .pointer (some ⟨sg, i * 64 + k, none⟩), rfl, rfl, hk, GG, kp, ksg, HN⟩
end Go.Proofs.Ytaejjmoocnpdaaa
