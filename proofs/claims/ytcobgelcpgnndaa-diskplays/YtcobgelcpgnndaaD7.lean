/- A disk of any bytes (DiskOf). -/
import Derived.Test.YtcobgelcpgnndaaD6
namespace Go.Proofs.Ytcobgelcpgnndaa
open Go.RowKit

def inc8 (x : Nat) : Nat := (x + 1) % 256
theorem inc8_le (x : Nat) : ((inc8 x : Nat) : Int) ≤ IntKind.u8.max := by
  rw [max_u8]
  have : inc8 x < 256 := Nat.mod_lt _ (by decide)
  omega
theorem run_inc8 {P : Program} {o : Oper} {A : Act} (x y : Operand) (t2 : TypeId) (ho : o.op = .binOp .add 5 x y t2) (n : Nat) (hx : A.eval x = .int .u8 (n : Int)) (hy : A.eval y = .int .u8 1) (w : World) : (execOp A.eval o).run P w = .ok (.value (.int .u8 ((inc8 n : Nat) : Int))) w := by
  refine run_binop .add 5 x y t2 ho _ _ _ hx hy (by simp [eqGuard]) ?_
  have h : IntKind.u8.wrap ((n : Int) + 1) = ((inc8 n : Nat) : Int) := by
    simp [IntKind.wrap, IntKind.bits, IntKind.signed, inc8]
  simp [go_sem, h]
theorem run_lens {P : Program} {o : Oper} {A : Act} {t : TypeId} (hu : P.underlying t = some .string) (x : Operand) (ho : o.op = .call { callee := .builtin .len, args := #[x], argTypes := #[t] }) (l : List Nat) (hx : A.eval x = .string (bas l)) (w : World) : (execOp A.eval o).run P w = .ok (.value (.int .i64 (l.length : Int))) w := by
  have hr := run_underlying hu w
  have hz : (bas l).size = l.length := by simp [bas, ByteArray.size]
  unfold execOp
  simp [ho, resolve, invoke, builtin, hx, Builtin.len_, hr, goInt, hz]
section
variable {w w' : World} {e : TypeId} {k : IntKind} {B : Nat} {ao : Option Addr} {cap : Nat} {l : List Nat}
theorem OB.blk (h : OB w e k B ao cap l) {j : Nat} (hj : j < l.length) : ∃ g cur, ao = some ⟨g, 0, none⟩ ∧ B ≤ g ∧ w.heap[g]? = some (.cells cur e (0, 0)) ∧ l.length ≤ cap ∧ cap ≤ maxLen ∧ cur.size = cap ∧ cur.toList.take l.length = l.map fun r : Nat => Value.int k (r : Int) := by
  rcases h.own.2 with ⟨h1, h2⟩ | ⟨g, c, cur, h1, hB, h2, h3, h4, h5, h6⟩
  · omega
  · injection h1 with e1 e2 e3
    subst e1 e3
    exact ⟨g, cur, rfl, hB, h2, h3, h4, by omega, by rwa [Nat.mul_one] at h6⟩
theorem OB.cellv (h : OB w e k B ao cap l) {g j : Nat} (hg : ao = some ⟨g, 0, none⟩) (hj : j < l.length) : w.cell? ⟨g, j, none⟩ = some (.int k (l.getD j 0 : Int)) := by
  have := h.nc.cell _ hg j hj
  rwa [add_at, Nat.zero_add] at this
theorem OB.put (h : OB w e k B ao cap l) {g j : Nat} {cur : Array Value} (hg : ao = some ⟨g, 0, none⟩) (hc : w.heap[g]? = some (.cells cur e (0, 0))) (hj : j < l.length) (y : Nat) (hy : (y : Int) ≤ k.max) (St : Stored w w' g (.cells (splice cur j #[.int k (y : Int)]) e (0, 0))) : OB w' e k B ao cap (l.set j y) := by
  subst hg
  obtain ⟨g2, cur2, h1, hB, h2, h3, h4, h5, h6⟩ := h.blk hj
  cases h1
  rw [hc] at h2
  cases h2
  refine OB.made St.new hB (by rw [List.length_set]; exact h3) h4 ?_ ?_ (fun x hx => ?_)
  · rw [splice_one _ _ _ (by omega)]
    simpa using h5
  · rw [splice_one _ _ _ (by omega), List.length_set, Array.toList_setIfInBounds, List.take_set, h6, List.map_set]
  · rcases List.mem_or_eq_of_mem_set hx with hx | hx
    · exact h.wf x hx
    · exact hx ▸ hy
end
theorem DK.st {w w' : World} {p sg n : Nat} {L : List Nat} {pw dn : Int} {g : Nat} {x : Obj} (h : DK w p sg n L pw dn) (S : Stored w w' g x) (h1 : g ≠ p) (h2 : g ≠ sg) : DK w' p sg n L pw dn := ⟨S.has (Ne.symm h1) h.box, S.has (Ne.symm h2) h.sec, h.len, h.le, h.byte, h.ne⟩
theorem RK.st {w w' : World} {p sg n : Nat} {L : List Nat} {pw dn : Int} {g : Nat} {x : Obj} (h : RK w p sg n L pw dn) (S : Stored w w' g x) (h1 : g ≠ p) (h2 : g ≠ sg) : RK w' p sg n L pw dn := ⟨S.has (Ne.symm h1) h.box, S.has (Ne.symm h2) h.sec, h.len, h.le, h.byte, h.ne⟩
theorem bytes_len (w : World) (p sg n : Nat) (L : List Nat) (pw dn : Int) (H : DK w p sg n L pw dn) : Calls Try.prog 18 #[.pointer (some ⟨p, 0, none⟩)] w fun e w' => ∃ g, e = .returned (.slice (some ⟨g, 0, none⟩) L.length L.length) ∧ Gro w w' ∧ w.heap.size ≤ g ∧ w'.heap[g]? = some (.cells (bv L) 5 (0, 0)) := by
  rw [H.len]
  exact bytes_any w p sg n L pw dn H
theorem ob_all {w : World} {g B : Nat} {L : List Nat} (hg : w.heap[g]? = some (.cells (bv L) 5 (0, 0))) (hB : B ≤ g) (hL : ∀ x ∈ L, x < 256) (hm : L.length ≤ maxLen) : OB w 5 .u8 B (some ⟨g, 0, none⟩) L.length L :=
  OB.made hg hB (Nat.le_refl _) hm (bv_size L) (by rw [bv, List.take_of_length_le (by simp)]) (fun x hx => by have := hL x hx; rw [max_u8]; omega)
set_option maxRecDepth 100000 in
set_option maxHeartbeats 4000000 in
theorem diskOf_odd (w : World) (ao : Option Addr) (cap : Nat) (l : List Nat) (HN : NC w .u8 ao cap l) (hl : l.length ≤ 140737488355000) (h : l.length % 64 ≠ 0) : Calls Try.prog 4 #[.slice ao l.length cap] w fun e w' => e = .returned (.bool true) ∧ Gro w w' := by
  refine s_enter Try.func4 rfl Try.ntmps4 [.slice ao l.length cap] [.slice ao l.length cap, undef, undef, undef, undef, undef, undef, undef, undef, undef, undef, undef, undef, undef, undef, undef, undef, undef, undef, undef, undef, undef, undef, undef, undef, undef, undef, undef, undef, undef, undef, undef, undef, undef, undef, undef, undef, undef, undef, undef, undef, undef, undef, undef, undef, undef, undef, undef, undef, undef, undef, undef, undef, undef, undef, undef, undef, undef, undef, undef, undef, undef, undef, undef, undef, undef, undef, undef, undef, undef, undef, undef, undef, undef, undef, undef, undef, undef, undef, undef, undef, undef, undef, undef, undef, undef, undef, undef, undef, undef, undef, undef, undef, undef, undef, undef, undef, undef] rfl ?_
  have GG := Gro.refl w
  have HL : Shut (∀ ad, ao = some ad → 0 < l.length → ad.block < w.heap.size) := ⟨HN.lt⟩
  refine wp_seq ?_
  refine wp_region_lit ?_
  refine s_val 2 rfl rfl (.bool false) (rfl) ?_
  refine nr ?_; intro U h; simp only [z0, z1] at h; subst h
  refine wpList_nil ?_
  refine then_n ?_
  refine wp_seq ?_
  refine wp_region_lit ?_
  refine s_val 10 rfl rfl (.slice ao l.length cap) (rfl) ?_
  refine nr ?_; intro U h; simp only [z0, z1] at h; subst h
  refine s_val 11 rfl rfl (.string (bas l)) (run_text_op bT 9 Try.underlying9 _ rfl rfl HN) ?_
  refine nr ?_; intro U h; simp only [z0, z1] at h; subst h
  refine s_val 3 rfl rfl (.string (bas l)) (rfl) ?_
  refine nr ?_; intro U h; simp only [z0, z1] at h; subst h
  refine wpList_nil ?_
  refine then_n ?_
  refine wp_seq ?_
  refine wp_region_lit ?_
  refine s_bsl 12 rfl rfl 28 0 _ rfl [] rfl #[] 5 (by kernel_rfl) ?_
  intro w1 g G eg kg
  have bg := size_base GG eg
  replace HN := HN.gro G
  replace GG := GG.trans G
  clear G eg
  refine nr ?_; intro U h; simp only [z0, z1] at h; subst h
  refine s_val 13 rfl rfl (.slice ao l.length cap) (rfl) ?_
  refine nr ?_; intro U h; simp only [z0, z1] at h; subst h
  have HO : OB _ 5 .u8 g (some ⟨g, 0, none⟩) 0 [] := OB.made kg (Nat.le_refl _) (Nat.le_refl _) (Nat.zero_le _) rfl rfl (fun x hx => by cases hx)
  refine s_app bT 14 rfl rfl _ _ rfl rfl HO (l' := l) rfl (HN) (by simp only [List.length_nil]; omega) (by decide) (Nat.le_of_lt (lt_of_heap kg)) ?_
  intro ao2 cap2 w2 HO2 BB
  rw [List.nil_append] at HO2
  simp only [List.nil_append]
  clear HO
  have HO := HO2.mono bg
  clear HO2
  replace HN := HN.below BB (fun ad ha h0 => by have := HL.out ad ha h0; omega)
  replace GG := below_gro GG BB bg
  clear kg BB
  refine nr ?_; intro U h; simp only [z0, z1] at h; subst h
  refine s_val 0 rfl rfl (.slice ao2 l.length cap2) (rfl) ?_
  refine nr ?_; intro U h; simp only [z0] at h; subst h
  refine wpList_nil ?_
  refine then_n ?_
  refine wp_seq ?_
  refine wp_region_lit ?_
  refine s_val 16 rfl rfl (.slice ao2 l.length cap2) (rfl) ?_
  refine nr ?_; intro U h; simp only [z0, z1] at h; subst h
  refine s_callv 17 rfl rfl _ 19 Try.call19 rfl rfl _ rfl [.slice ao2 l.length cap2] rfl (of_odd _ ao2 cap2 l (by omega) h) ?_
  intro w3 G
  replace HN := HN.gro G
  replace GG := GG.trans G
  clear G
  refine nr ?_; intro U h; simp only [z0, z1] at h; subst h
  refine s_val 15 rfl rfl (.tuple #[.pointer none, .int .i64 1]) (rfl) ?_
  refine nr ?_; intro U h; simp only [z0, z1] at h; subst h
  refine s_val 18 rfl rfl (.pointer none) (rfl) ?_
  refine nr ?_; intro U h; simp only [z0, z1] at h; subst h
  refine s_val 19 rfl rfl (.int .i64 1) (rfl) ?_
  refine nr ?_; intro U h; simp only [z0, z1] at h; subst h
  refine s_val 4 rfl rfl (.pointer none) (rfl) ?_
  refine nr ?_; intro U h; simp only [z0, z1] at h; subst h
  refine s_val 5 rfl rfl (.int .i64 1) (rfl) ?_
  refine nr ?_; intro U h; simp only [z0, z1] at h; subst h
  refine wpList_nil ?_
  refine then_n ?_
  refine wp_seq ?_
  refine wp_seq ?_
  refine wp_region_opq ?_
  intro OPS hY
  have y4 := hY 4 24 rfl
  clear hY
  refine s_val 20 rfl rfl (.slice ao2 l.length cap2) (rfl) ?_
  refine nr ?_; intro U h; simp only [z0, z1] at h; subst h
  refine s_val 21 rfl rfl (.int .i64 ((l.length : Nat) : Int)) (run_len Try.underlying28 _ rfl _ _ _ rfl _) ?_
  refine nr ?_; intro U h; simp only [z0, z1] at h; subst h
  refine s_val 22 rfl rfl (.int .i64 ((l.length % 64 : Nat) : Int)) (run_rem64 _ _ _ rfl ((l.length : Nat) : Int) 64 _ rfl rfl (by decide) (tmodN _ 64) (by omega) (by omega) _) ?_
  refine nr ?_; intro U h; simp only [z0, z1] at h; subst h
  refine s_val 23 rfl rfl (.bool true) (run_neq_k 3 .i64 _ _ _ rfl Try.underlying3 ((l.length % 64 : Nat) : Int) 0 rfl rfl true (by first | exact decide_eq_true (by omega) | exact decide_eq_false (by omega)) _) ?_
  refine nr ?_; intro U h; simp only [z0, z1] at h; subst h
  refine s_val 24 rfl rfl (.bool true) (rfl) ?_
  refine nr ?_; intro U h; simp only [z0, z1] at h; subst h
  refine s_skipY 25 rfl rfl y4 rfl ?_
  refine nr ?_; intro U h; simp only [z0, z1] at h; subst h
  refine s_skipY 26 rfl rfl y4 rfl ?_
  refine nr ?_; intro U h; simp only [z0, z1] at h; subst h
  refine s_skipY 27 rfl rfl y4 rfl ?_
  refine nr ?_; intro U h; simp only [z0, z1] at h; subst h
  refine s_val 28 rfl rfl (.bool true) (rfl) ?_
  refine nr ?_; intro U h; simp only [z0, z1] at h; subst h
  refine wpList_nil ?_
  refine then_n ?_
  refine wp_cond_true rfl ?_
  refine wp_seq ?_
  refine wp_region_opq ?_
  intro OPS hY
  have y1 := hY 1 30 rfl
  have y5 := hY 5 34 rfl
  clear hY
  refine s_callv 29 rfl rfl _ 10 Try.call10 rfl rfl _ rfl [] rfl (fixed_true _) ?_
  intro w4 G
  replace HN := HN.gro G
  replace GG := GG.trans G
  clear G
  refine nr ?_; intro U h; simp only [z0, z1] at h; subst h
  refine s_val 30 rfl rfl (.bool true) (rfl) ?_
  refine nr ?_; intro U h; simp only [z0, z1] at h; subst h
  refine s_gvalY 31 rfl rfl y1 rfl (.pointer none) (rfl) ?_
  refine nr ?_; intro U h; simp only [z0, z1] at h; subst h
  refine s_gvalY 32 rfl rfl y1 rfl (.bool true) (run_eqnn 23 _ _ _ rfl rfl rfl Try.underlying23 _) ?_
  refine nr ?_; intro U h; simp only [z0, z1] at h; subst h
  refine s_val 33 rfl rfl (.bool true) (rfl) ?_
  refine nr ?_; intro U h; simp only [z0, z1] at h; subst h
  refine s_val 34 rfl rfl (.bool true) (rfl) ?_
  refine nr ?_; intro U h; simp only [z0, z1] at h; subst h
  refine s_gvalY 35 rfl rfl y5 rfl (.int .i64 1) (rfl) ?_
  refine nr ?_; intro U h; simp only [z0, z1] at h; subst h
  refine s_gvalY 36 rfl rfl y5 rfl (.bool true) (run_eq_k 31 .i64 _ _ _ rfl Try.underlying31 _ _ rfl rfl true rfl _) ?_
  refine nr ?_; intro U h; simp only [z0, z1] at h; subst h
  refine s_val 37 rfl rfl (.bool true) (rfl) ?_
  refine nr ?_; intro U h; simp only [z0, z1] at h; subst h
  refine s_val 2 rfl rfl (.bool true) (rfl) ?_
  refine nr ?_; intro U h; simp only [z0, z1] at h; subst h
  refine wpList_nil ?_
  refine then_n ?_
  refine wp_ret ?_
  refine then_r ?_
  refine bodyPost_ret (results_tmp Try.results4 _ _ _) rfl ?_
  exact ⟨rfl, GG⟩
set_option maxRecDepth 100000 in
set_option maxHeartbeats 4000000 in
theorem diskOf_big (w : World) (ao : Option Addr) (cap : Nat) (l : List Nat) (HN : NC w .u8 ao cap l) (hl : l.length ≤ 140737488355000) (h : l.length % 64 = 0) (h2 : 4096 < l.length / 64) : Calls Try.prog 4 #[.slice ao l.length cap] w fun e w' => e = .returned (.bool true) ∧ Gro w w' := by
  refine s_enter Try.func4 rfl Try.ntmps4 [.slice ao l.length cap] [.slice ao l.length cap, undef, undef, undef, undef, undef, undef, undef, undef, undef, undef, undef, undef, undef, undef, undef, undef, undef, undef, undef, undef, undef, undef, undef, undef, undef, undef, undef, undef, undef, undef, undef, undef, undef, undef, undef, undef, undef, undef, undef, undef, undef, undef, undef, undef, undef, undef, undef, undef, undef, undef, undef, undef, undef, undef, undef, undef, undef, undef, undef, undef, undef, undef, undef, undef, undef, undef, undef, undef, undef, undef, undef, undef, undef, undef, undef, undef, undef, undef, undef, undef, undef, undef, undef, undef, undef, undef, undef, undef, undef, undef, undef, undef, undef, undef, undef, undef, undef] rfl ?_
  have GG := Gro.refl w
  have HL : Shut (∀ ad, ao = some ad → 0 < l.length → ad.block < w.heap.size) := ⟨HN.lt⟩
  refine wp_seq ?_
  refine wp_region_lit ?_
  refine s_val 2 rfl rfl (.bool false) (rfl) ?_
  refine nr ?_; intro U h; simp only [z0, z1] at h; subst h
  refine wpList_nil ?_
  refine then_n ?_
  refine wp_seq ?_
  refine wp_region_lit ?_
  refine s_val 10 rfl rfl (.slice ao l.length cap) (rfl) ?_
  refine nr ?_; intro U h; simp only [z0, z1] at h; subst h
  refine s_val 11 rfl rfl (.string (bas l)) (run_text_op bT 9 Try.underlying9 _ rfl rfl HN) ?_
  refine nr ?_; intro U h; simp only [z0, z1] at h; subst h
  refine s_val 3 rfl rfl (.string (bas l)) (rfl) ?_
  refine nr ?_; intro U h; simp only [z0, z1] at h; subst h
  refine wpList_nil ?_
  refine then_n ?_
  refine wp_seq ?_
  refine wp_region_lit ?_
  refine s_bsl 12 rfl rfl 28 0 _ rfl [] rfl #[] 5 (by kernel_rfl) ?_
  intro w1 g G eg kg
  have bg := size_base GG eg
  replace HN := HN.gro G
  replace GG := GG.trans G
  clear G eg
  refine nr ?_; intro U h; simp only [z0, z1] at h; subst h
  refine s_val 13 rfl rfl (.slice ao l.length cap) (rfl) ?_
  refine nr ?_; intro U h; simp only [z0, z1] at h; subst h
  have HO : OB _ 5 .u8 g (some ⟨g, 0, none⟩) 0 [] := OB.made kg (Nat.le_refl _) (Nat.le_refl _) (Nat.zero_le _) rfl rfl (fun x hx => by cases hx)
  refine s_app bT 14 rfl rfl _ _ rfl rfl HO (l' := l) rfl (HN) (by simp only [List.length_nil]; omega) (by decide) (Nat.le_of_lt (lt_of_heap kg)) ?_
  intro ao2 cap2 w2 HO2 BB
  rw [List.nil_append] at HO2
  simp only [List.nil_append]
  clear HO
  have HO := HO2.mono bg
  clear HO2
  replace HN := HN.below BB (fun ad ha h0 => by have := HL.out ad ha h0; omega)
  replace GG := below_gro GG BB bg
  clear kg BB
  refine nr ?_; intro U h; simp only [z0, z1] at h; subst h
  refine s_val 0 rfl rfl (.slice ao2 l.length cap2) (rfl) ?_
  refine nr ?_; intro U h; simp only [z0] at h; subst h
  refine wpList_nil ?_
  refine then_n ?_
  refine wp_seq ?_
  refine wp_region_lit ?_
  refine s_val 16 rfl rfl (.slice ao2 l.length cap2) (rfl) ?_
  refine nr ?_; intro U h; simp only [z0, z1] at h; subst h
  refine s_callv 17 rfl rfl _ 19 Try.call19 rfl rfl _ rfl [.slice ao2 l.length cap2] rfl (of_big _ ao2 cap2 l (by omega) h h2) ?_
  intro w3 G
  replace HN := HN.gro G
  replace GG := GG.trans G
  clear G
  refine nr ?_; intro U h; simp only [z0, z1] at h; subst h
  refine s_val 15 rfl rfl (.tuple #[.pointer none, .int .i64 1]) (rfl) ?_
  refine nr ?_; intro U h; simp only [z0, z1] at h; subst h
  refine s_val 18 rfl rfl (.pointer none) (rfl) ?_
  refine nr ?_; intro U h; simp only [z0, z1] at h; subst h
  refine s_val 19 rfl rfl (.int .i64 1) (rfl) ?_
  refine nr ?_; intro U h; simp only [z0, z1] at h; subst h
  refine s_val 4 rfl rfl (.pointer none) (rfl) ?_
  refine nr ?_; intro U h; simp only [z0, z1] at h; subst h
  refine s_val 5 rfl rfl (.int .i64 1) (rfl) ?_
  refine nr ?_; intro U h; simp only [z0, z1] at h; subst h
  refine wpList_nil ?_
  refine then_n ?_
  refine wp_seq ?_
  refine wp_seq ?_
  refine wp_region_opq ?_
  intro OPS hY
  have y4 := hY 4 24 rfl
  clear hY
  refine s_val 20 rfl rfl (.slice ao2 l.length cap2) (rfl) ?_
  refine nr ?_; intro U h; simp only [z0, z1] at h; subst h
  refine s_val 21 rfl rfl (.int .i64 ((l.length : Nat) : Int)) (run_len Try.underlying28 _ rfl _ _ _ rfl _) ?_
  refine nr ?_; intro U h; simp only [z0, z1] at h; subst h
  refine s_val 22 rfl rfl (.int .i64 ((l.length % 64 : Nat) : Int)) (run_rem64 _ _ _ rfl ((l.length : Nat) : Int) 64 _ rfl rfl (by decide) (tmodN _ 64) (by omega) (by omega) _) ?_
  refine nr ?_; intro U h; simp only [z0, z1] at h; subst h
  refine s_val 23 rfl rfl (.bool false) (run_neq_k 3 .i64 _ _ _ rfl Try.underlying3 ((l.length % 64 : Nat) : Int) 0 rfl rfl false (by first | exact decide_eq_true (by omega) | exact decide_eq_false (by omega)) _) ?_
  refine nr ?_; intro U h; simp only [z0, z1] at h; subst h
  refine s_val 24 rfl rfl (.bool false) (rfl) ?_
  refine nr ?_; intro U h; simp only [z0, z1] at h; subst h
  refine s_gvalY 25 rfl rfl y4 rfl (.slice ao2 l.length cap2) (rfl) ?_
  refine nr ?_; intro U h; simp only [z0, z1] at h; subst h
  refine s_gvalY 26 rfl rfl y4 rfl (.int .i64 ((l.length : Nat) : Int)) (run_len Try.underlying28 _ rfl _ _ _ rfl _) ?_
  refine nr ?_; intro U h; simp only [z0, z1] at h; subst h
  refine s_gvalY 27 rfl rfl y4 rfl (.bool true) (run_gtrT 3 _ _ _ rfl ((l.length : Nat) : Int) 262144 rfl rfl true (by first | exact decide_eq_true (by omega) | exact decide_eq_false (by omega)) _) ?_
  refine nr ?_; intro U h; simp only [z0, z1] at h; subst h
  refine s_val 28 rfl rfl (.bool true) (rfl) ?_
  refine nr ?_; intro U h; simp only [z0, z1] at h; subst h
  refine wpList_nil ?_
  refine then_n ?_
  refine wp_cond_true rfl ?_
  refine wp_seq ?_
  refine wp_region_opq ?_
  intro OPS hY
  have y1 := hY 1 30 rfl
  have y5 := hY 5 34 rfl
  clear hY
  refine s_callv 29 rfl rfl _ 10 Try.call10 rfl rfl _ rfl [] rfl (fixed_true _) ?_
  intro w4 G
  replace HN := HN.gro G
  replace GG := GG.trans G
  clear G
  refine nr ?_; intro U h; simp only [z0, z1] at h; subst h
  refine s_val 30 rfl rfl (.bool true) (rfl) ?_
  refine nr ?_; intro U h; simp only [z0, z1] at h; subst h
  refine s_gvalY 31 rfl rfl y1 rfl (.pointer none) (rfl) ?_
  refine nr ?_; intro U h; simp only [z0, z1] at h; subst h
  refine s_gvalY 32 rfl rfl y1 rfl (.bool true) (run_eqnn 23 _ _ _ rfl rfl rfl Try.underlying23 _) ?_
  refine nr ?_; intro U h; simp only [z0, z1] at h; subst h
  refine s_val 33 rfl rfl (.bool true) (rfl) ?_
  refine nr ?_; intro U h; simp only [z0, z1] at h; subst h
  refine s_val 34 rfl rfl (.bool true) (rfl) ?_
  refine nr ?_; intro U h; simp only [z0, z1] at h; subst h
  refine s_gvalY 35 rfl rfl y5 rfl (.int .i64 1) (rfl) ?_
  refine nr ?_; intro U h; simp only [z0, z1] at h; subst h
  refine s_gvalY 36 rfl rfl y5 rfl (.bool true) (run_eq_k 31 .i64 _ _ _ rfl Try.underlying31 _ _ rfl rfl true rfl _) ?_
  refine nr ?_; intro U h; simp only [z0, z1] at h; subst h
  refine s_val 37 rfl rfl (.bool true) (rfl) ?_
  refine nr ?_; intro U h; simp only [z0, z1] at h; subst h
  refine s_val 2 rfl rfl (.bool true) (rfl) ?_
  refine nr ?_; intro U h; simp only [z0, z1] at h; subst h
  refine wpList_nil ?_
  refine then_n ?_
  refine wp_ret ?_
  refine then_r ?_
  refine bodyPost_ret (results_tmp Try.results4 _ _ _) rfl ?_
  exact ⟨rfl, GG⟩
set_option maxRecDepth 100000 in
set_option maxHeartbeats 4000000 in
theorem diskOf_ok (w : World) (ao : Option Addr) (cap : Nat) (l : List Nat) (HN : NC w .u8 ao cap l) (hl : l.length ≤ 140737488355000) (n : Nat) (hln : l.length = n * 64) (hn : n ≤ 4096) : Calls Try.prog 4 #[.slice ao l.length cap] w fun e w' => e = .returned (.bool true) ∧ Gro w w' := by
  refine s_enter Try.func4 rfl Try.ntmps4 [.slice ao l.length cap] [.slice ao l.length cap, undef, undef, undef, undef, undef, undef, undef, undef, undef, undef, undef, undef, undef, undef, undef, undef, undef, undef, undef, undef, undef, undef, undef, undef, undef, undef, undef, undef, undef, undef, undef, undef, undef, undef, undef, undef, undef, undef, undef, undef, undef, undef, undef, undef, undef, undef, undef, undef, undef, undef, undef, undef, undef, undef, undef, undef, undef, undef, undef, undef, undef, undef, undef, undef, undef, undef, undef, undef, undef, undef, undef, undef, undef, undef, undef, undef, undef, undef, undef, undef, undef, undef, undef, undef, undef, undef, undef, undef, undef, undef, undef, undef, undef, undef, undef, undef, undef] rfl ?_
  have GG := Gro.refl w
  have HL : Shut (∀ ad, ao = some ad → 0 < l.length → ad.block < w.heap.size) := ⟨HN.lt⟩
  refine wp_seq ?_
  refine wp_region_lit ?_
  refine s_val 2 rfl rfl (.bool false) (rfl) ?_
  refine nr ?_; intro U h; simp only [z0, z1] at h; subst h
  refine wpList_nil ?_
  refine then_n ?_
  refine wp_seq ?_
  refine wp_region_lit ?_
  refine s_val 10 rfl rfl (.slice ao l.length cap) (rfl) ?_
  refine nr ?_; intro U h; simp only [z0, z1] at h; subst h
  refine s_val 11 rfl rfl (.string (bas l)) (run_text_op bT 9 Try.underlying9 _ rfl rfl HN) ?_
  refine nr ?_; intro U h; simp only [z0, z1] at h; subst h
  refine s_val 3 rfl rfl (.string (bas l)) (rfl) ?_
  refine nr ?_; intro U h; simp only [z0, z1] at h; subst h
  refine wpList_nil ?_
  refine then_n ?_
  refine wp_seq ?_
  refine wp_region_lit ?_
  refine s_bsl 12 rfl rfl 28 0 _ rfl [] rfl #[] 5 (by kernel_rfl) ?_
  intro w1 g G eg kg
  have bg := size_base GG eg
  replace HN := HN.gro G
  replace GG := GG.trans G
  clear G eg
  refine nr ?_; intro U h; simp only [z0, z1] at h; subst h
  refine s_val 13 rfl rfl (.slice ao l.length cap) (rfl) ?_
  refine nr ?_; intro U h; simp only [z0, z1] at h; subst h
  have HO : OB _ 5 .u8 g (some ⟨g, 0, none⟩) 0 [] := OB.made kg (Nat.le_refl _) (Nat.le_refl _) (Nat.zero_le _) rfl rfl (fun x hx => by cases hx)
  refine s_app bT 14 rfl rfl _ _ rfl rfl HO (l' := l) rfl (HN) (by simp only [List.length_nil]; omega) (by decide) (Nat.le_of_lt (lt_of_heap kg)) ?_
  intro ao2 cap2 w2 HO2 BB
  rw [List.nil_append] at HO2
  simp only [List.nil_append]
  clear HO
  have HO := HO2.mono bg
  clear HO2
  replace HN := HN.below BB (fun ad ha h0 => by have := HL.out ad ha h0; omega)
  replace GG := below_gro GG BB bg
  clear kg BB
  refine nr ?_; intro U h; simp only [z0, z1] at h; subst h
  refine s_val 0 rfl rfl (.slice ao2 l.length cap2) (rfl) ?_
  refine nr ?_; intro U h; simp only [z0] at h; subst h
  refine wpList_nil ?_
  refine then_n ?_
  refine wp_seq ?_
  refine wp_region_lit ?_
  refine s_val 16 rfl rfl (.slice ao2 l.length cap2) (rfl) ?_
  refine nr ?_; intro U h; simp only [z0, z1] at h; subst h
  have HLT := HO.ge
  refine s_callx 17 rfl rfl _ 19 Try.call19 rfl rfl _ rfl [.slice ao2 l.length cap2] rfl (of_ok _ ao2 cap2 l HO.nc n hln hn) (fun _ _ ⟨_, _, he, _⟩ => ⟨_, he⟩) ?_
  rintro v w3 ⟨p, sg, he, G, bp, bsg, HD⟩
  cases he
  have HA : ∀ ad, ao2 = some ad → ad.block ≠ p ∧ ad.block ≠ sg := fun ad ha => by have := HLT ad ha; omega
  clear HLT
  have bp := Nat.le_trans GG.size bp
  have bsg := Nat.le_trans GG.size bsg
  replace HN := HN.gro G
  replace HO := HO.gro G
  replace GG := GG.trans G
  clear G
  refine nr ?_; intro U h; simp only [z0, z1] at h; subst h
  refine s_val 15 rfl rfl (.tuple #[.pointer (some ⟨p, 0, none⟩), .int .i64 0]) (rfl) ?_
  refine nr ?_; intro U h; simp only [z0, z1] at h; subst h
  refine s_val 18 rfl rfl (.pointer (some ⟨p, 0, none⟩)) (rfl) ?_
  refine nr ?_; intro U h; simp only [z0, z1] at h; subst h
  refine s_val 19 rfl rfl (.int .i64 0) (rfl) ?_
  refine nr ?_; intro U h; simp only [z0, z1] at h; subst h
  refine s_val 4 rfl rfl (.pointer (some ⟨p, 0, none⟩)) (rfl) ?_
  refine nr ?_; intro U h; simp only [z0, z1] at h; subst h
  refine s_val 5 rfl rfl (.int .i64 0) (rfl) ?_
  refine nr ?_; intro U h; simp only [z0, z1] at h; subst h
  refine wpList_nil ?_
  refine then_n ?_
  refine wp_seq ?_
  refine wp_seq ?_
  refine wp_region_opq ?_
  intro OPS hY
  have y4 := hY 4 24 rfl
  clear hY
  refine s_val 20 rfl rfl (.slice ao2 l.length cap2) (rfl) ?_
  refine nr ?_; intro U h; simp only [z0, z1] at h; subst h
  refine s_val 21 rfl rfl (.int .i64 ((l.length : Nat) : Int)) (run_len Try.underlying28 _ rfl _ _ _ rfl _) ?_
  refine nr ?_; intro U h; simp only [z0, z1] at h; subst h
  refine s_val 22 rfl rfl (.int .i64 ((l.length % 64 : Nat) : Int)) (run_rem64 _ _ _ rfl ((l.length : Nat) : Int) 64 _ rfl rfl (by decide) (tmodN _ 64) (by omega) (by omega) _) ?_
  refine nr ?_; intro U h; simp only [z0, z1] at h; subst h
  refine s_val 23 rfl rfl (.bool false) (run_neq_k 3 .i64 _ _ _ rfl Try.underlying3 ((l.length % 64 : Nat) : Int) 0 rfl rfl false (by first | exact decide_eq_true (by omega) | exact decide_eq_false (by omega)) _) ?_
  refine nr ?_; intro U h; simp only [z0, z1] at h; subst h
  refine s_val 24 rfl rfl (.bool false) (rfl) ?_
  refine nr ?_; intro U h; simp only [z0, z1] at h; subst h
  refine s_gvalY 25 rfl rfl y4 rfl (.slice ao2 l.length cap2) (rfl) ?_
  refine nr ?_; intro U h; simp only [z0, z1] at h; subst h
  refine s_gvalY 26 rfl rfl y4 rfl (.int .i64 ((l.length : Nat) : Int)) (run_len Try.underlying28 _ rfl _ _ _ rfl _) ?_
  refine nr ?_; intro U h; simp only [z0, z1] at h; subst h
  refine s_gvalY 27 rfl rfl y4 rfl (.bool false) (run_gtrT 3 _ _ _ rfl ((l.length : Nat) : Int) 262144 rfl rfl false (by first | exact decide_eq_true (by omega) | exact decide_eq_false (by omega)) _) ?_
  refine nr ?_; intro U h; simp only [z0, z1] at h; subst h
  refine s_val 28 rfl rfl (.bool false) (rfl) ?_
  refine nr ?_; intro U h; simp only [z0, z1] at h; subst h
  refine wpList_nil ?_
  refine then_n ?_
  refine wp_cond_false rfl ?_
  refine wp_skip ?_
  refine then_n ?_
  refine wp_seq ?_
  refine wp_seq ?_
  refine wp_region_opq ?_
  intro OPS hY
  have y2 := hY 2 40 rfl
  clear hY
  refine s_val 38 rfl rfl (.pointer (some ⟨p, 0, none⟩)) (rfl) ?_
  refine nr ?_; intro U h; simp only [z0, z1] at h; subst h
  refine s_val 39 rfl rfl (.bool false) (run_eqnp 23 _ _ _ rfl _ rfl rfl Try.underlying23 _) ?_
  refine nr ?_; intro U h; simp only [z0, z1] at h; subst h
  refine s_val 40 rfl rfl (.bool false) (rfl) ?_
  refine nr ?_; intro U h; simp only [z0, z1] at h; subst h
  refine s_gvalY 41 rfl rfl y2 rfl (.int .i64 0) (rfl) ?_
  refine nr ?_; intro U h; simp only [z0, z1] at h; subst h
  refine s_gvalY 42 rfl rfl y2 rfl (.bool false) (run_neq_k 31 .i64 _ _ _ rfl Try.underlying31 _ _ rfl rfl false rfl _) ?_
  refine nr ?_; intro U h; simp only [z0, z1] at h; subst h
  refine s_val 43 rfl rfl (.bool false) (rfl) ?_
  refine nr ?_; intro U h; simp only [z0, z1] at h; subst h
  refine wpList_nil ?_
  refine then_n ?_
  refine wp_cond_false rfl ?_
  refine wp_skip ?_
  refine then_n ?_
  refine wp_seq ?_
  refine wp_seq ?_
  refine wp_region_lit ?_
  refine s_val 44 rfl rfl (.slice ao2 l.length cap2) (rfl) ?_
  refine nr ?_; intro U h; simp only [z0, z1] at h; subst h
  refine s_val 45 rfl rfl (.int .i64 ((l.length : Nat) : Int)) (run_len Try.underlying28 _ rfl _ _ _ rfl _) ?_
  refine nr ?_; intro U h; simp only [z0, z1] at h; subst h
  refine s_val 46 rfl rfl (.int .i64 0) (rfl) ?_
  refine nr ?_; intro U h; simp only [z0, z1] at h; subst h
  refine wpList_nil ?_
  refine then_n ?_
  refine wp_block ?_
  refine wp_loopN (fun m a wv => ∃ (j : Nat) (l1 : List Nat) (u6 u47 u48 u49 u50 u51 u52 u53 u54 u55 : Value), m = l.length - j ∧ a = ⟨[.slice ao2 l.length cap2, undef, .bool false, .string (bas l), .pointer (some ⟨p, 0, none⟩), .int .i64 0, u6, undef, undef, undef, .slice ao l.length cap, .string (bas l), .slice (some ⟨g, 0, none⟩) (([] : List Nat).length) 0, .slice ao l.length cap, .slice ao2 l.length cap2, .tuple #[.pointer (some ⟨p, 0, none⟩), .int .i64 0], .slice ao2 l.length cap2, .tuple #[.pointer (some ⟨p, 0, none⟩), .int .i64 0], .pointer (some ⟨p, 0, none⟩), .int .i64 0, .slice ao2 l.length cap2, .int .i64 ((l.length : Nat) : Int), .int .i64 ((l.length % 64 : Nat) : Int), .bool false, .bool false, .slice ao2 l.length cap2, .int .i64 ((l.length : Nat) : Int), .bool false, .bool false, undef, undef, undef, undef, undef, undef, undef, undef, undef, .pointer (some ⟨p, 0, none⟩), .bool false, .bool false, .int .i64 0, .bool false, .bool false, .slice ao2 l.length cap2, .int .i64 ((l.length : Nat) : Int), .int .i64 ((j : Nat) : Int), u47, u48, u49, u50, u51, u52, u53, u54, u55, undef, undef, undef, undef, undef, undef, undef, undef, undef, undef, undef, undef, undef, undef, undef, undef, undef, undef, undef, undef, undef, undef, undef, undef, undef, undef, undef, undef, undef, undef, undef, undef, undef, undef, undef, undef, undef, undef, undef, undef, undef, undef].toArray, []⟩ ∧ j ≤ l.length ∧ l1.length = l.length ∧ Gro w wv ∧ OB wv 5 .u8 w.heap.size ao2 cap2 l1 ∧ NC wv .u8 ao cap l ∧ DK wv p sg n l (-1) 0) ?_ _ ⟨0, _, undef, undef, undef, undef, undef, undef, undef, undef, undef, undef, rfl, rfl, Nat.zero_le _, rfl, GG, HO, HN, HD⟩
  clear GG HN HO HD
  rintro m a wv ⟨j, l1, u6, u47, u48, u49, u50, u51, u52, u53, u54, u55, rfl, rfl, hj, hl1, GG, HO, HN, HD⟩
  refine wp_seq ?_
  refine wp_region_lit ?_
  obtain ⟨p1, hp1⟩ : ∃ p, decide (((j : Nat) : Int) < ((l.length : Nat) : Int)) = p := ⟨_, rfl⟩
  refine s_val 47 rfl rfl (.bool p1) (run_lssT 3 _ _ _ rfl ((j : Nat) : Int) ((l.length : Nat) : Int) rfl rfl p1 hp1 _) ?_
  refine nr ?_; intro U h; simp only [z0, z1] at h; subst h
  cases p1
  · refine wpList_nil ?_
    refine then_n ?_
    refine wp_seq ?_
    refine wp_cond_false rfl ?_
    refine wp_exit ?_
    refine then_x ?_
    refine then_x ?_
    refine blk_x ?_
    refine then_n ?_
    refine wp_seq ?_
    refine wp_region_lit ?_
    refine s_val 56 rfl rfl (.pointer (some ⟨p, 0, none⟩)) (rfl) ?_
    refine nr ?_; intro U h; simp only [z0, z1] at h; subst h
    clear HO HA
    have hlp := lt_of_heap HD.box
    have hls := lt_of_heap HD.sec
    refine s_callx 57 rfl rfl _ 18 Try.call18 rfl rfl _ rfl [.pointer (some ⟨p, 0, none⟩)] rfl (bytes_len _ p sg n l (-1) 0 HD) (fun _ _ ⟨_, he, _⟩ => ⟨_, he⟩) ?_
    rintro v w4 ⟨g2, he, G, bg2, k2⟩
    cases he
    have HA2 : ∀ ad, some (⟨g2, 0, none⟩ : Addr) = some ad → ad.block ≠ p ∧ ad.block ≠ sg := fun ad ha => by cases ha; exact ⟨(by show g2 ≠ p; omega), (by show g2 ≠ sg; omega)⟩
    have bg2 := Nat.le_trans GG.size bg2
    replace HN := HN.gro G
    replace HD := HD.gro G
    replace GG := GG.trans G
    clear G
    have HO2 := ob_all k2 bg2 HN.lt256 (by simp only [maxLen]; omega)
    clear k2
    refine nr ?_; intro U h; simp only [z0, z1] at h; subst h
    refine s_val 7 rfl rfl (.slice (some ⟨g2, 0, none⟩) l.length l.length) (rfl) ?_
    refine nr ?_; intro U h; simp only [z0, z1] at h; subst h
    refine wpList_nil ?_
    refine then_n ?_
    refine wp_seq ?_
    refine wp_region_lit ?_
    refine s_val 58 rfl rfl (.slice (some ⟨g2, 0, none⟩) l.length l.length) (rfl) ?_
    refine nr ?_; intro U h; simp only [z0, z1] at h; subst h
    refine s_val 59 rfl rfl (.string (bas l)) (run_text_op bT 9 Try.underlying9 _ rfl rfl HO2.nc) ?_
    refine nr ?_; intro U h; simp only [z0, z1] at h; subst h
    refine s_val 60 rfl rfl (.string (bas l)) (rfl) ?_
    refine nr ?_; intro U h; simp only [z0, z1] at h; subst h
    refine s_val 61 rfl rfl (.bool true) (run_eqs_op _ _ _ rfl _ _ rfl rfl true (decide_eq_true rfl) _) ?_
    refine nr ?_; intro U h; simp only [z0, z1] at h; subst h
    refine s_val 8 rfl rfl (.bool true) (rfl) ?_
    refine nr ?_; intro U h; simp only [z0, z1] at h; subst h
    refine wpList_nil ?_
    refine then_n ?_
    refine wp_seq ?_
    refine wp_seq ?_
    refine wp_region_lit ?_
    refine s_val 62 rfl rfl (.slice (some ⟨g2, 0, none⟩) l.length l.length) (rfl) ?_
    refine nr ?_; intro U h; simp only [z0, z1] at h; subst h
    refine s_val 63 rfl rfl (.int .i64 ((l.length : Nat) : Int)) (run_len Try.underlying28 _ rfl _ _ _ rfl _) ?_
    refine nr ?_; intro U h; simp only [z0, z1] at h; subst h
    refine s_val 64 rfl rfl (.int .i64 0) (rfl) ?_
    refine nr ?_; intro U h; simp only [z0, z1] at h; subst h
    refine wpList_nil ?_
    refine then_n ?_
    refine wp_block ?_
    refine wp_loopN (fun m a wv => ∃ (j2 : Nat) (l2 : List Nat) (u9 u65 u66 u67 u68 u69 u70 u71 u72 u73 : Value), m = l.length - j2 ∧ a = ⟨[.slice ao2 l.length cap2, undef, .bool false, .string (bas l), .pointer (some ⟨p, 0, none⟩), .int .i64 0, u6, .slice (some ⟨g2, 0, none⟩) l.length l.length, .bool true, u9, .slice ao l.length cap, .string (bas l), .slice (some ⟨g, 0, none⟩) (([] : List Nat).length) 0, .slice ao l.length cap, .slice ao2 l.length cap2, .tuple #[.pointer (some ⟨p, 0, none⟩), .int .i64 0], .slice ao2 l.length cap2, .tuple #[.pointer (some ⟨p, 0, none⟩), .int .i64 0], .pointer (some ⟨p, 0, none⟩), .int .i64 0, .slice ao2 l.length cap2, .int .i64 ((l.length : Nat) : Int), .int .i64 ((l.length % 64 : Nat) : Int), .bool false, .bool false, .slice ao2 l.length cap2, .int .i64 ((l.length : Nat) : Int), .bool false, .bool false, undef, undef, undef, undef, undef, undef, undef, undef, undef, .pointer (some ⟨p, 0, none⟩), .bool false, .bool false, .int .i64 0, .bool false, .bool false, .slice ao2 l.length cap2, .int .i64 ((l.length : Nat) : Int), .int .i64 ((j : Nat) : Int), .bool false, u48, u49, u50, u51, u52, u53, u54, u55, .pointer (some ⟨p, 0, none⟩), .slice (some ⟨g2, 0, none⟩) l.length l.length, .slice (some ⟨g2, 0, none⟩) l.length l.length, .string (bas l), .string (bas l), .bool true, .slice (some ⟨g2, 0, none⟩) l.length l.length, .int .i64 ((l.length : Nat) : Int), .int .i64 ((j2 : Nat) : Int), u65, u66, u67, u68, u69, u70, u71, u72, u73, undef, undef, undef, undef, undef, undef, undef, undef, undef, undef, undef, undef, undef, undef, undef, undef, undef, undef, undef, undef, undef, undef, undef, undef].toArray, []⟩ ∧ j2 ≤ l.length ∧ l2.length = l.length ∧ Gro w wv ∧ OB wv 5 .u8 w.heap.size (some ⟨g2, 0, none⟩) l.length l2 ∧ NC wv .u8 ao cap l ∧ DK wv p sg n l (-1) 0) ?_ _ ⟨0, _, undef, undef, undef, undef, undef, undef, undef, undef, undef, undef, rfl, rfl, Nat.zero_le _, rfl, GG, HO2, HN, HD⟩
    clear GG HN HD HO2
    rintro m a wv ⟨j2, l2, u9, u65, u66, u67, u68, u69, u70, u71, u72, u73, rfl, rfl, hj, hl1, GG, HO2, HN, HD⟩
    refine wp_seq ?_
    refine wp_region_lit ?_
    obtain ⟨p2, hp2⟩ : ∃ p, decide (((j2 : Nat) : Int) < ((l.length : Nat) : Int)) = p := ⟨_, rfl⟩
    refine s_val 65 rfl rfl (.bool p2) (run_lssT 3 _ _ _ rfl ((j2 : Nat) : Int) ((l.length : Nat) : Int) rfl rfl p2 hp2 _) ?_
    refine nr ?_; intro U h; simp only [z0, z1] at h; subst h
    cases p2
    · refine wpList_nil ?_
      refine then_n ?_
      refine wp_seq ?_
      refine wp_cond_false rfl ?_
      refine wp_exit ?_
      refine then_x ?_
      refine then_x ?_
      refine blk_x ?_
      refine then_n ?_
      refine wp_seq ?_
      refine wp_region_opq ?_
      intro OPS hY
      have y1 := hY 1 75 rfl
      have y4 := hY 4 78 rfl
      have y12 := hY 12 86 rfl
      have y17 := hY 17 91 rfl
      clear hY
      refine s_callv 74 rfl rfl _ 10 Try.call10 rfl rfl _ rfl [] rfl (fixed_true _) ?_
      intro w5 G
      replace HN := HN.gro G
      replace HD := HD.gro G
      replace HO2 := HO2.gro G
      replace GG := GG.trans G
      clear G
      refine nr ?_; intro U h; simp only [z0, z1] at h; subst h
      refine s_val 75 rfl rfl (.bool true) (rfl) ?_
      refine nr ?_; intro U h; simp only [z0, z1] at h; subst h
      refine s_gvalY 76 rfl rfl y1 rfl (.bool true) (rfl) ?_
      refine nr ?_; intro U h; simp only [z0, z1] at h; subst h
      refine s_val 77 rfl rfl (.bool true) (rfl) ?_
      refine nr ?_; intro U h; simp only [z0, z1] at h; subst h
      refine s_val 78 rfl rfl (.bool true) (rfl) ?_
      refine nr ?_; intro U h; simp only [z0, z1] at h; subst h
      refine s_gvalY 79 rfl rfl y4 rfl (.pointer (some ⟨p, 0, none⟩)) (rfl) ?_
      refine nr ?_; intro U h; simp only [z0, z1] at h; subst h
      refine s_gcallvY 80 rfl rfl y4 rfl _ 17 Try.call17 rfl rfl _ rfl [.pointer (some ⟨p, 0, none⟩)] rfl (size_any _ p sg n l (-1) 0 HD) ?_
      intro w6 G
      replace HN := HN.gro G
      replace HD := HD.gro G
      replace HO2 := HO2.gro G
      replace GG := GG.trans G
      clear G
      refine nr ?_; intro U h; simp only [z0, z1] at h; subst h
      refine s_gvalY 81 rfl rfl y4 rfl (.string (bas l)) (rfl) ?_
      refine nr ?_; intro U h; simp only [z0, z1] at h; subst h
      refine s_gvalY 82 rfl rfl y4 rfl (.int .i64 ((l.length : Nat) : Int)) (run_lens Try.underlying9 _ rfl l rfl _) ?_
      refine nr ?_; intro U h; simp only [z0, z1] at h; subst h
      refine s_gvalY 83 rfl rfl y4 rfl (.int .i64 ((n : Nat) : Int)) (run_quo64 _ _ _ rfl ((l.length : Nat) : Int) 64 _ rfl rfl (by decide) ((tdivN _ 64).trans (by omega)) (by omega) (by omega) _) ?_
      refine nr ?_; intro U h; simp only [z0, z1] at h; subst h
      refine s_gvalY 84 rfl rfl y4 rfl (.bool true) (run_eq_k 3 .i64 _ _ _ rfl Try.underlying3 ((n : Nat) : Int) ((n : Nat) : Int) rfl rfl true (decide_eq_true rfl) _) ?_
      refine nr ?_; intro U h; simp only [z0, z1] at h; subst h
      refine s_val 85 rfl rfl (.bool true) (rfl) ?_
      refine nr ?_; intro U h; simp only [z0, z1] at h; subst h
      refine s_val 86 rfl rfl (.bool true) (rfl) ?_
      refine nr ?_; intro U h; simp only [z0, z1] at h; subst h
      refine s_gvalY 87 rfl rfl y12 rfl (.pointer (some ⟨p, 0, none⟩)) (rfl) ?_
      refine nr ?_; intro U h; simp only [z0, z1] at h; subst h
      refine s_gcallvY 88 rfl rfl y12 rfl _ 16 Try.call16 rfl rfl _ rfl [.pointer (some ⟨p, 0, none⟩)] rfl (done_any _ p sg n l (-1) 0 HD) ?_
      intro w7 G
      replace HN := HN.gro G
      replace HD := HD.gro G
      replace HO2 := HO2.gro G
      replace GG := GG.trans G
      clear G
      refine nr ?_; intro U h; simp only [z0, z1] at h; subst h
      refine s_gvalY 89 rfl rfl y12 rfl (.bool true) (run_eq_k 3 .i64 _ _ _ rfl Try.underlying3 _ _ rfl rfl true rfl _) ?_
      refine nr ?_; intro U h; simp only [z0, z1] at h; subst h
      refine s_val 90 rfl rfl (.bool true) (rfl) ?_
      refine nr ?_; intro U h; simp only [z0, z1] at h; subst h
      refine s_val 91 rfl rfl (.bool true) (rfl) ?_
      refine nr ?_; intro U h; simp only [z0, z1] at h; subst h
      refine s_gvalY 92 rfl rfl y17 rfl (.pointer (some ⟨p, 0, none⟩)) (rfl) ?_
      refine nr ?_; intro U h; simp only [z0, z1] at h; subst h
      refine s_gcallxY 93 rfl rfl y17 rfl _ 18 Try.call18 rfl rfl _ rfl [.pointer (some ⟨p, 0, none⟩)] rfl (bytes_len _ p sg n l (-1) 0 HD) (fun _ _ ⟨_, he, _⟩ => ⟨_, he⟩) ?_
      rintro v w8 ⟨g3, he, G, bg3, k3⟩
      cases he
      replace HN := HN.gro G
      replace HD := HD.gro G
      replace HO2 := HO2.gro G
      replace GG := GG.trans G
      clear G
      refine nr ?_; intro U h; simp only [z0, z1] at h; subst h
      refine s_gvalY 94 rfl rfl y17 rfl (.string (bas l)) (run_text_op bT 9 Try.underlying9 _ rfl rfl (nc_all k3 HN.lt256)) ?_
      refine nr ?_; intro U h; simp only [z0, z1] at h; subst h
      refine s_gvalY 95 rfl rfl y17 rfl (.string (bas l)) (rfl) ?_
      refine nr ?_; intro U h; simp only [z0, z1] at h; subst h
      refine s_gvalY 96 rfl rfl y17 rfl (.bool true) (run_eqs_op _ _ _ rfl _ _ rfl rfl true (decide_eq_true rfl) _) ?_
      refine nr ?_; intro U h; simp only [z0, z1] at h; subst h
      refine s_val 97 rfl rfl (.bool true) (rfl) ?_
      refine nr ?_; intro U h; simp only [z0, z1] at h; subst h
      refine s_val 2 rfl rfl (.bool true) (rfl) ?_
      refine nr ?_; intro U h; simp only [z0, z1] at h; subst h
      refine wpList_nil ?_
      refine then_n ?_
      refine wp_ret ?_
      refine bodyPost_ret (results_tmp Try.results4 _ _ _) rfl ?_
      exact ⟨rfl, GG⟩
    have hjn : j2 < l.length := by have := of_decide_eq_true hp2; omega
    refine wpList_nil ?_
    refine then_n ?_
    refine wp_seq ?_
    refine wp_cond_true rfl ?_
    refine wp_skip ?_
    refine then_n ?_
    refine wp_seq ?_
    refine wp_block ?_
    refine wp_seq ?_
    refine wp_region_lit ?_
    refine s_val 66 rfl rfl (.int .i64 ((j2 : Nat) : Int)) (rfl) ?_
    refine nr ?_; intro U h; simp only [z0, z1] at h; subst h
    refine s_val 9 rfl rfl (.int .i64 ((j2 : Nat) : Int)) (rfl) ?_
    refine nr ?_; intro U h; simp only [z0, z1] at h; subst h
    refine wpList_nil ?_
    refine then_n ?_
    refine wp_region_lit ?_
    refine s_val 67 rfl rfl (.slice (some ⟨g2, 0, none⟩) l.length l.length) (rfl) ?_
    refine nr ?_; intro U h; simp only [z0, z1] at h; subst h
    refine s_val 68 rfl rfl (.int .i64 ((j2 : Nat) : Int)) (rfl) ?_
    refine nr ?_; intro U h; simp only [z0, z1] at h; subst h
    obtain ⟨gi, cur, hgi, hBi, ki, hci, hmi, hsi, hti⟩ := HO2.blk (j := j2) (by omega)
    refine s_val 69 rfl rfl (.pointer (some ⟨gi, j2, none⟩)) (bat _ _ rfl gi l.length l.length j2 (by exact congrArg (fun a => Value.slice a l.length l.length) hgi) rfl (by omega) _) ?_
    refine nr ?_; intro U h; simp only [z0, z1] at h; subst h
    refine s_val 70 rfl rfl (.int .u8 ((l2.getD j2 0 : Nat) : Int)) (run_ld bT _ rfl ⟨gi, j2, none⟩ rfl _ _ (HO2.cellv hgi (by omega))) ?_
    refine nr ?_; intro U h; simp only [z0, z1] at h; subst h
    refine s_val 71 rfl rfl (.int .u8 ((inc8 (l2.getD j2 0) : Nat) : Int)) (run_inc8 _ _ _ rfl (l2.getD j2 0) rfl rfl _) ?_
    refine nr ?_; intro U h; simp only [z0, z1] at h; subst h
    refine s_val 72 rfl rfl (.pointer (some ⟨gi, j2, none⟩)) (bat _ _ rfl gi l.length l.length j2 (by exact congrArg (fun a => Value.slice a l.length l.length) hgi) rfl (by omega) _) ?_
    refine nr ?_; intro U h; simp only [z0, z1] at h; subst h
    refine s_store rfl rfl 5 _ _ rfl gi j2 rfl (.int .u8 ((inc8 (l2.getD j2 0) : Nat) : Int)) rfl 5 _ ki #[.int .u8 ((inc8 (l2.getD j2 0) : Nat) : Int)] rfl si5 (by simp only [List.size_toArray, List.length_cons, List.length_nil]; omega) (one1 _) _ rfl ?_
    intro w5 St
    have hap := HA2 _ hgi
    have hap1 := hap.1
    have hap2 := hap.2
    replace HN := GroS.nc (S := [gi]) ((GroS.refl [gi] _).st St (.inr (by simp))) HN (fun ad ha h0 => by have := HL.out ad ha h0; simp; omega)
    replace HD := HD.st St hap1 hap2
    replace HO2 := HO2.put hgi ki (by omega) (inc8 (l2.getD j2 0)) (inc8_le _) St
    replace GG := GG.store St hBi
    clear St hap hap1 hap2
    refine wpList_nil ?_
    refine blk_n ?_
    refine then_n ?_
    refine wp_region_lit ?_
    refine s_val 73 rfl rfl (.int .i64 ((j2 + 1 : Nat) : Int)) (run_add64 _ _ _ rfl ((j2 : Nat) : Int) 1 _ rfl rfl (by omega) (by omega) (by omega) _) ?_
    refine nr ?_; intro U h; simp only [z0, z1] at h; subst h
    refine s_val 64 rfl rfl (.int .i64 ((j2 + 1 : Nat) : Int)) (rfl) ?_
    refine nr ?_; intro U h; simp only [z0, z1] at h; subst h
    refine wpList_nil ?_
    refine then_n ?_
    exact ⟨_, (by omega : l.length - (j2 + 1) < l.length - j2), j2 + 1, _, .int .i64 ((j2 : Nat) : Int), .bool true, .int .i64 ((j2 : Nat) : Int), .slice (some ⟨g2, 0, none⟩) l.length l.length, .int .i64 ((j2 : Nat) : Int), .pointer (some ⟨gi, j2, none⟩), .int .u8 ((l2.getD j2 0 : Nat) : Int), .int .u8 ((inc8 (l2.getD j2 0) : Nat) : Int), .pointer (some ⟨gi, j2, none⟩), .int .i64 ((j2 + 1 : Nat) : Int), rfl, rfl, (by omega), (by rw [List.length_set]; exact hl1), GG, HO2, HN, HD⟩
  have hjn : j < l.length := by have := of_decide_eq_true hp1; omega
  refine wpList_nil ?_
  refine then_n ?_
  refine wp_seq ?_
  refine wp_cond_true rfl ?_
  refine wp_skip ?_
  refine then_n ?_
  refine wp_seq ?_
  refine wp_block ?_
  refine wp_seq ?_
  refine wp_region_lit ?_
  refine s_val 48 rfl rfl (.int .i64 ((j : Nat) : Int)) (rfl) ?_
  refine nr ?_; intro U h; simp only [z0, z1] at h; subst h
  refine s_val 6 rfl rfl (.int .i64 ((j : Nat) : Int)) (rfl) ?_
  refine nr ?_; intro U h; simp only [z0, z1] at h; subst h
  refine wpList_nil ?_
  refine then_n ?_
  refine wp_region_lit ?_
  refine s_val 49 rfl rfl (.slice ao2 l.length cap2) (rfl) ?_
  refine nr ?_; intro U h; simp only [z0, z1] at h; subst h
  refine s_val 50 rfl rfl (.int .i64 ((j : Nat) : Int)) (rfl) ?_
  refine nr ?_; intro U h; simp only [z0, z1] at h; subst h
  obtain ⟨gi, cur, hgi, hBi, ki, hci, hmi, hsi, hti⟩ := HO.blk (j := j) (by omega)
  refine s_val 51 rfl rfl (.pointer (some ⟨gi, j, none⟩)) (bat _ _ rfl gi l.length cap2 j (by exact congrArg (fun a => Value.slice a l.length cap2) hgi) rfl (by omega) _) ?_
  refine nr ?_; intro U h; simp only [z0, z1] at h; subst h
  refine s_val 52 rfl rfl (.int .u8 ((l1.getD j 0 : Nat) : Int)) (run_ld bT _ rfl ⟨gi, j, none⟩ rfl _ _ (HO.cellv hgi (by omega))) ?_
  refine nr ?_; intro U h; simp only [z0, z1] at h; subst h
  refine s_val 53 rfl rfl (.int .u8 ((inc8 (l1.getD j 0) : Nat) : Int)) (run_inc8 _ _ _ rfl (l1.getD j 0) rfl rfl _) ?_
  refine nr ?_; intro U h; simp only [z0, z1] at h; subst h
  refine s_val 54 rfl rfl (.pointer (some ⟨gi, j, none⟩)) (bat _ _ rfl gi l.length cap2 j (by exact congrArg (fun a => Value.slice a l.length cap2) hgi) rfl (by omega) _) ?_
  refine nr ?_; intro U h; simp only [z0, z1] at h; subst h
  refine s_store rfl rfl 5 _ _ rfl gi j rfl (.int .u8 ((inc8 (l1.getD j 0) : Nat) : Int)) rfl 5 _ ki #[.int .u8 ((inc8 (l1.getD j 0) : Nat) : Int)] rfl si5 (by simp only [List.size_toArray, List.length_cons, List.length_nil]; omega) (one1 _) _ rfl ?_
  intro w4 St
  have hap := HA _ hgi
  have hap1 := hap.1
  have hap2 := hap.2
  replace HN := GroS.nc (S := [gi]) ((GroS.refl [gi] _).st St (.inr (by simp))) HN (fun ad ha h0 => by have := HL.out ad ha h0; simp; omega)
  replace HD := HD.st St hap1 hap2
  replace HO := HO.put hgi ki (by omega) (inc8 (l1.getD j 0)) (inc8_le _) St
  replace GG := GG.store St hBi
  clear St hap hap1 hap2
  refine wpList_nil ?_
  refine blk_n ?_
  refine then_n ?_
  refine wp_region_lit ?_
  refine s_val 55 rfl rfl (.int .i64 ((j + 1 : Nat) : Int)) (run_add64 _ _ _ rfl ((j : Nat) : Int) 1 _ rfl rfl (by omega) (by omega) (by omega) _) ?_
  refine nr ?_; intro U h; simp only [z0, z1] at h; subst h
  refine s_val 46 rfl rfl (.int .i64 ((j + 1 : Nat) : Int)) (rfl) ?_
  refine nr ?_; intro U h; simp only [z0, z1] at h; subst h
  refine wpList_nil ?_
  refine then_n ?_
  exact ⟨_, (by omega : l.length - (j + 1) < l.length - j), j + 1, _, .int .i64 ((j : Nat) : Int), .bool true, .int .i64 ((j : Nat) : Int), .slice ao2 l.length cap2, .int .i64 ((j : Nat) : Int), .pointer (some ⟨gi, j, none⟩), .int .u8 ((l1.getD j 0 : Nat) : Int), .int .u8 ((inc8 (l1.getD j 0) : Nat) : Int), .pointer (some ⟨gi, j, none⟩), .int .i64 ((j + 1 : Nat) : Int), rfl, rfl, (by omega), (by rw [List.length_set]; exact hl1), GG, HO, HN, HD⟩
theorem diskOf_any (w : World) (ao : Option Addr) (cap : Nat) (l : List Nat) (HN : NC w .u8 ao cap l) (hl : l.length ≤ 140737488355000) : Calls Try.prog 4 #[.slice ao l.length cap] w fun e w' => e = .returned (.bool true) ∧ Gro w w' := by
  by_cases h : l.length % 64 = 0
  · by_cases h2 : 4096 < l.length / 64
    · exact diskOf_big w ao cap l HN hl h h2
    · exact diskOf_ok w ao cap l HN hl (l.length / 64) (by omega) (by omega)
  · exact diskOf_odd w ao cap l HN hl h
end Go.Proofs.Ytcobgelcpgnndaa
