/- Bytes, keys and versions: Clone, apart, Newer, Form, the record of a beginning. -/
import Derived.Test.YtgfnjekpafempaaGA1
import Derived.Test.YtgfnjekpafempaaGG5
namespace Go.Proofs.Ytgfnjekpafempaa
open Go.RowKit
theorem Gro.gro {a b c : World} (h : Gro a b) (k : Gro b c) : Gro a c := h.trans k
theorem Gro.ne {a b : World} {g : Nat} (h : Gro a b) (e : b.heap.size = g) : a.heap.size ≤ g := e ▸ h.size
theorem Gro.st {a b c : World} {g : Nat} {x : Obj} (h : Gro a b) (S : Stored b c g x) (hn : a.heap.size ≤ g) : Gro a c := h.store S hn
theorem Gro.neG {a b : World} {g : Nat} (h : Gro a b) (c : b.heap.size ≤ g) : a.heap.size ≤ g := Nat.le_trans h.size c
def NEo (ao : Option Addr) (g : Nat) : Prop := ∀ ad, ao = some ad → ad.block ≠ g
section
variable {w w' : World} {e : TypeId} {k : IntKind} {B g : Nat} {ao : Option Addr} {cap : Nat} {l : List Nat} {x : Obj}
theorem NC.ne (h : NC w k ao cap l) (e : w.heap.size = g) : NE ao l.length g := fun ad ha h0 => by
  have := h.lt ad ha h0
  omega
theorem NC.st (h : NC w k ao cap l) (S : Stored w w' g x) (hn : NE ao l.length g) : NC w' k ao cap l := GroS.nc S.gros h (fun ad ha h0 => by simpa using hn ad ha h0)
theorem NC.neG (h : NC w k ao cap l) (c : w.heap.size ≤ g) : NE ao l.length g := fun ad ha h0 => by
  have := h.lt ad ha h0
  omega
theorem OB.neG (h : OB w e k B ao cap l) (c : w.heap.size ≤ g) : NEo ao g := fun ad ha => by
  have := (h.ge ad ha).2
  omega
theorem OB.ne (h : OB w e k B ao cap l) (hs : w.heap.size = g) : NEo ao g := fun ad ha => by
  have := (h.ge ad ha).2
  omega
theorem OB.neB (h : OB w e k B ao cap l) (hg : g < B) : NEo ao g := fun ad ha => by
  have := (h.ge ad ha).1
  omega
theorem OB.st (h : OB w e k B ao cap l) (S : Stored w w' g x) (hn : NEo ao g) : OB w' e k B ao cap l := h.apart S hn
end
theorem top_256 : top = 256 ^ 16 := by decide
theorem bA_of {l : List Nat} {n : Nat} (h : l.length = 16) (hj : ∀ j, j < 16 → l.getD j 0 = byt n j) : bA l = idA n := by
  apply Array.ext
  · rw [bA_size, h, idA_size]
  · intro j h1 h2
    have h3 : j < l.length := by rw [bA_size] at h1; exact h1
    have e := hj j (by omega)
    rw [List.getD_eq_getElem?_getD, List.getElem?_eq_getElem h3, Option.getD_some] at e
    simp only [bA, idA, List.getElem_toArray, List.getElem_map, Array.getElem_ofFn, e]
theorem bA_id (n : Nat) : bA (beL 16 n) = idA n := bA_of (beL_len 16 n) fun j hj => (beL_get 16 n j hj).trans rfl
theorem bA_val {l : List Nat} (h : l.length = 16) (hb : ∀ x ∈ l, x < 256) : bA l = idA (valL l) := by rw [← bA_id, beL_valL 16 l h hb]
theorem byt_be (n j : Nat) (hj : j < 16) : byt n j = (beL 16 n).getD j 0 := by
  rw [beL_get 16 n j hj]
  rfl
theorem itA_key (x : IM) (j : Nat) (hj : j < 16) : (itA x)[0 + j]? = some (.int .u8 (byt x.key j : Int)) := by
  rw [Nat.zero_add, itA, List.getElem?_toArray, itL, List.getElem?_append_left (by rw [idA_len]; exact hj), Array.getElem?_toList, idA_get _ _ hj]
theorem itA_who (x : IM) (j : Nat) (hj : j < 16) : (itA x)[17 + j]? = some (.int .u8 (byt x.who j : Int)) := by
  rw [itA, List.getElem?_toArray, itL, List.getElem?_append_right (by rw [idA_len]; omega), idA_len, show 17 + j - 16 = j + 1 by omega, List.getElem?_cons_succ, List.getElem?_append_left (by rw [idA_len]; exact hj), Array.getElem?_toList, idA_get _ _ hj]
theorem nc_id {w : World} {g off n : Nat} {cs : Array Value} {t : TypeId} (hg : w.heap[g]? = some (.cells cs t (0, 0))) (hc : ∀ j, j < 16 → cs[off + j]? = some (.int .u8 (byt n j : Int))) : NC w .u8 (some ⟨g, off, none⟩) 16 (beL 16 n) :=
  ⟨by rw [beL_len]; exact Nat.le_refl _, fun h => by (cases h), fun ad ha j hj => by
    cases ha
    rw [beL_len] at hj
    rw [add_at, cell_of_row w g _ _ t _ hg, hc j hj, byt_be n j hj], fun x hx => by
    have := beL_lt 16 n x hx
    rw [max_u8]
    omega⟩
theorem run_arrO {o : Oper} {A : Act} (x : Operand) (ho : o.op = .slice 52 x none none none) (g off : Nat) (hx : A.eval x = .pointer (some ⟨g, off, none⟩)) (w : World) : (execOp A.eval o).run Try.prog w = .ok (.value (.slice (some ⟨g, off, none⟩) 16 16)) w := by
  have h : (Instr.sliceAt 52 (.pointer (some ⟨g, off, none⟩)) none none none).run Try.prog w = .ok (.slice (some ⟨g, off, none⟩) 16 16) w := by kernel_rfl
  unfold execOp
  simp only [ho, hx, Option.map_none, Sem.run_bind, h, Result.andThen_ok, Sem.run_pure]
theorem conv2U {o : Oper} {A : Act} (x : Operand) (ho : o.op = .convert 2 75 x) (z : Int) (hx : A.eval x = .int .i64 z) (n : Nat) (hz : z = (n : Int)) (hn : n < lim) (w : World) : (execOp A.eval o).run Try.prog w = .ok (.value (.int .u64 (n : Int))) w := by
  subst hz
  have h : IntKind.u64.wrap (n : Int) = (n : Int) := by
    unfold lim at hn
    simp [IntKind.wrap, IntKind.bits, IntKind.signed]
    omega
  unfold execOp
  simp only [ho, hx]
  simp [go_sem, h]
theorem convU2 {o : Oper} {A : Act} (x : Operand) (ho : o.op = .convert 75 2 x) (n : Nat) (hn : n < 9223372036854775808) (hx : A.eval x = .int .u64 (n : Int)) (w : World) : (execOp A.eval o).run Try.prog w = .ok (.value (.int .i64 (n : Int))) w := by
  have h : IntKind.i64.wrap (n : Int) = (n : Int) := by
    simp [IntKind.wrap, IntKind.bits, IntKind.signed]
    omega
  unfold execOp
  simp only [ho, hx]
  simp [go_sem, h]
/-- A row of bytes that a call made. -/
def BytP (w : World) (l : List Nat) (e : Ending) (w' : World) : Prop := ∃ ao cap, e = .returned (.slice ao l.length cap) ∧ Gro w w' ∧ OB w' 5 .u8 w.heap.size ao cap l
theorem AppP.byt {w : World} {l : List Nat} {e : Ending} {w' : World} (h : AppP w w.heap.size l e w') : BytP w l e w' := by
  obtain ⟨ao, cap, L, he, hL, ho, hb⟩ := h
  have := hL.out
  subst this
  exact ⟨ao, cap, he, hb, ho⟩
theorem BytP.to {w : World} {l m : List Nat} (h : l = m) {e : Ending} {w' : World} (H : BytP w l e w') : BytP w m e w' := h ▸ H
theorem nc_u64 {w : World} {g : Nat} {l : List Nat} {t : TypeId} (hg : w.heap[g]? = some (.cells (l.map fun n : Nat => Value.int .u64 (n : Int)).toArray t (0, 0))) (hl : ∀ x ∈ l, x < lim) : NC w .u64 (some ⟨g, 0, none⟩) l.length l :=
  ⟨Nat.le_refl _, fun h => by (cases h), fun ad ha j hj => by
    cases ha
    rw [add_at, cell_of_row w g _ _ t _ hg, Nat.zero_add]
    simp [List.getD_eq_getElem?_getD, hj], fun x hx => by
    have := hl x hx
    rw [max_u64]
    unfold lim at this
    omega⟩
theorem lc_row1 {w : World} {g : Nat} {ao : Option Addr} {cap : Nat} {l : List Nat} {t : TypeId} (hg : w.heap[g]? = some (.cells #[.slice ao l.length cap] t (0, 0))) (h : NC w .u8 ao cap l) : LC w (some ⟨g, 0, none⟩) 1 [l] := by
  have h1 := lc_of (w := w) (ao := some ⟨g, 0, none⟩) (cap := 1) (q := [⟨ao, cap, l⟩]) (xc_one hg rfl) (fun x hx => by rw [List.mem_singleton.1 hx]; exact h)
  exact h1
section
variable {ops : Array Oper} {rest : List Oper} {o : Oper} {T : List Value} {ds : List Deferred} {w : World} {Q : Exit → Act → World → Prop}
theorem s_none0 (dst : Nat) (hd : o.dst = some dst) (hgd : o.guard = none) (ho : o.op = .buildSlice 30 0 #[])
    (h : ∀ w' g, Gro w w' → w.heap.size = g → OB w' 5 .u8 g (some ⟨g, 0, none⟩) 0 [] → wpList Try.prog ops Q rest ⟨(T.set dst (.slice (some ⟨g, 0, none⟩) 0 0)).toArray, ds⟩ w') : wpList Try.prog ops Q (o :: rest) ⟨T.toArray, ds⟩ w :=
  wpList_none0 dst hd hgd ho fun w' g h1 h2 h3 => by rw [put_list]; exact h w' g h1 h2 h3
end
theorem putN1 (n : Nat) : putN [n] = numL n := by simp [putN]
theorem putN2 (n m : Nat) : putN [n, m] = numL n ++ numL m := by simp [putN]
theorem putT1 (l : List Nat) : putT [l] = textL l := by simp [putT]
theorem textL_len (l : List Nat) : (textL l).length ≤ l.length + 9 := by
  unfold textL
  rw [List.length_append]
  have := numL_le l.length
  omega
/-- What an item says. -/
def IM.it (x : IM) : It := ⟨x.key, x.n.toNat, x.who, x.val⟩
theorem form_eq (x : IM) : (((numL 2 ++ beL 16 x.key) ++ numL x.n.toNat) ++ beL 16 x.who) ++ textL x.val = formV x.it := by
  unfold formV IM.it
  simp only [List.append_assoc]
def cmpZ (a b : Int) : Int := if a < b then -1 else if b < a then 1 else 0
/-- The version of a is behind b's. -/
def nwV (a b : VM) : Bool := decide (b.n < a.n ∨ (a.n = b.n ∧ b.who < a.who))
def orZ (a b : Int) : Int := if a = 0 then b else a
theorem nw_or (a b : VM) : decide (0 < orZ (cmpZ a.n b.n) (cmpN a.who b.who)) = nwV a b := by
  unfold nwV
  rw [decide_eq_decide]
  unfold orZ cmpZ cmpN
  repeat' split
  all_goals omega
set_option maxRecDepth 100000 in
set_option maxHeartbeats 4000000 in
theorem clone_any (ao : Option Addr) (cap : Nat) (l : List Nat) (w : World) (HC : NC w .u8 ao cap l) (hb : l.length ≤ 140737488355000) : Calls Try.prog 70 #[.slice ao l.length cap] w (BytP w l) := by
  cases ao with
  | none =>
    have h1 := HC.bare rfl
    have h2 := HC.fit
    have h4 : l = [] := List.eq_nil_of_length_eq_zero (by omega)
    subst h1 h4
    refine s_enter Try.func70 rfl Try.ntmps70 [.slice none 0 0] [.slice none 0 0, undef, undef, undef, undef, undef, undef, undef] rfl ?_
    have GG := Gro.refl w
    refine wp_seq ?_
    refine wp_region_lit ?_
    refine s_val 2 rfl rfl (.slice none 0 0) (rfl) ?_
    refine nr ?_; intro U h; simp only [z0, z1] at h; subst h
    refine wpList_nil ?_
    refine then_n ?_
    refine wp_seq ?_
    refine wp_seq ?_
    refine wp_region_lit ?_
    refine s_val 3 rfl rfl (.slice none 0 0) (rfl) ?_
    refine nr ?_; intro U h; simp only [z0, z1] at h; subst h
    refine s_val 4 rfl rfl (.bool true) (run_binop .eql 30 _ _ _ rfl _ _ _ rfl rfl (by kernel_rfl) (by kernel_rfl)) ?_
    refine nr ?_; intro U h; simp only [z0, z1] at h; subst h
    refine wpList_nil ?_
    refine then_n ?_
    refine wp_cond_true rfl ?_
    refine wp_seq ?_
    refine wp_region_lit ?_
    refine s_val 2 rfl rfl (.slice none 0 0) (rfl) ?_
    refine nr ?_; intro U h; simp only [z0, z1] at h; subst h
    refine wpList_nil ?_
    refine then_n ?_
    refine wp_ret ?_
    refine then_r ?_
    refine bodyPost_ret (results_tmp Try.results70 _ _ _) rfl ?_
    exact ⟨none, 0, rfl, GG, OB.nil _ _ _ _⟩
  | some ad =>
    refine s_enter Try.func70 rfl Try.ntmps70 [.slice (some ad) l.length cap] [.slice (some ad) l.length cap, undef, undef, undef, undef, undef, undef, undef] rfl ?_
    have GG := Gro.refl w
    refine wp_seq ?_
    refine wp_region_lit ?_
    refine s_val 2 rfl rfl (.slice none 0 0) (rfl) ?_
    refine nr ?_; intro U h; simp only [z0, z1] at h; subst h
    refine wpList_nil ?_
    refine then_n ?_
    refine wp_seq ?_
    refine wp_seq ?_
    refine wp_region_lit ?_
    refine s_val 3 rfl rfl (.slice (some ad) l.length cap) (rfl) ?_
    refine nr ?_; intro U h; simp only [z0, z1] at h; subst h
    refine s_val 4 rfl rfl (.bool false) (run_binop .eql 30 _ _ _ rfl _ _ _ rfl rfl (by kernel_rfl) (by kernel_rfl)) ?_
    refine nr ?_; intro U h; simp only [z0, z1] at h; subst h
    refine wpList_nil ?_
    refine then_n ?_
    refine wp_cond_false rfl ?_
    refine wp_skip ?_
    refine then_n ?_
    refine wp_seq ?_
    refine wp_region_lit ?_
    refine s_none0 5 rfl rfl rfl ?_
    intro w1 q1 G eq1 HO
    have bq := size_base GG eq1
    replace HC := HC.gro G
    replace GG := GG.trans G
    clear G
    refine nr ?_; intro U h; simp only [z0, z1] at h; subst h
    refine s_val 6 rfl rfl (.slice (some ad) l.length cap) (rfl) ?_
    refine nr ?_; intro U h; simp only [z0, z1] at h; subst h
    refine s_app bT 7 rfl rfl _ _ rfl (l := []) rfl HO rfl HC (by simp only [List.length_nil]; omega) (by decide) (Nat.le_of_lt (HO.ge _ rfl).2) ?_
    intro ao2 cap2 w2 HO2 BB
    replace GG := below_gro GG BB bq
    rw [List.nil_append] at HO2 ⊢
    refine nr ?_; intro U h; simp only [z0, z1] at h; subst h
    refine s_val 2 rfl rfl (.slice ao2 l.length cap2) (rfl) ?_
    refine nr ?_; intro U h; simp only [z0, z1] at h; subst h
    refine wpList_nil ?_
    refine then_n ?_
    refine wp_ret ?_
    refine bodyPost_ret (results_tmp Try.results70 _ _ _) rfl ?_
    exact ⟨ao2, cap2, rfl, GG, HO2.mono bq⟩
set_option maxRecDepth 100000 in
set_option maxHeartbeats 4000000 in
theorem apart_any (x : IM) (w : World) (HX : NC w .u8 x.ao x.cap x.val) (hb : x.val.length ≤ 140737488355000) : Calls Try.prog 44 #[.agg (itA x)] w (fun e w' => ∃ ao cap, e = .returned (.agg (itA (x.re ao cap))) ∧ Gro w w' ∧ OB w' 5 .u8 w.heap.size ao cap x.val) := by
  refine s_enter Try.func44 rfl Try.ntmps44 [.agg (itA x)] [.agg (itA x), undef, undef, undef, undef, undef, undef, undef] rfl ?_
  have GG := Gro.refl w
  refine wp_seq ?_
  refine wp_region_lit ?_
  refine s_box 1 rfl rfl 56 _ rfl _ rfl (itA x) rfl ?_
  intro w1 g1 G eg1 kg1
  have bg1 := size_base GG eg1
  have dHXg1 := HX.ne eg1
  replace HX := HX.gro G
  replace GG := GG.trans G
  clear G
  clear eg1
  refine nr ?_; intro U h; simp only [z0, z1] at h; subst h
  refine s_alloc 2 rfl rfl 56 rfl _ zeroIt (itA zM) rfl ?_
  intro w2 g2 G eg2 kg2
  have bg2 := size_base GG eg2
  have dg1g2 := lt_new kg1 eg2
  have dHXg2 := HX.ne eg2
  replace kg1 := G.has kg1
  replace HX := HX.gro G
  replace GG := GG.trans G
  clear G
  clear eg2
  refine nr ?_; intro U h; simp only [z0, z1] at h; subst h
  refine wpList_nil ?_
  refine then_n ?_
  refine wp_seq ?_
  refine wp_region_lit ?_
  refine s_val 3 rfl rfl (.pointer (some ⟨g1, 33, none⟩)) (run_fld 56 _ 2 rfl g1 0 rfl 33 (by kernel_rfl)) ?_
  refine nr ?_; intro U h; simp only [z0, z1] at h; subst h
  refine s_val 4 rfl rfl (.slice x.ao x.val.length x.cap) (ldItr _ rfl g1 rfl (kg1)) ?_
  refine nr ?_; intro U h; simp only [z0, z1] at h; subst h
  refine s_callx 5 rfl rfl _ 70 Try.call70 rfl rfl _ rfl [.slice x.ao x.val.length x.cap] rfl (clone_any x.ao x.cap x.val _ HX hb) (by rintro _ _ ⟨_, _, he, _, _⟩; exact ⟨_, he⟩) ?_
  have lzg1 := lt_of_heap kg1
  have lzg2 := lt_of_heap kg2
  rintro v w3 ⟨ao1, cap1, he, G, HO1⟩
  cases he
  have dHO1g1 := HO1.neB lzg1
  have dHO1g2 := HO1.neB lzg2
  replace HO1 := HO1.mono GG.size
  replace kg1 := G.has kg1
  replace kg2 := G.has kg2
  replace HX := HX.gro G
  replace GG := GG.trans G
  clear G
  refine nr ?_; intro U h; simp only [z0, z1] at h; subst h
  refine s_val 6 rfl rfl (.pointer (some ⟨g1, 33, none⟩)) (run_fld 56 _ 2 rfl g1 0 rfl 33 (by kernel_rfl)) ?_
  refine nr ?_; intro U h; simp only [z0, z1] at h; subst h
  refine s_store rfl rfl 30 _ _ rfl g1 33 rfl (.slice ao1 x.val.length cap1) rfl 56 _ kg1 #[.slice ao1 x.val.length cap1] rfl siBy (by rw [itA_size]; exact Nat.le_refl _) (sl_one _ _ _) (itA (x.re ao1 cap1)) (spl_val x _ _) ?_
  intro w4 St
  replace kg2 := St.has (by omega) kg2
  replace HX := HX.st St dHXg1
  replace HO1 := HO1.st St dHO1g1
  replace GG := GG.store St bg1
  replace kg1 := St.new
  clear St
  refine wpList_nil ?_
  refine then_n ?_
  refine wp_seq ?_
  refine wp_region_lit ?_
  refine s_val 7 rfl rfl (.agg (itA (x.re ao1 cap1))) (ldIt0 _ rfl g1 rfl (kg1)) ?_
  refine nr ?_; intro U h; simp only [z0, z1] at h; subst h
  refine s_store rfl rfl 56 _ _ rfl g2 0 rfl (.agg (itA (x.re ao1 cap1))) rfl 56 _ kg2 (itA (x.re ao1 cap1)) rfl (siIt' _) (itA_fit _ _) (itA_one _) (itA (x.re ao1 cap1)) (splice_whole _ _ (itA_sz _ _)) ?_
  intro w5 St
  replace kg1 := St.has (by omega) kg1
  replace HX := HX.st St dHXg2
  replace HO1 := HO1.st St dHO1g2
  replace GG := GG.store St bg2
  replace kg2 := St.new
  clear St
  refine wpList_nil ?_
  refine then_n ?_
  refine wp_ret ?_
  refine bodyPost_ret (results_cell_row Try.results44 _ _ g2 56 _ (0, 0) _ rfl kg2 Try.underlying56 rfl (siIt' _)) rfl ?_
  exact ⟨_, _, rfl, GG, HO1⟩
set_option maxRecDepth 100000 in
set_option maxHeartbeats 4000000 in
theorem nan_any (x : Int) (w : World) : Calls Try.prog 74 #[.int .i64 x] w (fun e w' => e = .returned (.bool false) ∧ Gro w w') := by
  refine s_enter Try.func74 rfl Try.ntmps74 [.int .i64 x] [.int .i64 x, undef, undef, undef, undef, undef] rfl ?_
  have GG := Gro.refl w
  refine wp_seq ?_
  refine wp_region_lit ?_
  refine s_val 2 rfl rfl (.bool false) (rfl) ?_
  refine nr ?_; intro U h; simp only [z0, z1] at h; subst h
  refine wpList_nil ?_
  refine then_n ?_
  refine wp_seq ?_
  refine wp_region_lit ?_
  refine s_val 3 rfl rfl (.int .i64 x) (rfl) ?_
  refine nr ?_; intro U h; simp only [z0, z1] at h; subst h
  refine s_val 4 rfl rfl (.int .i64 x) (rfl) ?_
  refine nr ?_; intro U h; simp only [z0, z1] at h; subst h
  refine s_val 5 rfl rfl (.bool false) (run_neq_k 2 .i64 _ _ _ rfl Try.underlying2 x x rfl rfl false (decide_eq_true rfl) _) ?_
  refine nr ?_; intro U h; simp only [z0, z1] at h; subst h
  refine s_val 2 rfl rfl (.bool false) (rfl) ?_
  refine nr ?_; intro U h; simp only [z0, z1] at h; subst h
  refine wpList_nil ?_
  refine then_n ?_
  refine wp_ret ?_
  refine bodyPost_ret (results_tmp Try.results74 _ _ _) rfl ?_
  exact ⟨rfl, GG⟩
set_option maxRecDepth 100000 in
set_option maxHeartbeats 4000000 in
theorem cmp64_any (x y : Int) (w : World) : Calls Try.prog 52 #[.int .i64 x, .int .i64 y] w (fun e w' => e = .returned (.int .i64 (cmpZ x y)) ∧ Gro w w') := by
  refine s_enter Try.func52 rfl Try.ntmps52 [.int .i64 x, .int .i64 y] [.int .i64 x, .int .i64 y, undef, undef, undef, undef, undef, undef, undef, undef, undef, undef, undef, undef, undef, undef, undef, undef, undef, undef] rfl ?_
  have GG := Gro.refl w
  refine wp_seq ?_
  refine wp_region_lit ?_
  refine s_val 4 rfl rfl (.int .i64 0) (rfl) ?_
  refine nr ?_; intro U h; simp only [z0, z1] at h; subst h
  refine wpList_nil ?_
  refine then_n ?_
  refine wp_seq ?_
  refine wp_region_lit ?_
  refine s_val 7 rfl rfl (.int .i64 x) (rfl) ?_
  refine nr ?_; intro U h; simp only [z0, z1] at h; subst h
  refine s_callv 8 rfl rfl _ 74 Try.call74 rfl rfl _ rfl [.int .i64 x] rfl (nan_any x _) ?_
  intro w1 G
  replace GG := GG.trans G
  clear G
  refine nr ?_; intro U h; simp only [z0, z1] at h; subst h
  refine s_val 5 rfl rfl (.bool false) (rfl) ?_
  refine nr ?_; intro U h; simp only [z0, z1] at h; subst h
  refine wpList_nil ?_
  refine then_n ?_
  refine wp_seq ?_
  refine wp_region_lit ?_
  refine s_val 9 rfl rfl (.int .i64 y) (rfl) ?_
  refine nr ?_; intro U h; simp only [z0, z1] at h; subst h
  refine s_callv 10 rfl rfl _ 74 Try.call74 rfl rfl _ rfl [.int .i64 y] rfl (nan_any y _) ?_
  intro w2 G
  replace GG := GG.trans G
  clear G
  refine nr ?_; intro U h; simp only [z0, z1] at h; subst h
  refine s_val 6 rfl rfl (.bool false) (rfl) ?_
  refine nr ?_; intro U h; simp only [z0, z1] at h; subst h
  refine wpList_nil ?_
  refine then_n ?_
  refine wp_seq ?_
  refine wp_seq ?_
  refine wp_region_lit ?_
  refine s_val 11 rfl rfl (.bool false) (rfl) ?_
  refine nr ?_; intro U h; simp only [z0, z1] at h; subst h
  refine wpList_nil ?_
  refine then_n ?_
  refine wp_cond_false rfl ?_
  refine wp_skip ?_
  refine then_n ?_
  refine wp_seq ?_
  refine wp_seq ?_
  refine wp_region_lit ?_
  refine s_val 13 rfl rfl (.bool false) (rfl) ?_
  refine nr ?_; intro U h; simp only [z0, z1] at h; subst h
  refine wpList_nil ?_
  refine then_n ?_
  refine wp_cond_false rfl ?_
  refine wp_skip ?_
  refine then_n ?_
  refine wp_seq ?_
  refine wp_seq ?_
  cases h1 : decide (x < y)
  · refine wp_region_lit ?_
    refine s_val 14 rfl rfl (.int .i64 x) (rfl) ?_
    refine nr ?_; intro U h; simp only [z0, z1] at h; subst h
    refine s_val 15 rfl rfl (.int .i64 y) (rfl) ?_
    refine nr ?_; intro U h; simp only [z0, z1] at h; subst h
    refine s_val 16 rfl rfl (.bool false) (run_lssT 2 _ _ _ rfl x y rfl rfl false h1 _) ?_
    refine nr ?_; intro U h; simp only [z0, z1] at h; subst h
    refine wpList_nil ?_
    refine then_n ?_
    refine wp_cond_false rfl ?_
    refine wp_skip ?_
    refine then_n ?_
    refine wp_seq ?_
    refine wp_seq ?_
    cases h2 : decide (y < x)
    · refine wp_region_lit ?_
      refine s_val 17 rfl rfl (.int .i64 x) (rfl) ?_
      refine nr ?_; intro U h; simp only [z0, z1] at h; subst h
      refine s_val 18 rfl rfl (.int .i64 y) (rfl) ?_
      refine nr ?_; intro U h; simp only [z0, z1] at h; subst h
      refine s_val 19 rfl rfl (.bool false) (run_gtrT 2 _ _ _ rfl x y rfl rfl false h2 _) ?_
      refine nr ?_; intro U h; simp only [z0, z1] at h; subst h
      refine wpList_nil ?_
      refine then_n ?_
      refine wp_cond_false rfl ?_
      refine wp_skip ?_
      refine then_n ?_
      refine wp_seq ?_
      refine wp_region_lit ?_
      refine s_val 4 rfl rfl (.int .i64 0) (rfl) ?_
      refine nr ?_; intro U h; simp only [z0, z1] at h; subst h
      refine wpList_nil ?_
      refine then_n ?_
      refine wp_ret ?_
      refine bodyPost_ret (results_tmp Try.results52 _ _ _) rfl ?_
      have hc : cmpZ x y = 0 := by unfold cmpZ; rw [if_neg (of_decide_eq_false h1), if_neg (of_decide_eq_false h2)]
      rw [hc]
      exact ⟨rfl, GG⟩
    · refine wp_region_lit ?_
      refine s_val 17 rfl rfl (.int .i64 x) (rfl) ?_
      refine nr ?_; intro U h; simp only [z0, z1] at h; subst h
      refine s_val 18 rfl rfl (.int .i64 y) (rfl) ?_
      refine nr ?_; intro U h; simp only [z0, z1] at h; subst h
      refine s_val 19 rfl rfl (.bool true) (run_gtrT 2 _ _ _ rfl x y rfl rfl true h2 _) ?_
      refine nr ?_; intro U h; simp only [z0, z1] at h; subst h
      refine wpList_nil ?_
      refine then_n ?_
      refine wp_cond_true rfl ?_
      refine wp_seq ?_
      refine wp_region_lit ?_
      refine s_val 4 rfl rfl (.int .i64 1) (rfl) ?_
      refine nr ?_; intro U h; simp only [z0, z1] at h; subst h
      refine wpList_nil ?_
      refine then_n ?_
      refine wp_ret ?_
      refine then_r ?_
      refine bodyPost_ret (results_tmp Try.results52 _ _ _) rfl ?_
      have hc : cmpZ x y = 1 := by unfold cmpZ; rw [if_neg (of_decide_eq_false h1), if_pos (of_decide_eq_true h2)]
      rw [hc]
      exact ⟨rfl, GG⟩
  · refine wp_region_lit ?_
    refine s_val 14 rfl rfl (.int .i64 x) (rfl) ?_
    refine nr ?_; intro U h; simp only [z0, z1] at h; subst h
    refine s_val 15 rfl rfl (.int .i64 y) (rfl) ?_
    refine nr ?_; intro U h; simp only [z0, z1] at h; subst h
    refine s_val 16 rfl rfl (.bool true) (run_lssT 2 _ _ _ rfl x y rfl rfl true h1 _) ?_
    refine nr ?_; intro U h; simp only [z0, z1] at h; subst h
    refine wpList_nil ?_
    refine then_n ?_
    refine wp_cond_true rfl ?_
    refine wp_seq ?_
    refine wp_region_lit ?_
    refine s_val 4 rfl rfl (.int .i64 (-1)) (rfl) ?_
    refine nr ?_; intro U h; simp only [z0, z1] at h; subst h
    refine wpList_nil ?_
    refine then_n ?_
    refine wp_ret ?_
    refine then_r ?_
    refine bodyPost_ret (results_tmp Try.results52 _ _ _) rfl ?_
    have hc : cmpZ x y = -1 := by unfold cmpZ; rw [if_pos (of_decide_eq_true h1)]
    rw [hc]
    exact ⟨rfl, GG⟩
def kN : Kd Int := ⟨fun z => [.int .i64 z], 1, fun _ => True, 0, fun _ => rfl, fun z v hv => by rw [List.mem_singleton.1 hv]; rfl⟩
theorem rN : RowT Try.prog 60 3 kN.sz 8 (.int .i64 0) := ⟨Try.underlying60, info_of (by kernel_rfl), rfl, by decide⟩
theorem na3v (w : World) : (isAgg 3).run Try.prog w = .ok false w := by kernel_rfl
theorem run_ldKN {o : Oper} {A : Act} {w : World} {ao : Option Addr} {cap : Nat} {l : List Int} (h : RK kN w ao cap l) (x : Operand) (ho : o.op = .load 3 x) (j : Nat) (hx : A.eval x = .pointer (pK kN ao j 0)) (hj : j < l.length) : (execOp A.eval o).run Try.prog w = .ok (.value (.int .i64 (l.getD j 0))) w :=
  run_ldKc h 3 (na3v w) 0 (by decide) x ho j hx hj _ rfl
theorem bsN2 (a b : Int) (w : World) : (Instr.buildSlice 60 2 #[(0, .int .i64 a), (1, .int .i64 b)]).run Try.prog w = .ok (.slice (some ⟨w.heap.size, 0, none⟩) 2 2) (w.alloc (.cells ([a, b].flatMap kN.E).toArray 3)) := by kernel_rfl
set_option maxRecDepth 100000 in
set_option maxHeartbeats 4000000 in
theorem or_any (x y : Int) (w : World) (ao : Option Addr) (cap : Nat) (HR : RK kN w ao cap [x, y]) : Calls Try.prog 51 #[.slice ao 2 cap] w (fun e w' => e = .returned (.int .i64 (orZ x y)) ∧ Gro w w') := by
  refine s_enter Try.func51 rfl Try.ntmps51 [.slice ao 2 cap] [.slice ao 2 cap, undef, undef, undef, undef, undef, undef, undef, undef, undef, undef, undef, undef, undef, undef, undef, undef, undef] rfl ?_
  have GG := Gro.refl w
  refine wp_seq ?_
  refine wp_region_lit ?_
  refine s_val 2 rfl rfl (.int .i64 0) (rfl) ?_
  refine nr ?_; intro U h; simp only [z0, z1] at h; subst h
  refine wpList_nil ?_
  refine then_n ?_
  refine wp_seq ?_
  refine wp_region_lit ?_
  refine s_val 3 rfl rfl (.int .i64 0) (rfl) ?_
  refine nr ?_; intro U h; simp only [z0, z1] at h; subst h
  refine wpList_nil ?_
  refine then_n ?_
  refine wp_seq ?_
  refine wp_seq ?_
  refine wp_region_lit ?_
  refine s_val 6 rfl rfl (.slice ao 2 cap) (rfl) ?_
  refine nr ?_; intro U h; simp only [z0, z1] at h; subst h
  refine s_val 7 rfl rfl (.int .i64 ((2 : Nat) : Int)) (run_len Try.underlying60 _ rfl _ _ _ rfl _) ?_
  refine nr ?_; intro U h; simp only [z0, z1] at h; subst h
  refine s_val 8 rfl rfl (.int .i64 0) (rfl) ?_
  refine nr ?_; intro U h; simp only [z0, z1] at h; subst h
  refine wpList_nil ?_
  refine then_n ?_
  refine wp_block ?_
  refine wp_loopN (fun mz az wv => ∃ (i : Nat) (us1 : Nat → Value), mz = 2 - i ∧ az = ⟨[.slice ao 2 cap, undef, us1 0, .int .i64 0, undef, us1 1, .slice ao 2 cap, .int .i64 ((2 : Nat) : Int), .int .i64 ((i : Nat) : Int), us1 2, us1 3, us1 4, us1 5, us1 6, us1 7, us1 8, us1 9, undef].toArray, []⟩ ∧ Gro w wv ∧ RK kN wv ao cap [x, y] ∧ i ≤ 2 ∧ (∀ j, j < i → ([x, y] : List Int).getD j 0 = 0)) ?_ _ ⟨0, (fun kz => ([.int .i64 0, undef, undef, undef, undef, undef, undef, undef, undef, undef] : List Value).getD kz undef), rfl, rfl, GG, HR, Nat.zero_le _, fun _ h => absurd h (Nat.not_lt_zero _)⟩
  clear GG HR
  rintro mz az wv ⟨i, us1, rfl, rfl, GG, HR, hi, hz⟩
  refine wp_seq ?_
  cases h1 : decide (((i : Nat) : Int) < 2)
  · have hi2 : i = 2 := by have := of_decide_eq_false h1; omega
    have hx0 : x = 0 := hz 0 (by omega)
    have hy0 : y = 0 := hz 1 (by omega)
    refine wp_region_lit ?_
    refine s_val 9 rfl rfl (.bool false) (run_lssT 3 _ _ _ rfl ((i : Nat) : Int) ((2 : Nat) : Int) rfl rfl false h1 _) ?_
    refine nr ?_; intro U h; simp only [z0, z1] at h; subst h
    refine wpList_nil ?_
    refine then_n ?_
    refine wp_seq ?_
    refine wp_cond_false rfl ?_
    refine wp_exit ?_
    refine then_x ?_
    refine then_x ?_
    refine blk_x ?_
    refine then_n ?_
    refine wp_seq ?_
    refine wp_region_lit ?_
    refine s_val 17 rfl rfl (.int .i64 0) (rfl) ?_
    refine nr ?_; intro U h; simp only [z0, z1] at h; subst h
    refine s_val 2 rfl rfl (.int .i64 0) (rfl) ?_
    refine nr ?_; intro U h; simp only [z0, z1] at h; subst h
    refine wpList_nil ?_
    refine then_n ?_
    refine wp_ret ?_
    refine bodyPost_ret (results_tmp Try.results51 _ _ _) rfl ?_
    subst hx0 hy0
    exact ⟨rfl, GG⟩
  · have hlt : i < 2 := by have := of_decide_eq_true h1; omega
    refine wp_region_lit ?_
    refine s_val 9 rfl rfl (.bool true) (run_lssT 3 _ _ _ rfl ((i : Nat) : Int) ((2 : Nat) : Int) rfl rfl true h1 _) ?_
    refine nr ?_; intro U h; simp only [z0, z1] at h; subst h
    refine wpList_nil ?_
    refine then_n ?_
    refine wp_seq ?_
    refine wp_cond_true rfl ?_
    refine wp_skip ?_
    refine then_n ?_
    refine wp_seq ?_
    refine wp_block ?_
    refine wp_seq ?_
    refine wp_region_lit ?_
    refine s_val 10 rfl rfl (.pointer (pK kN ao i 0)) (run_ixK rN (HR) _ _ rfl rfl i rfl hlt) ?_
    refine nr ?_; intro U h; simp only [z0, z1] at h; subst h
    refine s_val 11 rfl rfl (.int .i64 ([x, y].getD i 0)) (run_ldKN (HR) _ rfl i rfl hlt) ?_
    refine nr ?_; intro U h; simp only [z0, z1] at h; subst h
    refine s_val 5 rfl rfl (.int .i64 ([x, y].getD i 0)) (rfl) ?_
    refine nr ?_; intro U h; simp only [z0, z1] at h; subst h
    refine wpList_nil ?_
    refine then_n ?_
    refine wp_seq ?_
    cases h2 : decide (([x, y] : List Int).getD i 0 = 0)
    · refine wp_region_lit ?_
      refine s_val 12 rfl rfl (.int .i64 ([x, y].getD i 0)) (rfl) ?_
      refine nr ?_; intro U h; simp only [z0, z1] at h; subst h
      refine s_val 13 rfl rfl (.int .i64 0) (rfl) ?_
      refine nr ?_; intro U h; simp only [z0, z1] at h; subst h
      refine s_val 14 rfl rfl (.bool true) (run_neq_k 3 .i64 _ _ _ rfl Try.underlying3 ([x, y].getD i 0) 0 rfl rfl true h2 _) ?_
      refine nr ?_; intro U h; simp only [z0, z1] at h; subst h
      refine wpList_nil ?_
      refine then_n ?_
      refine wp_cond_true rfl ?_
      refine wp_seq ?_
      refine wp_region_lit ?_
      refine s_val 15 rfl rfl (.int .i64 ([x, y].getD i 0)) (rfl) ?_
      refine nr ?_; intro U h; simp only [z0, z1] at h; subst h
      refine s_val 2 rfl rfl (.int .i64 ([x, y].getD i 0)) (rfl) ?_
      refine nr ?_; intro U h; simp only [z0, z1] at h; subst h
      refine wpList_nil ?_
      refine then_n ?_
      refine wp_ret ?_
      refine blk_r ?_
      refine then_r ?_
      refine then_r ?_
      refine blk_r ?_
      refine then_r ?_
      refine bodyPost_ret (results_tmp Try.results51 _ _ _) rfl ?_
      have hv : ([x, y] : List Int).getD i 0 = orZ x y := by
        have hn := of_decide_eq_false h2
        rcases (by omega : i = 0 ∨ i = 1) with rfl | rfl
        · exact (if_neg hn).symm
        · exact (if_pos (hz 0 (by decide))).symm
      rw [hv]
      exact ⟨rfl, GG⟩
    · have hz2 : ∀ j, j < i + 1 → ([x, y] : List Int).getD j 0 = 0 := fun j hj => by
        rcases Nat.lt_or_ge j i with c | c
        · exact hz j c
        · rw [show j = i by omega]; exact of_decide_eq_true h2
      refine wp_region_lit ?_
      refine s_val 12 rfl rfl (.int .i64 ([x, y].getD i 0)) (rfl) ?_
      refine nr ?_; intro U h; simp only [z0, z1] at h; subst h
      refine s_val 13 rfl rfl (.int .i64 0) (rfl) ?_
      refine nr ?_; intro U h; simp only [z0, z1] at h; subst h
      refine s_val 14 rfl rfl (.bool false) (run_neq_k 3 .i64 _ _ _ rfl Try.underlying3 ([x, y].getD i 0) 0 rfl rfl false h2 _) ?_
      refine nr ?_; intro U h; simp only [z0, z1] at h; subst h
      refine wpList_nil ?_
      refine then_n ?_
      refine wp_cond_false rfl ?_
      refine wp_skip ?_
      refine blk_n ?_
      refine then_n ?_
      refine wp_region_lit ?_
      refine s_val 16 rfl rfl (.int .i64 ((i + 1 : Nat) : Int)) (run_addI 3 _ _ _ rfl ((i : Nat) : Int) 1 ((i + 1 : Nat) : Int) rfl rfl (by omega) (by omega) (by omega) _) ?_
      refine nr ?_; intro U h; simp only [z0, z1] at h; subst h
      refine s_val 8 rfl rfl (.int .i64 ((i + 1 : Nat) : Int)) (rfl) ?_
      refine nr ?_; intro U h; simp only [z0, z1] at h; subst h
      refine wpList_nil ?_
      refine then_n ?_
      exact ⟨_, by omega, i + 1, (fun kz => ([us1 0, .int .i64 ([x, y].getD i 0), .bool true, .pointer (pK kN ao i 0), .int .i64 ([x, y].getD i 0), .int .i64 ([x, y].getD i 0), .int .i64 0, .bool false, us1 8, .int .i64 ((i + 1 : Nat) : Int)] : List Value).getD kz undef), rfl, rfl, GG, HR, by omega, hz2⟩
set_option maxRecDepth 100000 in
set_option maxHeartbeats 4000000 in
theorem newer_any (a b : VM) (ha : a.ok) (hb : b.ok) (w : World) : Calls Try.prog 21 #[.agg (veA a), .agg (veA b)] w (fun e w' => e = .returned (.bool (nwV a b)) ∧ Gro w w') := by
  refine s_enter Try.func21 rfl Try.ntmps21 [.agg (veA a), .agg (veA b)] [.agg (veA a), .agg (veA b), undef, undef, undef, undef, undef, undef, undef, undef, undef, undef, undef, undef, undef, undef, undef, undef] rfl ?_
  have GG := Gro.refl w
  refine wp_seq ?_
  refine wp_region_lit ?_
  refine s_box 2 rfl rfl 54 _ rfl _ rfl (veA a) rfl ?_
  intro w1 g1 G eg1 kg1
  have bg1 := size_base GG eg1
  replace GG := GG.trans G
  clear G
  clear eg1
  refine nr ?_; intro U h; simp only [z0, z1] at h; subst h
  refine s_box 3 rfl rfl 54 _ rfl _ rfl (veA b) rfl ?_
  intro w2 g2 G eg2 kg2
  have bg2 := size_base GG eg2
  replace kg1 := G.has kg1
  replace GG := GG.trans G
  clear G
  clear eg2
  refine nr ?_; intro U h; simp only [z0, z1] at h; subst h
  refine s_val 4 rfl rfl (.bool false) (rfl) ?_
  refine nr ?_; intro U h; simp only [z0, z1] at h; subst h
  refine wpList_nil ?_
  refine then_n ?_
  refine wp_seq ?_
  refine wp_region_exA (A := ?Ax1) 9 [(0, 5), (1, 6), (2, 7), (3, 8), (4, 9), (5, 10), (6, 11), (7, 12), (8, 13)] [.val (.pointer (some ⟨g1, 0, none⟩)), .val (.int .i64 a.n), .val (.pointer (some ⟨g2, 0, none⟩)), .val (.int .i64 b.n), .val (.int .i64 (cmpZ a.n b.n)), .val (.pointer (some ⟨g1, 1, none⟩)), .val (.agg (idA a.who)), .val (.pointer (some ⟨g2, 1, none⟩)), .val (.agg (idA b.who))] follows (by kernel_rfl) rfl ?hAx1 (opsA_cons ?o0x1 (opsA_cons ?o1x1 (opsA_cons ?o2x1 (opsA_cons ?o3x1 (opsA_cons ?o4x1 (opsA_cons ?o5x1 (opsA_cons ?o6x1 (opsA_cons ?o7x1 (opsA_cons ?o8x1 opsA_nil))))))))) ?restx1
  case hAx1 =>
    intro ptrs
    simp only [full, foldSlots, filledE, postE, List.foldl_cons, List.foldl_nil, List.getD_cons_zero, List.getD_cons_succ, fill_val, List.set_cons_zero, List.set_cons_succ]
    exact rfl
  case o0x1 => exact fun _ _ _ _ => opE_value (v := .pointer (some ⟨g1, 0, none⟩)) rfl (run_fld 54 _ 0 rfl g1 0 rfl 0 (by kernel_rfl))
  case o1x1 => exact fun _ _ hw _ => opE_value (v := .int .i64 a.n) rfl (ldVen _ rfl g1 rfl (hw.has kg1))
  case o2x1 => exact fun _ _ _ _ => opE_value (v := .pointer (some ⟨g2, 0, none⟩)) rfl (run_fld 54 _ 0 rfl g2 0 rfl 0 (by kernel_rfl))
  case o3x1 => exact fun _ _ hw _ => opE_value (v := .int .i64 b.n) rfl (ldVen _ rfl g2 rfl (hw.has kg2))
  case o4x1 =>
    intro ptrs w' hw hE
    exact opE_call (.val (.int .i64 (cmpZ a.n b.n))) rfl _ 52 Try.call52 rfl rfl _ rfl [.int .i64 a.n, .int .i64 b.n] rfl ((cmp64_any a.n b.n _).mono fun e w' ⟨he, hg⟩ => ⟨_, he, hg, rfl⟩)
  case o5x1 => exact fun _ _ _ _ => opE_value (v := .pointer (some ⟨g1, 1, none⟩)) rfl (run_fld 54 _ 1 rfl g1 0 rfl 1 (by kernel_rfl))
  case o6x1 => exact fun _ _ hw _ => opE_value (v := .agg (idA a.who)) rfl (ldVew _ rfl g1 rfl (hw.has kg1))
  case o7x1 => exact fun _ _ _ _ => opE_value (v := .pointer (some ⟨g2, 1, none⟩)) rfl (run_fld 54 _ 1 rfl g2 0 rfl 1 (by kernel_rfl))
  case o8x1 => exact fun _ _ hw _ => opE_value (v := .agg (idA b.who)) rfl (ldVew _ rfl g2 rfl (hw.has kg2))
  intro ptrs w3 GD hxE
  simp only [List.drop_succ_cons, List.drop_zero]
  replace kg1 := GD.has kg1
  replace kg2 := GD.has kg2
  replace GG := GG.drew.trans GD
  clear GD
  refine s_callv 14 rfl rfl _ 47 Try.call47 rfl rfl _ rfl [.agg (idA a.who), .agg (idA b.who)] rfl (cmp_any a.who b.who ha.who hb.who _) ?_
  intro w4 G
  replace kg1 := G.has kg1
  replace kg2 := G.has kg2
  replace GG := GG.trans G
  clear G
  refine nr ?_; intro U h; simp only [z0, z1] at h; subst h
  refine s_bsl 15 rfl rfl 60 2 _ rfl [(0, .int .i64 (cmpZ a.n b.n)), (1, .int .i64 (cmpN a.who b.who))] rfl ([(cmpZ a.n b.n), (cmpN a.who b.who)].flatMap kN.E).toArray 3 (bsN2 _ _ _) ?_
  intro w5 q G eq kq
  replace kg1 := G.has kg1
  replace kg2 := G.has kg2
  replace GG := GG.trans G
  clear G
  have HR : RK kN _ (some ⟨q, 0, none⟩) 2 [(cmpZ a.n b.n), (cmpN a.who b.who)] := RK.blk kq (fun _ _ => trivial) (Nat.le_refl _)
  clear eq
  refine nr ?_; intro U h; simp only [z0, z1] at h; subst h
  refine s_callv 16 rfl rfl _ 51 Try.call51 rfl rfl _ rfl [.slice (some ⟨q, 0, none⟩) 2 2] rfl (or_any _ _ _ _ _ HR) ?_
  intro w6 G
  replace kg1 := G.has kg1
  replace kg2 := G.has kg2
  replace HR := HR.gro G
  replace GG := GG.trans G
  clear G
  refine nr ?_; intro U h; simp only [z0, z1] at h; subst h
  refine s_val 17 rfl rfl (.bool (nwV a b)) (run_gtrT 3 _ _ _ rfl _ _ rfl rfl _ (nw_or a b) _) ?_
  refine nr ?_; intro U h; simp only [z0, z1] at h; subst h
  refine s_val 4 rfl rfl (.bool (nwV a b)) (rfl) ?_
  refine nr ?_; intro U h; simp only [z0, z1] at h; subst h
  refine wpList_nil ?_
  refine then_n ?_
  refine wp_ret ?_
  refine bodyPost_ret (results_tmp Try.results21 _ _ _) rfl ?_
  exact ⟨rfl, GG⟩
set_option maxRecDepth 100000 in
set_option maxHeartbeats 4000000 in
theorem rnewer_any (a b : VM) (ha : a.ok) (hb : b.ok) (w : World) : Calls Try.prog 22 #[.agg (veA a), .agg (veA b)] w (fun e w' => e = .returned (.bool (nwV a b)) ∧ Gro w w') := by
  refine s_enter Try.func22 rfl Try.ntmps22 [.agg (veA a), .agg (veA b)] [.agg (veA a), .agg (veA b), undef, undef, undef, undef, undef, undef, undef, undef, undef, undef, undef, undef, undef, undef, undef, undef, undef, undef] rfl ?_
  have GG := Gro.refl w
  refine wp_seq ?_
  refine wp_region_lit ?_
  refine s_box 2 rfl rfl 54 _ rfl _ rfl (veA a) rfl ?_
  intro w1 g1 G eg1 kg1
  have bg1 := size_base GG eg1
  replace GG := GG.trans G
  clear G
  clear eg1
  refine nr ?_; intro U h; simp only [z0, z1] at h; subst h
  refine s_box 3 rfl rfl 54 _ rfl _ rfl (veA b) rfl ?_
  intro w2 g2 G eg2 kg2
  have bg2 := size_base GG eg2
  replace kg1 := G.has kg1
  replace GG := GG.trans G
  clear G
  clear eg2
  refine nr ?_; intro U h; simp only [z0, z1] at h; subst h
  refine s_val 4 rfl rfl (.bool false) (rfl) ?_
  refine nr ?_; intro U h; simp only [z0, z1] at h; subst h
  refine wpList_nil ?_
  refine then_n ?_
  refine wp_seq ?_
  refine wp_seq ?_
  cases h1 : decide (a.n = b.n)
  · refine wp_region_lit ?_
    refine s_val 5 rfl rfl (.pointer (some ⟨g1, 0, none⟩)) (run_fld 54 _ 0 rfl g1 0 rfl 0 (by kernel_rfl)) ?_
    refine nr ?_; intro U h; simp only [z0, z1] at h; subst h
    refine s_val 6 rfl rfl (.int .i64 a.n) (ldVen _ rfl g1 rfl (kg1)) ?_
    refine nr ?_; intro U h; simp only [z0, z1] at h; subst h
    refine s_val 7 rfl rfl (.pointer (some ⟨g2, 0, none⟩)) (run_fld 54 _ 0 rfl g2 0 rfl 0 (by kernel_rfl)) ?_
    refine nr ?_; intro U h; simp only [z0, z1] at h; subst h
    refine s_val 8 rfl rfl (.int .i64 b.n) (ldVen _ rfl g2 rfl (kg2)) ?_
    refine nr ?_; intro U h; simp only [z0, z1] at h; subst h
    refine s_val 9 rfl rfl (.bool true) (run_neq_k 2 .i64 _ _ _ rfl Try.underlying2 a.n b.n rfl rfl true h1 _) ?_
    refine nr ?_; intro U h; simp only [z0, z1] at h; subst h
    refine wpList_nil ?_
    refine then_n ?_
    refine wp_cond_true rfl ?_
    refine wp_seq ?_
    cases h2 : decide (b.n < a.n)
    · refine wp_region_lit ?_
      refine s_val 10 rfl rfl (.pointer (some ⟨g1, 0, none⟩)) (run_fld 54 _ 0 rfl g1 0 rfl 0 (by kernel_rfl)) ?_
      refine nr ?_; intro U h; simp only [z0, z1] at h; subst h
      refine s_val 11 rfl rfl (.int .i64 a.n) (ldVen _ rfl g1 rfl (kg1)) ?_
      refine nr ?_; intro U h; simp only [z0, z1] at h; subst h
      refine s_val 12 rfl rfl (.pointer (some ⟨g2, 0, none⟩)) (run_fld 54 _ 0 rfl g2 0 rfl 0 (by kernel_rfl)) ?_
      refine nr ?_; intro U h; simp only [z0, z1] at h; subst h
      refine s_val 13 rfl rfl (.int .i64 b.n) (ldVen _ rfl g2 rfl (kg2)) ?_
      refine nr ?_; intro U h; simp only [z0, z1] at h; subst h
      refine s_val 14 rfl rfl (.bool false) (run_gtrT 2 _ _ _ rfl a.n b.n rfl rfl false h2 _) ?_
      refine nr ?_; intro U h; simp only [z0, z1] at h; subst h
      refine s_val 4 rfl rfl (.bool false) (rfl) ?_
      refine nr ?_; intro U h; simp only [z0, z1] at h; subst h
      refine wpList_nil ?_
      refine then_n ?_
      refine wp_ret ?_
      refine then_r ?_
      refine bodyPost_ret (results_tmp Try.results22 _ _ _) rfl ?_
      have hc : nwV a b = false := by
        have h3 := of_decide_eq_false h1
        have h4 := of_decide_eq_false h2
        unfold nwV
        exact decide_eq_false (by omega)
      rw [hc]
      exact ⟨rfl, GG⟩
    · refine wp_region_lit ?_
      refine s_val 10 rfl rfl (.pointer (some ⟨g1, 0, none⟩)) (run_fld 54 _ 0 rfl g1 0 rfl 0 (by kernel_rfl)) ?_
      refine nr ?_; intro U h; simp only [z0, z1] at h; subst h
      refine s_val 11 rfl rfl (.int .i64 a.n) (ldVen _ rfl g1 rfl (kg1)) ?_
      refine nr ?_; intro U h; simp only [z0, z1] at h; subst h
      refine s_val 12 rfl rfl (.pointer (some ⟨g2, 0, none⟩)) (run_fld 54 _ 0 rfl g2 0 rfl 0 (by kernel_rfl)) ?_
      refine nr ?_; intro U h; simp only [z0, z1] at h; subst h
      refine s_val 13 rfl rfl (.int .i64 b.n) (ldVen _ rfl g2 rfl (kg2)) ?_
      refine nr ?_; intro U h; simp only [z0, z1] at h; subst h
      refine s_val 14 rfl rfl (.bool true) (run_gtrT 2 _ _ _ rfl a.n b.n rfl rfl true h2 _) ?_
      refine nr ?_; intro U h; simp only [z0, z1] at h; subst h
      refine s_val 4 rfl rfl (.bool true) (rfl) ?_
      refine nr ?_; intro U h; simp only [z0, z1] at h; subst h
      refine wpList_nil ?_
      refine then_n ?_
      refine wp_ret ?_
      refine then_r ?_
      refine bodyPost_ret (results_tmp Try.results22 _ _ _) rfl ?_
      have hc : nwV a b = true := by
        have h3 := of_decide_eq_false h1
        have h4 := of_decide_eq_true h2
        unfold nwV
        exact decide_eq_true (by omega)
      rw [hc]
      exact ⟨rfl, GG⟩
  · refine wp_region_lit ?_
    refine s_val 5 rfl rfl (.pointer (some ⟨g1, 0, none⟩)) (run_fld 54 _ 0 rfl g1 0 rfl 0 (by kernel_rfl)) ?_
    refine nr ?_; intro U h; simp only [z0, z1] at h; subst h
    refine s_val 6 rfl rfl (.int .i64 a.n) (ldVen _ rfl g1 rfl (kg1)) ?_
    refine nr ?_; intro U h; simp only [z0, z1] at h; subst h
    refine s_val 7 rfl rfl (.pointer (some ⟨g2, 0, none⟩)) (run_fld 54 _ 0 rfl g2 0 rfl 0 (by kernel_rfl)) ?_
    refine nr ?_; intro U h; simp only [z0, z1] at h; subst h
    refine s_val 8 rfl rfl (.int .i64 b.n) (ldVen _ rfl g2 rfl (kg2)) ?_
    refine nr ?_; intro U h; simp only [z0, z1] at h; subst h
    refine s_val 9 rfl rfl (.bool false) (run_neq_k 2 .i64 _ _ _ rfl Try.underlying2 a.n b.n rfl rfl false h1 _) ?_
    refine nr ?_; intro U h; simp only [z0, z1] at h; subst h
    refine wpList_nil ?_
    refine then_n ?_
    refine wp_cond_false rfl ?_
    refine wp_skip ?_
    refine then_n ?_
    refine wp_seq ?_
    refine wp_region_lit ?_
    refine s_val 15 rfl rfl (.pointer (some ⟨g2, 1, none⟩)) (run_fld 54 _ 1 rfl g2 0 rfl 1 (by kernel_rfl)) ?_
    refine nr ?_; intro U h; simp only [z0, z1] at h; subst h
    refine s_val 16 rfl rfl (.agg (idA b.who)) (ldVew _ rfl g2 rfl (kg2)) ?_
    refine nr ?_; intro U h; simp only [z0, z1] at h; subst h
    refine s_val 17 rfl rfl (.pointer (some ⟨g1, 1, none⟩)) (run_fld 54 _ 1 rfl g1 0 rfl 1 (by kernel_rfl)) ?_
    refine nr ?_; intro U h; simp only [z0, z1] at h; subst h
    refine s_val 18 rfl rfl (.agg (idA a.who)) (ldVew _ rfl g1 rfl (kg1)) ?_
    refine nr ?_; intro U h; simp only [z0, z1] at h; subst h
    refine s_callv 19 rfl rfl _ 30 Try.call30 rfl rfl _ rfl [.agg (idA b.who), .agg (idA a.who)] rfl (less_any b.who a.who hb.who ha.who _) ?_
    intro w3 G
    replace kg1 := G.has kg1
    replace kg2 := G.has kg2
    replace GG := GG.trans G
    clear G
    refine nr ?_; intro U h; simp only [z0, z1] at h; subst h
    refine s_val 4 rfl rfl (.bool (decide (b.who < a.who))) (rfl) ?_
    refine nr ?_; intro U h; simp only [z0, z1] at h; subst h
    refine wpList_nil ?_
    refine then_n ?_
    refine wp_ret ?_
    refine bodyPost_ret (results_tmp Try.results22 _ _ _) rfl ?_
    have hc : nwV a b = decide (b.who < a.who) := by
      have h3 := of_decide_eq_true h1
      unfold nwV
      rw [decide_eq_decide]
      omega
    rw [hc]
    exact ⟨rfl, GG⟩
set_option maxRecDepth 100000 in
set_option maxHeartbeats 4000000 in
theorem form_any (x : IM) (hx : x.ok) (h0 : 0 ≤ x.n) (hl : x.val.length ≤ 140737488351232) (w : World) (HX : NC w .u8 x.ao x.cap x.val) : Calls Try.prog 19 #[.agg (itA x)] w (BytP w (formV x.it)) := by
  refine s_enter Try.func19 rfl Try.ntmps19 [.agg (itA x)] [.agg (itA x), undef, undef, undef, undef, undef, undef, undef, undef, undef, undef, undef, undef, undef, undef, undef, undef, undef, undef, undef, undef, undef, undef, undef, undef, undef, undef, undef, undef] rfl ?_
  have GG := Gro.refl w
  refine wp_seq ?_
  refine wp_region_lit ?_
  refine s_box 1 rfl rfl 56 _ rfl _ rfl (itA x) rfl ?_
  intro w1 g1 G eg1 kg1
  have bg1 := size_base GG eg1
  replace HX := HX.gro G
  replace GG := GG.trans G
  clear G
  clear eg1
  refine nr ?_; intro U h; simp only [z0, z1] at h; subst h
  refine s_val 2 rfl rfl (.slice none 0 0) (rfl) ?_
  refine nr ?_; intro U h; simp only [z0, z1] at h; subst h
  refine wpList_nil ?_
  refine then_n ?_
  refine wp_seq ?_
  refine wp_region_lit ?_
  refine s_bsl 4 rfl rfl 135 1 _ rfl [(0, .int .u64 2)] rfl (([2] : List Nat).map fun n : Nat => Value.int .u64 (n : Int)).toArray 75 (by kernel_rfl) ?_
  intro w2 q1 G eq1 kq1
  replace kg1 := G.has kg1
  replace HX := HX.gro G
  replace GG := GG.trans G
  clear G
  have HN1 : NC _ .u64 (some ⟨q1, 0, none⟩) 1 ([2] : List Nat) := nc_u64 kq1 (by decide)
  clear eq1 kq1
  refine nr ?_; intro U h; simp only [z0, z1] at h; subst h
  have zg1 := kg1
  have zHX := HX
  have GZ := GG
  have GA := Gro.refl w2
  refine s_callx 5 rfl rfl _ 48 Try.call48 rfl rfl _ rfl [.slice (some ⟨q1, 0, none⟩) 1 1] rfl ((putNum_any _ _ ([2] : List Nat) _ HN1 (Nat.le_of_ble_eq_true rfl)).mono fun _ _ h => (h.byt).to (putN1 _)) (by rintro _ _ ⟨_, _, he, _, _⟩; exact ⟨_, he⟩) ?_
  rintro v w3 ⟨ao2, cap2, he, G, HO2⟩
  cases he
  replace kg1 := G.has kg1
  replace HX := HX.gro G
  replace GA := GA.gro G
  replace GG := GG.trans G
  clear G
  refine nr ?_; intro U h; simp only [z0, z1] at h; subst h
  refine s_val 3 rfl rfl (.slice ao2 (numL 2).length cap2) (rfl) ?_
  refine nr ?_; intro U h; simp only [z0, z1] at h; subst h
  refine wpList_nil ?_
  refine then_n ?_
  refine wp_seq ?_
  refine wp_region_lit ?_
  refine s_val 6 rfl rfl (.slice ao2 (numL 2).length cap2) (rfl) ?_
  refine nr ?_; intro U h; simp only [z0, z1] at h; subst h
  refine s_val 7 rfl rfl (.pointer (some ⟨g1, 0, none⟩)) (run_fld 56 _ 0 rfl g1 0 rfl 0 (by kernel_rfl)) ?_
  refine nr ?_; intro U h; simp only [z0, z1] at h; subst h
  refine s_val 8 rfl rfl (.slice (some ⟨g1, 0, none⟩) 16 16) (run_arrO _ rfl g1 0 rfl _) ?_
  refine nr ?_; intro U h; simp only [z0, z1] at h; subst h
  refine s_app bT 9 rfl rfl _ _ rfl (l := numL 2) (by exact rfl) HO2 (l' := beL 16 x.key) (by rw [beL_len]; rfl) (nc_id kg1 (itA_key x)) (by simp only [beL_len, numL_len]; have h1 := nb_le 2; have h2 := nb_le x.n.toNat; have h3 := textL_len x.val; omega) (by decide) GA.size ?_
  intro ao3 cap3 w4 HO3 BB
  replace GA := below_gro GA BB (Nat.le_refl _)
  replace kg1 := GA.has zg1
  replace HX := zHX.gro GA
  replace GG := GZ.trans GA
  clear BB
  refine nr ?_; intro U h; simp only [z0, z1] at h; subst h
  refine s_val 3 rfl rfl (.slice ao3 (numL 2 ++ beL 16 x.key).length cap3) (rfl) ?_
  refine nr ?_; intro U h; simp only [z0, z1] at h; subst h
  refine wpList_nil ?_
  refine then_n ?_
  refine wp_seq ?_
  refine wp_region_lit ?_
  refine s_val 10 rfl rfl (.slice ao3 (numL 2 ++ beL 16 x.key).length cap3) (rfl) ?_
  refine nr ?_; intro U h; simp only [z0, z1] at h; subst h
  refine s_val 11 rfl rfl (.pointer (some ⟨g1, 16, none⟩)) (run_fld 56 _ 1 rfl g1 0 rfl 16 (by kernel_rfl)) ?_
  refine nr ?_; intro U h; simp only [z0, z1] at h; subst h
  refine s_val 12 rfl rfl (.pointer (some ⟨g1, 16, none⟩)) (run_fld 54 _ 0 rfl g1 16 rfl 16 (by kernel_rfl)) ?_
  refine nr ?_; intro U h; simp only [z0, z1] at h; subst h
  refine s_val 13 rfl rfl (.int .i64 x.n) (ldItn _ rfl g1 rfl (kg1)) ?_
  refine nr ?_; intro U h; simp only [z0, z1] at h; subst h
  refine s_val 14 rfl rfl (.int .u64 ((x.n.toNat : Nat) : Int)) (conv2U _ rfl x.n rfl x.n.toNat (by omega) (by have := hx.n.2; unfold lim; omega) _) ?_
  refine nr ?_; intro U h; simp only [z0, z1] at h; subst h
  refine s_bsl 15 rfl rfl 135 1 _ rfl [(0, .int .u64 (x.n.toNat : Nat))] rfl (([x.n.toNat] : List Nat).map fun n : Nat => Value.int .u64 (n : Int)).toArray 75 (by kernel_rfl) ?_
  intro w5 q4 G eq4 kq4
  replace kg1 := G.has kg1
  replace HX := HX.gro G
  replace GA := GA.gro G
  replace HO3 := HO3.gro G
  replace GG := GG.trans G
  clear G
  have HN4 : NC _ .u64 (some ⟨q4, 0, none⟩) 1 ([x.n.toNat] : List Nat) := nc_u64 kq4 (fun y hy => by rw [List.mem_singleton.1 hy]; have := hx.n.2; unfold lim; omega)
  clear eq4 kq4
  refine nr ?_; intro U h; simp only [z0, z1] at h; subst h
  refine s_callx 16 rfl rfl _ 48 Try.call48 rfl rfl _ rfl [.slice (some ⟨q4, 0, none⟩) 1 1] rfl ((putNum_any _ _ ([x.n.toNat] : List Nat) _ HN4 (Nat.le_of_ble_eq_true rfl)).mono fun _ _ h => (h.byt).to (putN1 _)) (by rintro _ _ ⟨_, _, he, _, _⟩; exact ⟨_, he⟩) ?_
  rintro v w6 ⟨ao5, cap5, he, G, HO5⟩
  cases he
  replace kg1 := G.has kg1
  replace HX := HX.gro G
  replace GA := GA.gro G
  replace HO3 := HO3.gro G
  replace GG := GG.trans G
  clear G
  refine nr ?_; intro U h; simp only [z0, z1] at h; subst h
  refine s_app bT 17 rfl rfl _ _ rfl (l := (numL 2 ++ beL 16 x.key)) (by exact rfl) HO3 (l' := numL x.n.toNat) (by exact rfl) (HO5.nc) (by simp only [List.length_append, beL_len, numL_len]; have h1 := nb_le 2; have h2 := nb_le x.n.toNat; have h3 := textL_len x.val; omega) (by decide) GA.size ?_
  intro ao6 cap6 w7 HO6 BB
  replace GA := below_gro GA BB (Nat.le_refl _)
  replace kg1 := GA.has zg1
  replace HX := zHX.gro GA
  replace GG := GZ.trans GA
  clear BB
  refine nr ?_; intro U h; simp only [z0, z1] at h; subst h
  refine s_val 3 rfl rfl (.slice ao6 ((numL 2 ++ beL 16 x.key) ++ numL x.n.toNat).length cap6) (rfl) ?_
  refine nr ?_; intro U h; simp only [z0, z1] at h; subst h
  refine wpList_nil ?_
  refine then_n ?_
  refine wp_seq ?_
  refine wp_region_lit ?_
  refine s_val 18 rfl rfl (.slice ao6 ((numL 2 ++ beL 16 x.key) ++ numL x.n.toNat).length cap6) (rfl) ?_
  refine nr ?_; intro U h; simp only [z0, z1] at h; subst h
  refine s_val 19 rfl rfl (.pointer (some ⟨g1, 16, none⟩)) (run_fld 56 _ 1 rfl g1 0 rfl 16 (by kernel_rfl)) ?_
  refine nr ?_; intro U h; simp only [z0, z1] at h; subst h
  refine s_val 20 rfl rfl (.pointer (some ⟨g1, 17, none⟩)) (run_fld 54 _ 1 rfl g1 16 rfl 17 (by kernel_rfl)) ?_
  refine nr ?_; intro U h; simp only [z0, z1] at h; subst h
  refine s_val 21 rfl rfl (.slice (some ⟨g1, 17, none⟩) 16 16) (run_arrO _ rfl g1 17 rfl _) ?_
  refine nr ?_; intro U h; simp only [z0, z1] at h; subst h
  refine s_app bT 22 rfl rfl _ _ rfl (l := ((numL 2 ++ beL 16 x.key) ++ numL x.n.toNat)) (by exact rfl) HO6 (l' := beL 16 x.who) (by rw [beL_len]; rfl) (nc_id kg1 (itA_who x)) (by simp only [List.length_append, beL_len, numL_len]; have h1 := nb_le 2; have h2 := nb_le x.n.toNat; have h3 := textL_len x.val; omega) (by decide) GA.size ?_
  intro ao7 cap7 w8 HO7 BB
  replace GA := below_gro GA BB (Nat.le_refl _)
  replace kg1 := GA.has zg1
  replace HX := zHX.gro GA
  replace GG := GZ.trans GA
  clear BB
  refine nr ?_; intro U h; simp only [z0, z1] at h; subst h
  refine s_val 3 rfl rfl (.slice ao7 (((numL 2 ++ beL 16 x.key) ++ numL x.n.toNat) ++ beL 16 x.who).length cap7) (rfl) ?_
  refine nr ?_; intro U h; simp only [z0, z1] at h; subst h
  refine wpList_nil ?_
  refine then_n ?_
  refine wp_seq ?_
  refine wp_region_lit ?_
  refine s_val 23 rfl rfl (.slice ao7 (((numL 2 ++ beL 16 x.key) ++ numL x.n.toNat) ++ beL 16 x.who).length cap7) (rfl) ?_
  refine nr ?_; intro U h; simp only [z0, z1] at h; subst h
  refine s_val 24 rfl rfl (.pointer (some ⟨g1, 33, none⟩)) (run_fld 56 _ 2 rfl g1 0 rfl 33 (by kernel_rfl)) ?_
  refine nr ?_; intro U h; simp only [z0, z1] at h; subst h
  refine s_val 25 rfl rfl (.slice x.ao x.val.length x.cap) (ldItr _ rfl g1 rfl (kg1)) ?_
  refine nr ?_; intro U h; simp only [z0, z1] at h; subst h
  refine s_bsl 26 rfl rfl 22 1 _ rfl [(0, .slice x.ao x.val.length x.cap)] rfl #[.slice x.ao x.val.length x.cap] 30 (by kernel_rfl) ?_
  intro w9 q8 G eq8 kq8
  replace kg1 := G.has kg1
  replace HX := HX.gro G
  replace GA := GA.gro G
  replace HO7 := HO7.gro G
  replace GG := GG.trans G
  clear G
  have HL : LC _ (some ⟨q8, 0, none⟩) 1 [x.val] := lc_row1 kq8 HX
  clear eq8 kq8
  refine nr ?_; intro U h; simp only [z0, z1] at h; subst h
  refine s_callx 27 rfl rfl _ 49 Try.call49 rfl rfl _ rfl [.slice (some ⟨q8, 0, none⟩) 1 1] rfl ((putText_any _ _ [x.val] _ HL (by rw [putT1]; have := textL_len x.val; omega) (Nat.le_of_ble_eq_true rfl)).mono fun _ _ h => (h.byt).to (putT1 _)) (by rintro _ _ ⟨_, _, he, _, _⟩; exact ⟨_, he⟩) ?_
  rintro v w10 ⟨ao9, cap9, he, G, HO9⟩
  cases he
  replace kg1 := G.has kg1
  replace HX := HX.gro G
  replace GA := GA.gro G
  replace HO7 := HO7.gro G
  replace GG := GG.trans G
  clear G
  refine nr ?_; intro U h; simp only [z0, z1] at h; subst h
  refine s_app bT 28 rfl rfl _ _ rfl (l := (((numL 2 ++ beL 16 x.key) ++ numL x.n.toNat) ++ beL 16 x.who)) (by exact rfl) HO7 (l' := textL x.val) (by exact rfl) (HO9.nc) (by simp only [List.length_append, beL_len, numL_len]; have h1 := nb_le 2; have h2 := nb_le x.n.toNat; have h3 := textL_len x.val; omega) (by decide) GA.size ?_
  intro ao10 cap10 w11 HO10 BB
  replace GA := below_gro GA BB (Nat.le_refl _)
  replace kg1 := GA.has zg1
  replace HX := zHX.gro GA
  replace GG := GZ.trans GA
  clear BB
  refine nr ?_; intro U h; simp only [z0, z1] at h; subst h
  refine s_val 2 rfl rfl (.slice ao10 ((((numL 2 ++ beL 16 x.key) ++ numL x.n.toNat) ++ beL 16 x.who) ++ textL x.val).length cap10) (rfl) ?_
  refine nr ?_; intro U h; simp only [z0, z1] at h; subst h
  refine wpList_nil ?_
  refine then_n ?_
  refine wp_ret ?_
  refine bodyPost_ret (results_tmp Try.results19 _ _ _) rfl ?_
  exact BytP.to (form_eq x) ⟨_, _, rfl, GG, HO10.mono GZ.size⟩
set_option maxRecDepth 100000 in
set_option maxHeartbeats 4000000 in
theorem bform_any (n : Nat) (hn : n ≤ 9223372036854775807) (w : World) : Calls Try.prog 40 #[.int .i64 ((n : Nat) : Int)] w (BytP w (begV n)) := by
  refine s_enter Try.func40 rfl Try.ntmps40 [.int .i64 ((n : Nat) : Int)] [.int .i64 ((n : Nat) : Int), undef, undef, undef, undef, undef, undef] rfl ?_
  have GG := Gro.refl w
  refine wp_seq ?_
  refine wp_region_lit ?_
  refine s_val 2 rfl rfl (.slice none 0 0) (rfl) ?_
  refine nr ?_; intro U h; simp only [z0, z1] at h; subst h
  refine wpList_nil ?_
  refine then_n ?_
  refine wp_seq ?_
  refine wp_region_lit ?_
  refine s_val 3 rfl rfl (.int .i64 ((n : Nat) : Int)) (rfl) ?_
  refine nr ?_; intro U h; simp only [z0, z1] at h; subst h
  refine s_val 4 rfl rfl (.int .u64 ((n : Nat) : Int)) (conv2U _ rfl ((n : Nat) : Int) rfl n rfl (by unfold lim; omega) _) ?_
  refine nr ?_; intro U h; simp only [z0, z1] at h; subst h
  refine s_bsl 5 rfl rfl 135 2 _ rfl [(0, .int .u64 1), (1, .int .u64 (n : Nat))] rfl (([1, n] : List Nat).map fun n : Nat => Value.int .u64 (n : Int)).toArray 75 (by kernel_rfl) ?_
  intro w1 q1 G eq1 kq1
  replace GG := GG.trans G
  clear G
  have HN1 : NC _ .u64 (some ⟨q1, 0, none⟩) 2 ([1, n] : List Nat) := nc_u64 kq1 (fun y hy => by rcases List.mem_cons.1 hy with rfl | hy; (unfold lim; omega); rw [List.mem_singleton.1 hy]; unfold lim; omega)
  clear eq1 kq1
  refine nr ?_; intro U h; simp only [z0, z1] at h; subst h
  refine s_callx 6 rfl rfl _ 48 Try.call48 rfl rfl _ rfl [.slice (some ⟨q1, 0, none⟩) 2 2] rfl ((putNum_any _ _ [1, n] _ HN1 (Nat.le_of_ble_eq_true rfl)).mono fun _ _ h => (h.byt).to (putN2 _ _)) (by rintro _ _ ⟨_, _, he, _, _⟩; exact ⟨_, he⟩) ?_
  rintro v w2 ⟨ao2, cap2, he, G, HO2⟩
  cases he
  replace HO2 := HO2.mono GG.size
  replace GG := GG.trans G
  clear G
  refine nr ?_; intro U h; simp only [z0, z1] at h; subst h
  refine s_val 2 rfl rfl (.slice ao2 (begV n).length cap2) (rfl) ?_
  refine nr ?_; intro U h; simp only [z0, z1] at h; subst h
  refine wpList_nil ?_
  refine then_n ?_
  refine wp_ret ?_
  refine bodyPost_ret (results_tmp Try.results40 _ _ _) rfl ?_
  exact ⟨_, _, rfl, GG, HO2⟩
end Go.Proofs.Ytgfnjekpafempaa
