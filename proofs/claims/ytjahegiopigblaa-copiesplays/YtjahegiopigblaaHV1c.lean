/- Growth that is carried, boxes made in whatever order; Clone of bytes, apart. -/
import Derived.Test.YtjahegiopigblaaHA1
namespace Go.Proofs.Ytjahegiopigblaa
open Go.RowKit
theorem bT : NumT Try.prog 44 5 .u8 1 := ⟨Try.underlying44, Try.underlying5, by
  have h : (Try.prog.info? 5).map (fun i => (i.zero, i.size, i.bytes)) = some (some (.int .u8 0), 1, 1) := by kernel_rfl
  cases hi : Try.prog.info? 5 with
  | none => rw [hi] at h; cases h
  | some i =>
    rw [hi] at h
    simp only [Option.map_some, Option.some.injEq, Prod.mk.injEq] at h
    exact ⟨i, rfl, h.1, h.2.1, h.2.2⟩⟩
theorem run_none0 {o : Oper} {A : Act} (ho : o.op = .buildSlice 44 0 #[]) (w : World) :
    (execOp A.eval o).run Try.prog w = .ok (.value (.slice (some ⟨w.heap.size, 0, none⟩) 0 0)) (w.alloc (.cells #[] 5)) := by
  have h1 : (Instr.buildSlice 44 0 #[]).run Try.prog w = .ok (.slice (some ⟨w.heap.size, 0, none⟩) 0 0) (w.alloc (.cells #[] 5)) := by kernel_rfl
  unfold execOp
  simp only [ho, List.map_toArray, List.map_nil, Sem.run_bind, h1, Result.andThen_ok, Sem.run_pure]
/-- A new empty slice. -/
theorem wpList_none0 {ops : Array Oper} {rest : List Oper} {o : Oper} {a : Act} {w : World} {Q : Exit → Act → World → Prop} (dst : Nat) (hd : o.dst = some dst) (hgd : o.guard = none) (ho : o.op = .buildSlice 44 0 #[])
    (h : ∀ w' g, Gro w w' → w.heap.size = g → OB w' 5 .u8 g (some ⟨g, 0, none⟩) 0 [] → wpList Try.prog ops Q rest (a.put (some dst) (.slice (some ⟨g, 0, none⟩) 0 0)) w') : wpList Try.prog ops Q (o :: rest) a w :=
  wpList_plain hgd fun _ hK => by
    unfold Oper.wp
    rw [run_none0 ho, Oper.upon_value, hd]
    exact hK _ _ (h _ _ (gro_alloc _ _) rfl (OB.made (heap_alloc_new _ _) (Nat.le_refl _) (Nat.le_refl _) (by decide) rfl rfl (fun x hx => by (cases hx))))
theorem Gro.gro {a b c : World} (h : Gro a b) (k : Gro b c) : Gro a c := h.trans k
theorem Gro.ne {a b : World} {g : Nat} (h : Gro a b) (e : b.heap.size = g) : a.heap.size ≤ g := e ▸ h.size
theorem Gro.st {a b c : World} {g : Nat} {x : Obj} (h : Gro a b) (S : Stored b c g x) (hn : a.heap.size ≤ g) : Gro a c := h.store S hn
def NEo (ao : Option Addr) (g : Nat) : Prop := ∀ ad, ao = some ad → ad.block ≠ g
section
variable {w w' : World} {e : TypeId} {k : IntKind} {B g : Nat} {ao : Option Addr} {cap : Nat} {l : List Nat} {x : Obj}
theorem NC.ne (h : NC w k ao cap l) (e : w.heap.size = g) : NE ao l.length g := fun ad ha h0 => by
  have := h.lt ad ha h0
  omega
theorem NC.st (h : NC w k ao cap l) (S : Stored w w' g x) (hn : NE ao l.length g) : NC w' k ao cap l := GroS.nc S.gros h (fun ad ha h0 => by simpa using hn ad ha h0)
theorem OB.ne (h : OB w e k B ao cap l) (hs : w.heap.size = g) : NEo ao g := fun ad ha => by
  have := (h.ge ad ha).2
  omega
theorem OB.neB (h : OB w e k B ao cap l) (hg : g < B) : NEo ao g := fun ad ha => by
  have := (h.ge ad ha).1
  omega
theorem OB.st (h : OB w e k B ao cap l) (S : Stored w w' g x) (hn : NEo ao g) : OB w' e k B ao cap l := h.apart S hn
end
/-- A row of bytes that a call made. -/
def BytP (w : World) (l : List Nat) (e : Ending) (w' : World) : Prop := ∃ ao cap, e = .returned (.slice ao l.length cap) ∧ Gro w w' ∧ OB w' 5 .u8 w.heap.size ao cap l
section
variable {ops : Array Oper} {rest : List Oper} {o : Oper} {T : List Value} {ds : List Deferred} {w : World} {Q : Exit → Act → World → Prop}
theorem s_none0 (dst : Nat) (hd : o.dst = some dst) (hgd : o.guard = none) (ho : o.op = .buildSlice 44 0 #[])
    (h : ∀ w' g, Gro w w' → w.heap.size = g → OB w' 5 .u8 g (some ⟨g, 0, none⟩) 0 [] → wpList Try.prog ops Q rest ⟨(T.set dst (.slice (some ⟨g, 0, none⟩) 0 0)).toArray, ds⟩ w') : wpList Try.prog ops Q (o :: rest) ⟨T.toArray, ds⟩ w :=
  wpList_none0 dst hd hgd ho fun w' g h1 h2 h3 => by rw [put_list]; exact h w' g h1 h2 h3
end
set_option maxRecDepth 100000 in
set_option maxHeartbeats 4000000 in
theorem clone_any (ao : Option Addr) (cap : Nat) (l : List Nat) (w : World) (HC : NC w .u8 ao cap l) (hb : l.length ≤ 140737488355000) : Calls Try.prog 53 #[.slice ao l.length cap] w (BytP w l) := by
  cases ao with
  | none =>
    have h1 := HC.bare rfl
    have h2 := HC.fit
    have h4 : l = [] := List.eq_nil_of_length_eq_zero (by omega)
    subst h1 h4
    refine s_enter Try.func53 rfl Try.ntmps53 [.slice none 0 0] [.slice none 0 0, undef, undef, undef, undef, undef, undef, undef] rfl ?_
    have GG := Gro.refl w
    refine wp_seq ?_
    refine wp_region_lit ?_
    refine s_val 2 rfl rfl (.slice none 0 0) (rfl) ?_
    refine nr ?_; intro U h; simp only [z0, z1] at h; subst h
    refine wpList_nil ?_
    refine then_n ?_
    refine wp_seq ?_
    refine wp_seq ?_
    refine wp_region_lit ?_
    refine s_val 3 rfl rfl (.slice none 0 0) (rfl) ?_
    refine nr ?_; intro U h; simp only [z0, z1] at h; subst h
    refine s_val 4 rfl rfl (.bool true) (run_binop .eql 44 _ _ _ rfl _ _ _ rfl rfl (by kernel_rfl) (by kernel_rfl)) ?_
    refine nr ?_; intro U h; simp only [z0, z1] at h; subst h
    refine wpList_nil ?_
    refine then_n ?_
    refine wp_cond_true rfl ?_
    refine wp_seq ?_
    refine wp_region_lit ?_
    refine s_val 2 rfl rfl (.slice none 0 0) (rfl) ?_
    refine nr ?_; intro U h; simp only [z0, z1] at h; subst h
    refine wpList_nil ?_
    refine then_n ?_
    refine wp_ret ?_
    refine then_r ?_
    refine bodyPost_ret (results_tmp Try.results53 _ _ _) rfl ?_
    exact ⟨none, 0, rfl, GG, OB.nil _ _ _ _⟩
  | some ad =>
    refine s_enter Try.func53 rfl Try.ntmps53 [.slice (some ad) l.length cap] [.slice (some ad) l.length cap, undef, undef, undef, undef, undef, undef, undef] rfl ?_
    have GG := Gro.refl w
    refine wp_seq ?_
    refine wp_region_lit ?_
    refine s_val 2 rfl rfl (.slice none 0 0) (rfl) ?_
    refine nr ?_; intro U h; simp only [z0, z1] at h; subst h
    refine wpList_nil ?_
    refine then_n ?_
    refine wp_seq ?_
    refine wp_seq ?_
    refine wp_region_lit ?_
    refine s_val 3 rfl rfl (.slice (some ad) l.length cap) (rfl) ?_
    refine nr ?_; intro U h; simp only [z0, z1] at h; subst h
    refine s_val 4 rfl rfl (.bool false) (run_binop .eql 44 _ _ _ rfl _ _ _ rfl rfl (by kernel_rfl) (by kernel_rfl)) ?_
    refine nr ?_; intro U h; simp only [z0, z1] at h; subst h
    refine wpList_nil ?_
    refine then_n ?_
    refine wp_cond_false rfl ?_
    refine wp_skip ?_
    refine then_n ?_
    refine wp_seq ?_
    refine wp_region_lit ?_
    refine s_none0 5 rfl rfl rfl ?_
    intro w1 q1 G eq1 HO
    have bq := size_base GG eq1
    replace HC := HC.gro G
    replace GG := GG.trans G
    clear G
    refine nr ?_; intro U h; simp only [z0, z1] at h; subst h
    refine s_val 6 rfl rfl (.slice (some ad) l.length cap) (rfl) ?_
    refine nr ?_; intro U h; simp only [z0, z1] at h; subst h
    refine s_app bT 7 rfl rfl _ _ rfl (l := []) rfl HO rfl HC (by simp only [List.length_nil]; omega) (by decide) (Nat.le_of_lt (HO.ge _ rfl).2) ?_
    intro ao2 cap2 w2 HO2 BB
    replace GG := below_gro GG BB bq
    rw [List.nil_append] at HO2 ⊢
    refine nr ?_; intro U h; simp only [z0, z1] at h; subst h
    refine s_val 2 rfl rfl (.slice ao2 l.length cap2) (rfl) ?_
    refine nr ?_; intro U h; simp only [z0, z1] at h; subst h
    refine wpList_nil ?_
    refine then_n ?_
    refine wp_ret ?_
    refine bodyPost_ret (results_tmp Try.results53 _ _ _) rfl ?_
    exact ⟨ao2, cap2, rfl, GG, HO2.mono bq⟩
set_option maxRecDepth 100000 in
set_option maxHeartbeats 4000000 in
theorem apart_any (x : IM) (w : World) (HX : NC w .u8 x.ao x.cap x.val) (hb : x.val.length ≤ 140737488355000) : Calls Try.prog 42 #[.agg (itA x)] w (fun e w' => ∃ ao cap, e = .returned (.agg (itA (x.re ao cap))) ∧ Gro w w' ∧ OB w' 5 .u8 w.heap.size ao cap x.val) := by
  refine s_enter Try.func42 rfl Try.ntmps42 [.agg (itA x)] [.agg (itA x), undef, undef, undef, undef, undef, undef, undef] rfl ?_
  have GG := Gro.refl w
  refine wp_seq ?_
  refine wp_region_lit ?_
  refine s_box 1 rfl rfl 46 _ rfl _ rfl (itA x) rfl ?_
  intro w1 g1 G eg1 kg1
  have bg1 := size_base GG eg1
  have dHXg1 := HX.ne eg1
  replace HX := HX.gro G
  replace GG := GG.trans G
  clear G
  clear eg1
  refine nr ?_; intro U h; simp only [z0, z1] at h; subst h
  refine s_alloc 2 rfl rfl 46 rfl _ zeroIt (itA zM) rfl ?_
  intro w2 g2 G eg2 kg2
  have bg2 := size_base GG eg2
  have dg1g2 := lt_new kg1 eg2
  have dHXg2 := HX.ne eg2
  replace kg1 := G.has kg1
  replace HX := HX.gro G
  replace GG := GG.trans G
  clear G
  clear eg2
  refine nr ?_; intro U h; simp only [z0, z1] at h; subst h
  refine wpList_nil ?_
  refine then_n ?_
  refine wp_seq ?_
  refine wp_region_lit ?_
  refine s_val 3 rfl rfl (.pointer (some ⟨g1, 33, none⟩)) (run_fld 46 _ 2 rfl g1 0 rfl 33 (by kernel_rfl)) ?_
  refine nr ?_; intro U h; simp only [z0, z1] at h; subst h
  refine s_val 4 rfl rfl (.slice x.ao x.val.length x.cap) (ldItr _ rfl g1 rfl (kg1)) ?_
  refine nr ?_; intro U h; simp only [z0, z1] at h; subst h
  refine s_callx 5 rfl rfl _ 53 Try.call53 rfl rfl _ rfl [.slice x.ao x.val.length x.cap] rfl (clone_any x.ao x.cap x.val _ HX hb) (by rintro _ _ ⟨_, _, he, _, _⟩; exact ⟨_, he⟩) ?_
  have lzg1 := lt_of_heap kg1
  have lzg2 := lt_of_heap kg2
  rintro v w3 ⟨ao1, cap1, he, G, HO1⟩
  cases he
  have dHO1g1 := HO1.neB lzg1
  have dHO1g2 := HO1.neB lzg2
  replace HO1 := HO1.mono GG.size
  replace kg1 := G.has kg1
  replace kg2 := G.has kg2
  replace HX := HX.gro G
  replace GG := GG.trans G
  clear G
  refine nr ?_; intro U h; simp only [z0, z1] at h; subst h
  refine s_val 6 rfl rfl (.pointer (some ⟨g1, 33, none⟩)) (run_fld 46 _ 2 rfl g1 0 rfl 33 (by kernel_rfl)) ?_
  refine nr ?_; intro U h; simp only [z0, z1] at h; subst h
  refine s_store rfl rfl 44 _ _ rfl g1 33 rfl (.slice ao1 x.val.length cap1) rfl 46 _ kg1 #[.slice ao1 x.val.length cap1] rfl siBy (by rw [itA_size]; exact Nat.le_refl _) (sl_one _ _ _) (itA (x.re ao1 cap1)) (spl_val x _ _) ?_
  intro w4 St
  replace kg2 := St.has (by omega) kg2
  replace HX := HX.st St dHXg1
  replace HO1 := HO1.st St dHO1g1
  replace GG := GG.store St bg1
  replace kg1 := St.new
  clear St
  refine wpList_nil ?_
  refine then_n ?_
  refine wp_seq ?_
  refine wp_region_lit ?_
  refine s_val 7 rfl rfl (.agg (itA (x.re ao1 cap1))) (ldIt0 _ rfl g1 rfl (kg1)) ?_
  refine nr ?_; intro U h; simp only [z0, z1] at h; subst h
  refine s_store rfl rfl 46 _ _ rfl g2 0 rfl (.agg (itA (x.re ao1 cap1))) rfl 46 _ kg2 (itA (x.re ao1 cap1)) rfl (siIt' _) (itA_fit _ _) (itA_one _) (itA (x.re ao1 cap1)) (splice_whole _ _ (itA_sz _ _)) ?_
  intro w5 St
  replace kg1 := St.has (by omega) kg1
  replace HX := HX.st St dHXg2
  replace HO1 := HO1.st St dHO1g2
  replace GG := GG.store St bg2
  replace kg2 := St.new
  clear St
  refine wpList_nil ?_
  refine then_n ?_
  refine wp_ret ?_
  refine bodyPost_ret (results_cell_row Try.results42 _ _ g2 46 _ (0, 0) _ rfl kg2 Try.underlying46 rfl (siIt' _)) rfl ?_
  exact ⟨_, _, rfl, GG, HO1⟩
end Go.Proofs.Ytjahegiopigblaa
