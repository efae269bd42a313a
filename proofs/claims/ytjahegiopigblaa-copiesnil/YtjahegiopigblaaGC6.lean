/- The program's book: Mark, keeps, Due. -/
import Derived.Test.YtjahegiopigblaaGC3
namespace Go.Proofs.Ytjahegiopigblaa
open Go.RowKit
/-- A row of items whose values are read. -/
def NCs (w : World) (l : List IM) : Prop := ∀ x ∈ l, NC w .u8 x.ao x.cap x.val
theorem NCs.gro {w w' : World} {l : List IM} (h : NCs w l) (G : Gro w w') : NCs w' l := fun x hx => (h x hx).gro G
theorem NCs.at {w : World} {l : List IM} (h : NCs w l) {j : Nat} (hj : j < l.length) : NC w .u8 (l.getD j zM).ao (l.getD j zM).cap (l.getD j zM).val := h _ (by rw [List.getD_eq_getElem?_getD, List.getElem?_eq_getElem hj]; exact List.getElem_mem hj)
def okV (L : List ((Nat × Nat) × VM)) : Prop := ∀ x ∈ L, x.2.ok
/-- What is noted behind a mark. -/
def mkB (L : List ((Nat × Nat) × VM)) (p : Nat × Nat) (v : VM) : List ((Nat × Nat) × VM) := if eqV v zV = true then delM L p else putM L p v
theorem okV.mk {L : List ((Nat × Nat) × VM)} (h : okV L) (p : Nat × Nat) {v : VM} (hv : v.ok) : okV (mkB L p v) := fun x hx => by
  unfold mkB at hx
  split at hx
  · exact h x (List.mem_filter.1 hx).1
  · rcases List.mem_cons.1 hx with rfl | hx
    · exact hv
    · exact h x (List.mem_filter.1 hx).1
/-- Items for friends whose values lie in rows of one's own. -/
def OBd (w : World) (B : Nat) (Z : List DM) : Prop := ∀ d ∈ Z, OB w 5 .u8 B d.it.ao d.it.cap d.it.val
section
variable {w w' : World} {g B : Nat} {Z : List DM} {x : Obj}
def NEd (Z : List DM) (g : Nat) : Prop := ∀ d ∈ Z, NEo d.it.ao g
theorem OBd.gro (h : OBd w B Z) (G : Gro w w') : OBd w' B Z := fun x hx => (h x hx).gro G
theorem OBd.ne (h : OBd w B Z) (e : w.heap.size = g) : NEd Z g := fun x hx => (h x hx).ne e
theorem OBd.st (h : OBd w B Z) (S : Stored w w' g x) (hn : NEd Z g) : OBd w' B Z := fun y hy => (h y hy).st S (hn y hy)
end
set_option maxRecDepth 100000 in
set_option maxHeartbeats 4000000 in
theorem mark_nil (i k : Nat) (v : VM) (w : World) : Calls Try.prog 19 #[.pointer none, .agg (idA i), .agg (idA k), .agg (veA v)] w (fun e w' => e = .returned (.tuple #[]) ∧ Gro w w') := by
  refine s_enter Try.func19 rfl Try.ntmps19 [.pointer none, .agg (idA i), .agg (idA k), .agg (veA v)] [.pointer none, .agg (idA i), .agg (idA k), .agg (veA v), undef, undef, undef, undef, undef, undef, undef, undef, undef, undef, undef, undef, undef, undef, undef, undef, undef, undef, undef, undef, undef, undef, undef, undef] rfl ?_
  have GG := Gro.refl w
  refine wp_seq ?_
  refine wp_region_lit ?_
  refine s_box 5 rfl rfl 23 _ rfl _ rfl (idA i) rfl ?_
  intro w1 g1 G eg1 kg1
  have bg1 := size_base GG eg1
  replace GG := GG.trans G
  clear G
  clear eg1
  refine nr ?_; intro U h; simp only [z0, z1] at h; subst h
  refine s_box 6 rfl rfl 23 _ rfl _ rfl (idA k) rfl ?_
  intro w2 g2 G eg2 kg2
  have bg2 := size_base GG eg2
  replace kg1 := G.has kg1
  replace GG := GG.trans G
  clear G
  clear eg2
  refine nr ?_; intro U h; simp only [z0, z1] at h; subst h
  refine s_box 7 rfl rfl 39 _ rfl _ rfl (veA v) rfl ?_
  intro w3 g3 G eg3 kg3
  have bg3 := size_base GG eg3
  replace kg1 := G.has kg1
  replace kg2 := G.has kg2
  replace GG := GG.trans G
  clear G
  clear eg3
  refine nr ?_; intro U h; simp only [z0, z1] at h; subst h
  refine wpList_nil ?_
  refine then_n ?_
  refine wp_seq ?_
  refine wp_seq ?_
  refine wp_region_lit ?_
  refine s_val 9 rfl rfl (.pointer none) (rfl) ?_
  refine nr ?_; intro U h; simp only [z0, z1] at h; subst h
  refine s_val 10 rfl rfl (.bool true) (run_eqnn 32 _ _ _ rfl rfl rfl Try.underlying32 _) ?_
  refine nr ?_; intro U h; simp only [z0, z1] at h; subst h
  refine wpList_nil ?_
  refine then_n ?_
  refine wp_cond_true rfl ?_
  refine wp_ret ?_
  refine then_r ?_
  refine bodyPost_ret (results_none Try.results19 _ _ _) rfl ?_
  exact ⟨rfl, GG⟩
set_option maxRecDepth 100000 in
set_option maxHeartbeats 4000000 in
theorem due_nil (s : Nat) (ao mo : Option Addr) (cap mc : Nat) (l : List Nat) (its : List IM) (w : World) : Calls Try.prog 23 #[.pointer none, .agg (idA s), .slice ao l.length cap, .slice mo its.length mc] w (fun e w' => e = .returned (.slice none 0 0) ∧ Gro w w') := by
  refine s_enter Try.func23 rfl Try.ntmps23 [.pointer none, .agg (idA s), .slice ao l.length cap, .slice mo its.length mc] [.pointer none, .agg (idA s), .slice ao l.length cap, .slice mo its.length mc, undef, undef, undef, undef, undef, undef, undef, undef, undef, undef, undef, undef, undef, undef, undef, undef, undef, undef, undef, undef, undef, undef, undef, undef, undef, undef, undef, undef, undef, undef, undef, undef, undef, undef, undef, undef, undef, undef, undef, undef, undef, undef, undef] rfl ?_
  have GG := Gro.refl w
  refine wp_seq ?_
  refine wp_region_lit ?_
  refine s_box 5 rfl rfl 23 _ rfl _ rfl (idA s) rfl ?_
  intro w1 g1 G eg1 kg1
  have bg1 := size_base GG eg1
  replace GG := GG.trans G
  clear G
  clear eg1
  refine nr ?_; intro U h; simp only [z0, z1] at h; subst h
  refine s_val 8 rfl rfl (.slice none 0 0) (rfl) ?_
  refine nr ?_; intro U h; simp only [z0, z1] at h; subst h
  refine wpList_nil ?_
  refine then_n ?_
  refine wp_seq ?_
  refine wp_seq ?_
  refine wp_region_lit ?_
  refine s_val 14 rfl rfl (.pointer none) (rfl) ?_
  refine nr ?_; intro U h; simp only [z0, z1] at h; subst h
  refine s_val 15 rfl rfl (.bool true) (run_eqnn 32 _ _ _ rfl rfl rfl Try.underlying32 _) ?_
  refine nr ?_; intro U h; simp only [z0, z1] at h; subst h
  refine wpList_nil ?_
  refine then_n ?_
  refine wp_cond_true rfl ?_
  refine wp_seq ?_
  refine wp_region_lit ?_
  refine s_val 8 rfl rfl (.slice none 0 0) (rfl) ?_
  refine nr ?_; intro U h; simp only [z0, z1] at h; subst h
  refine wpList_nil ?_
  refine then_n ?_
  refine wp_ret ?_
  refine then_r ?_
  refine bodyPost_ret (results_tmp Try.results23 _ _ _) rfl ?_
  exact ⟨rfl, GG⟩
end Go.Proofs.Ytjahegiopigblaa
