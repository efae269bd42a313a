/- All items; the document's Same. -/
import Derived.Test.YtgfnjekpafempabBV5
import Derived.Test.YtgfnjekpafempabBV10
import Derived.Test.YtgfnjekpafempabBV7
namespace Go.Proofs.Ytgfnjekpafempab
open Go.RowKit
/-- A row of items whose values are read, each a new one of its own. -/
def NCs (w : World) (l : List IM) : Prop := ∀ x ∈ l, NC w .u8 x.ao x.cap x.val
theorem NCs.gro {w w' : World} {l : List IM} (h : NCs w l) (G : Gro w w') : NCs w' l := fun x hx => (h x hx).gro G
section
variable {w w' : World} {g B : Nat} {l : List IM} {x : Obj}
def NCn (l : List IM) (g : Nat) : Prop := ∀ x ∈ l, NE x.ao x.val.length g
theorem NCs.ne (h : NCs w l) (e : w.heap.size = g) : NCn l g := fun x hx => (h x hx).ne e
theorem NCs.neG (h : NCs w l) (c : w.heap.size ≤ g) : NCn l g := fun x hx => (h x hx).neG c
theorem NCs.st (h : NCs w l) (S : Stored w w' g x) (hn : NCn l g) : NCs w' l := fun y hy => (h y hy).st S (hn y hy)
theorem NCs.at (h : NCs w l) {j : Nat} (hj : j < l.length) : NC w .u8 (l.getD j zM).ao (l.getD j zM).cap (l.getD j zM).val := h _ (by rw [List.getD_eq_getElem?_getD, List.getElem?_eq_getElem hj]; exact List.getElem_mem hj)
theorem NCs.gros {S : List Nat} (h : NCs w l) (G : GroS S w w') (hs : ∀ x ∈ l, ∀ ad, x.ao = some ad → 0 < x.val.length → ad.block ∉ S) : NCs w' l := fun x hx => G.nc (h x hx) (hs x hx)
theorem NCs.perm {m : List IM} (h : NCs w l) (p : l.Perm m) : NCs w m := fun x hx => h x (p.mem_iff.2 hx)
end
theorem Below.gro {B : Nat} {a b c : World} (h : Below B a b) (k : Gro b c) (hB : B ≤ a.heap.size) : Below B a c := Below.trans h (k.mono (Nat.le_trans hB h.size))
/-- Items whose values lie in rows of one's own. -/
def OBs (w : World) (B : Nat) (l : List IM) : Prop := ∀ x ∈ l, OB w 5 .u8 B x.ao x.cap x.val
section
variable {w w' : World} {g B : Nat} {l : List IM} {x : Obj}
def NEs (l : List IM) (g : Nat) : Prop := ∀ x ∈ l, NEo x.ao g
theorem OBs.gro (h : OBs w B l) (G : Gro w w') : OBs w' B l := fun x hx => (h x hx).gro G
theorem OBs.ne (h : OBs w B l) (e : w.heap.size = g) : NEs l g := fun x hx => (h x hx).ne e
theorem OBs.neG (h : OBs w B l) (c : w.heap.size ≤ g) : NEs l g := fun x hx => (h x hx).neG c
theorem OBs.st (h : OBs w B l) (S : Stored w w' g x) (hn : NEs l g) : OBs w' B l := fun y hy => (h y hy).st S (hn y hy)
theorem OBs.mono {C : Nat} (h : OBs w B l) (hB : C ≤ B) : OBs w C l := fun x hx => (h x hx).mono hB
theorem OBs.nc (h : OBs w B l) : NCs w l := fun x hx => (h x hx).nc
theorem OBs.perm {m : List IM} (h : OBs w B l) (p : l.Perm m) : OBs w B m := fun x hx => h x (p.mem_iff.2 hx)
/-- Blocks that hold no bytes may change. -/
theorem OBs.gros {S : List Nat} (h : OBs w B l) (G : GroS S w w') (hs : ∀ k ∈ S, ∀ c, w.heap[k]? ≠ some (.cells c 5 (0, 0))) : OBs w' B l := fun x hx => (h x hx).gros G fun ad ha hm => by
  obtain ⟨cur, hc⟩ := (h x hx).blk5 ha
  exact hs _ hm _ hc
theorem OBs.nil (w : World) (B : Nat) : OBs w B [] := fun _ h => by cases h
theorem RgMM.gros {κ ε : Type} {kv : κ → Value} {ok : κ → Prop} {ev : ε → Value} {b r : Nat} {L S : List (κ × ε)} {U : List Nat} (h : RgMM kv ok ev w b r L S) (G : GroS U w w') (hb : b ∉ U) (hr : r ∉ U) : RgMM kv ok ev w' b r L S := by
  obtain ⟨Y, c, Z, seen, q, h2, h3, h4, h5, h6⟩ := h
  exact ⟨Y, c, Z, seen, ⟨G.has q.at_ hb, q.perm, q.lt, q.nd, q.all, q.kn⟩, G.has h2 hr, h3, h4, h5, h6⟩
theorem RgMM.it {κ ε : Type} {kv : κ → Value} {ok : κ → Prop} {ev : ε → Value} {b r : Nat} {L S : List (κ × ε)} (h : RgMM kv ok ev w b r L S) : ∀ c t f, w.heap[r]? ≠ some (.cells c t f) := fun c t f e => by
  obtain ⟨Y, c', Z, seen, q, h2, h3, h4, h5, h6⟩ := h
  rw [h2] at e
  cases e
end
set_option maxRecDepth 100000 in
set_option maxHeartbeats 4000000 in
theorem all_nil (w : World) : Calls Try.prog 10 #[.pointer none] w (fun e w' => e = .returned (.slice none 0 0) ∧ Gro w w') := by
  refine s_enter Try.func10 rfl Try.ntmps10 [.pointer none] [.pointer none, undef, undef, undef, undef, undef, undef, undef, undef, undef, undef, undef, undef, undef, undef, undef, undef, undef, undef, undef, undef, undef, undef, undef, undef, undef, undef, undef, undef, undef, undef] rfl ?_
  have GG := Gro.refl w
  refine wp_seq ?_
  refine wp_region_lit ?_
  refine s_val 2 rfl rfl (.slice none 0 0) (rfl) ?_
  refine nr ?_; intro U h; simp only [z0, z1] at h; subst h
  refine wpList_nil ?_
  refine then_n ?_
  refine wp_seq ?_
  refine wp_seq ?_
  refine wp_region_lit ?_
  refine s_val 6 rfl rfl (.pointer none) (rfl) ?_
  refine nr ?_; intro U h; simp only [z0, z1] at h; subst h
  refine s_val 7 rfl rfl (.bool true) (run_eqnn 29 _ _ _ rfl rfl rfl Try.underlying29 _) ?_
  refine nr ?_; intro U h; simp only [z0, z1] at h; subst h
  refine wpList_nil ?_
  refine then_n ?_
  refine wp_cond_true rfl ?_
  refine wp_seq ?_
  refine wp_region_lit ?_
  refine s_val 2 rfl rfl (.slice none 0 0) (rfl) ?_
  refine nr ?_; intro U h; simp only [z0, z1] at h; subst h
  refine wpList_nil ?_
  refine then_n ?_
  refine wp_ret ?_
  refine then_r ?_
  refine bodyPost_ret (results_tmp Try.results10 _ _ _) rfl ?_
  exact ⟨rfl, GG⟩
end Go.Proofs.Ytgfnjekpafempab
