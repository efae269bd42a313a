/- The document's end: Tick; each call, told of the end alone. Rows of frames compared; frames that fit. -/
import Derived.Test.YtlfanecaglbomaaEH11
import Derived.Test.YtlfanecaglbomaaEFr10
namespace Go.Proofs.Ytlfanecaglbomaa
open Go.RowKit
theorem LF.no5b {w : World} {B : Nat} {ao : Option Addr} {cap : Nat} {fs : List (PF × Fr)} (h : LF w B ao cap fs) : No5 w (blk ao) := fun k hk => by
  obtain ⟨_, cur, hc⟩ := h.row.at k hk
  exact ⟨_, _, hc, by decide⟩
theorem xc_fr {w : World} {g : Nat} {f : Fr} (hg : w.heap[g]? = some (.cells (frA f) 46 (0, 0))) : XC w 95 (some ⟨g, 0, none⟩) 1 1 (frA f).toList := by
  refine ⟨zD f, Nat.le_refl _, fun h => by (cases h), fun ad ha j v hv => ?_, JX f⟩
  cases ha
  rw [zA, Nat.zero_add, cell_of_row w g j _ 46 _ hg]
  simpa using hv
theorem LF.snoc {w w' : World} {B : Nat} {ao ao2 : Option Addr} {cap cap2 : Nat} {fs : List (PF × Fr)} {m : PF} {f : Fr} (h : LF w B ao cap fs) (hf : FV w m f) (G : GroS (blk ao) w w') (hr : OY w' 46 95 B ao2 cap2 (fs.length + 1) (cellsF fs ++ (frA f).toList)) : LF w' B ao2 cap2 (fs ++ [(m, f)]) := by
  refine ⟨?_, fun x hx => ?_⟩
  · have e : cellsF (fs ++ [(m, f)]) = cellsF fs ++ (frA f).toList := by rw [zY]; simp [cellsF]
    rw [e, List.length_append]
    exact hr
  · rcases List.mem_append.1 hx with hx | hx
    · exact (h.fv x hx).no5 G h.no5b
    · cases List.mem_singleton.1 hx
      exact hf.no5 G h.no5b
section
variable {w w' : World} {r : Nat} {id : Nat → Nat} {x : ES} {mu tb : List Nat}
theorem DX.gro (H : DX w r id x mu tb) (G : Gro w w') : DX w' r id x mu tb := by
  obtain ⟨B, so, sc, u, h, h1⟩ := H
  exact ⟨B, so, sc, u, h.gro G, h1⟩
theorem DX.no46 (H : DX w r id x mu tb) : No46 w mu := by
  obtain ⟨B, so, sc, u, h, _, _, rfl, _⟩ := H
  intro g hg
  rcases List.mem_cons.1 hg with rfl | hg
  · exact ⟨_, _, h.box, by decide, by decide⟩
  · obtain ⟨_, cur, hc⟩ := h.row.at g hg
    exact ⟨_, _, hc, by decide, by decide⟩
theorem DX.own (H : DX w r id x mu tb) : No5 w mu := H.no46.no5
theorem DX.txt (H : DX w r id x mu tb) : ∀ g ∈ tb, ∃ cs, w.heap[g]? = some (.cells cs 5 (0, 0)) := by
  obtain ⟨B, so, sc, u, h, _, _, _, rfl⟩ := H
  intro g hg
  obtain ⟨y, hy, hg⟩ := List.mem_flatMap.1 hg
  obtain ⟨ad, ha, rfl⟩ := mem_blk.1 hg
  exact (h.fr y hy).blk5 ha
theorem DX.gros0 (H : DX w r id x mu tb) {S : List Nat} (G : GroS S w w') (hS : ∀ g ∈ S, g ∉ mu) (h5 : ∀ g ∈ S, g ∉ tb) : DX w' r id x mu tb := by
  obtain ⟨B, so, sc, u, h, h1, h2, rfl, rfl⟩ := H
  exact ⟨B, so, sc, u, h.gros G (fun h => hS _ h List.mem_cons_self) (fun k hk h => hS _ h (List.mem_cons_of_mem _ hk)) (fun y hy ad ha h => h5 _ h (List.mem_flatMap.2 ⟨y, hy, mem_blk.2 ⟨ad, ha, rfl⟩⟩)), h1, h2, rfl, rfl⟩
theorem DX.gros (H : DX w r id x mu tb) {S : List Nat} (G : GroS S w w') (hS : ∀ g ∈ S, g ∉ mu) (h5 : No5 w S) : DX w' r id x mu tb :=
  H.gros0 G hS fun g hg hm => by
    obtain ⟨c, t, h2, h3⟩ := h5 g hg
    obtain ⟨c', h4⟩ := H.txt g hm
    exact jy h2 h4 h3 rfl
theorem DX.not (H : DX w r id x mu tb) {g : Nat} {t' : TypeId} {cs : Array Value} (hg : w.heap[g]? = some (.cells cs t' (0, 0))) (h34 : t' ≠ 34) (h36 : t' ≠ 36) : g ∉ mu := by
  obtain ⟨B, so, sc, u, h, _, _, rfl, _⟩ := H
  exact h.notT hg h34 h36
theorem DX.lt (H : DX w r id x mu tb) : ∀ g ∈ mu, g < w.heap.size := fun g hg => by
  obtain ⟨c, t, h, _⟩ := H.own g hg
  exact jm h
theorem DX.stT (H : DX w r id x mu tb) {g : Nat} {t' : TypeId} (h34 : t' ≠ 34) (h36 : t' ≠ 36) (h5 : t' ≠ 5) {cs : Array Value} {o : Obj} (hg : w.heap[g]? = some (.cells cs t' (0, 0))) (St : Stored w w' g o) : DX w' r id x mu tb :=
  H.gros (S := [g]) ((GroS.refl [g] w).st St (.inr (by simp))) (fun k hk => by cases List.mem_singleton.1 hk; exact H.not hg h34 h36) (jv hg h5)
end
section
variable (w : World) (r : Nat) (id : Nat → Nat) (x : ES) (mu tb : List Nat)
end
end Go.Proofs.Ytlfanecaglbomaa
