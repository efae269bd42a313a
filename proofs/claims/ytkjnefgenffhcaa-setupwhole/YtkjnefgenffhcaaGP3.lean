/- Rows of entries and of calls in memory. -/
import Derived.Test.YtkjnefgenffhcaaGP2
namespace Go.Proofs.Ytkjnefgenffhcaa
open Go.RowKit
section
variable {α : Type} {enc : α → List Value} {sz : Nat}
theorem flx_len (h : ∀ x, (enc x).length = sz) : ∀ l : List α, (l.flatMap enc).length = l.length * sz
  | [] => by simp
  | n :: l => by rw [List.flatMap_cons, List.length_append, h, flx_len h l, List.length_cons, Nat.add_mul, Nat.one_mul, Nat.add_comm]
theorem flx_drop (h : ∀ x, (enc x).length = sz) : ∀ (i : Nat) (l : List α), (l.flatMap enc).drop (i * sz) = (l.drop i).flatMap enc
  | 0, l => by simp
  | i + 1, [] => by simp
  | i + 1, n :: l => by
    rw [List.flatMap_cons, List.drop_succ_cons, ← flx_drop h i l, show (i + 1) * sz = (enc n).length + i * sz by rw [h, Nat.add_mul, Nat.one_mul, Nat.add_comm], List.drop_length_add_append]
theorem flx_take (h : ∀ x, (enc x).length = sz) : ∀ (i : Nat) (l : List α), (l.flatMap enc).take (i * sz) = (l.take i).flatMap enc
  | 0, l => by simp
  | i + 1, [] => by simp
  | i + 1, n :: l => by
    rw [List.flatMap_cons, List.take_succ_cons, List.flatMap_cons, ← flx_take h i l, show (i + 1) * sz = (enc n).length + i * sz by rw [h, Nat.add_mul, Nat.one_mul, Nat.add_comm], List.take_length_add_append]
theorem flx_at (h : ∀ x, (enc x).length = sz) (z : α) (l : List α) (j : Nat) (hj : j < l.length) : (l.flatMap enc).drop (j * sz) = enc (l.getD j z) ++ (l.drop (j + 1)).flatMap enc := by
  rw [flx_drop h, List.drop_eq_getElem_cons hj, List.flatMap_cons]
  simp [List.getD_eq_getElem?_getD, hj]
theorem flx_cell (h : ∀ x, (enc x).length = sz) (z : α) (l : List α) (j : Nat) (hj : j < l.length) (q : Nat) (hq : q < sz) : (l.flatMap enc)[j * sz + q]? = (enc (l.getD j z))[q]? := by
  have := flx_at h z l j hj
  rw [← List.getElem?_drop, this, List.getElem?_append_left (by rw [h]; exact hq)]
end
def flE (l : List En) : List Value := l.flatMap enL
theorem flE_len (l : List En) : (flE l).length = l.length * 51 := flx_len enL_len l
theorem flE_one {l : List En} : ∀ v ∈ flE l, v.oneCell' = true := fun v hv => by
  obtain ⟨n, _, hn⟩ := List.mem_flatMap.1 hv
  exact enL_one n v hn
def flO (l : List Oq) : List Value := l.flatMap opL
section
variable {P : Program} {o : Oper} {A : Act} {w : World} {sz cap n : Nat} {cs : List Value} {ad : Addr}
theorem run_ldXc (ty : TypeId) (hu : (isAgg ty).run P w = .ok false w) (x : Operand) (ho : o.op = .load ty x) (q : Nat) (hx : A.eval x = .pointer (some (ad.add q))) (h : XC w sz (some ad) cap n cs) (v : Value) (hv : cs[q]? = some v) :
    (execOp A.eval o).run P w = .ok (.value v) w := by
  have hc := h.cell ad rfl q v hv
  unfold execOp
  simp only [ho, hx]
  simp [Instr.loadAt, Instr.sureAddr, Sem.run_bind, loadVar, hu, hc, go_sem]
end
/-- A row of entries as it is read. -/
structure RE (w : World) (ao : Option Addr) (cap : Nat) (l : List En) : Prop where
  xc : XC w 51 ao cap l.length (flE l)
  all : AllE l
/-- A row of calls as it is read. -/
structure RQ (w : World) (ao : Option Addr) (cap : Nat) (l : List Oq) : Prop where
  xc : XC w 53 ao cap l.length (flO l)
  all : ∀ o ∈ l, o.ok
section
variable {w w' : World} {ao : Option Addr} {cap : Nat} {l : List En}
theorem RE.gro (h : RE w ao cap l) (G : Gro w w') : RE w' ao cap l := ⟨h.xc.gro G, h.all⟩
theorem RE.below (h : RE w ao cap l) {B : Nat} (G : Below B w w') (hb : ∀ ad, ao = some ad → 0 < (flE l).length → ad.block < B) : RE w' ao cap l := ⟨h.xc.below G hb, h.all⟩
theorem RE.lt (h : RE w ao cap l) : ∀ ad, ao = some ad → 0 < (flE l).length → ad.block < w.heap.size := h.xc.lt
theorem RE.nil (w : World) : RE w none 0 [] := ⟨XC.nil w 51, AllE.nil⟩
theorem RE.fit (h : RE w ao cap l) : l.length ≤ cap := h.xc.fit
theorem RE.gros {S : List Nat} (h : RE w ao cap l) (G : GroS S w w') (hs : ∀ ad, ao = some ad → 0 < (flE l).length → ad.block ∉ S) : RE w' ao cap l :=
  ⟨⟨h.xc.len, h.xc.fit, h.xc.bare, fun ad ha j v hv => by
    have h0 : 0 < (flE l).length := by have := (List.getElem?_eq_some_iff.1 hv).1; omega
    exact (World.cell?_of_block (by rw [add_block]; exact G.old _ (h.lt ad ha h0) (hs ad ha h0))).trans (h.xc.cell ad ha j v hv), h.xc.one⟩, h.all⟩
theorem RE.take (h : RE w ao cap l) (i : Nat) (hi : i ≤ l.length) : RE w ao cap (l.take i) := by
  have := h.xc.take i hi
  rw [flE, flx_take enL_len] at this
  refine ⟨?_, fun x hx => h.all x (List.mem_of_mem_take hx)⟩
  rw [List.length_take, Nat.min_eq_left hi]
  exact this
theorem RE.drop (h : RE w ao cap l) (i : Nat) (hi : i ≤ l.length) : RE w (if cap = i then ao else ao.map (·.add (i * 51))) (cap - i) (l.drop i) := by
  have := h.xc.drop i hi
  rw [flE, flx_drop enL_len] at this
  refine ⟨?_, fun x hx => h.all x (List.mem_of_mem_drop hx)⟩
  rw [List.length_drop]
  exact this
/-- A row that is a whole block. -/
theorem RE.blk {g : Nat} {t : TypeId} {fr : Nat × Nat} (hg : w.heap[g]? = some (.cells (flE l).toArray t fr)) (hl : AllE l) (hc : l.length ≤ cap) : RE w (some ⟨g, 0, none⟩) cap l := by
  refine ⟨⟨flE_len _, hc, fun h => (by cases h), fun ad ha j v hv => ?_, flE_one⟩, hl⟩
  cases ha
  rw [add_at, Nat.zero_add, cell_of_row w g j _ t _ hg]
  simpa using hv
end
section
variable {w w' : World} {ao : Option Addr} {cap : Nat} {l : List Oq}
theorem RQ.gro (h : RQ w ao cap l) (G : Gro w w') : RQ w' ao cap l := ⟨h.xc.gro G, h.all⟩
theorem RQ.below (h : RQ w ao cap l) {B : Nat} (G : Below B w w') (hb : ∀ ad, ao = some ad → 0 < (flO l).length → ad.block < B) : RQ w' ao cap l := ⟨h.xc.below G hb, h.all⟩
theorem RQ.lt (h : RQ w ao cap l) : ∀ ad, ao = some ad → 0 < (flO l).length → ad.block < w.heap.size := h.xc.lt
theorem RQ.at (h : RQ w ao cap l) {j : Nat} (hj : j < l.length) : (l.getD j zO).ok := by
  have : l.getD j zO = l[j] := by simp [List.getD_eq_getElem?_getD, hj]
  rw [this]
  exact h.all _ (List.getElem_mem hj)
end
/-- A row of one's own. -/
structure OE (w : World) (B : Nat) (ao : Option Addr) (cap : Nat) (l : List En) : Prop where
  own : OY w 73 51 B ao cap l.length (flE l)
  all : AllE l
section
variable {w w' : World} {B : Nat} {ao : Option Addr} {cap : Nat} {l : List En}
theorem OE.gro (h : OE w B ao cap l) (G : Gro w w') : OE w' B ao cap l := ⟨h.own.gro G, h.all⟩
theorem OE.nil (w : World) (B : Nat) : OE w B none 0 [] := ⟨OY.nil w 73 51 B, AllE.nil⟩
theorem OE.mono (h : OE w B ao cap l) {B' : Nat} (hB : B' ≤ B) : OE w B' ao cap l := ⟨h.own.mono hB, h.all⟩
theorem OE.gros {S : List Nat} (h : OE w B ao cap l) (G : GroS S w w') (hs : ∀ k ∈ blk ao, k ∉ S) : OE w' B ao cap l := ⟨h.own.gros G hs, h.all⟩
theorem OE.blk {g : Nat} (hg : w.heap[g]? = some (.cells (flE l).toArray 73 (0, 0))) (hl : AllE l) (hB : B ≤ g) (hm : l.length ≤ 1000000) : OE w B (some ⟨g, 0, none⟩) l.length l :=
  ⟨⟨flE_len l, .inr ⟨g, 0, _, rfl, hB, hg, Nat.le_refl _, by unfold maxLen; omega, by simp [flE_len], by simp [← flE_len]⟩, flE_one⟩, hl⟩
end
end Go.Proofs.Ytkjnefgenffhcaa
