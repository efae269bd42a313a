/- Frames: every array of 16 bytes is a number below 2^128; arguments read again behind a call that leaves memory as it was. -/
import Derived.Test.YtjahegiopigblaaRows
import Derived.Test.YtjahegiopigblaaHB4
import Derived.ProofKit
import Derived.OpenShut
import Derived.SizedLaws
import Derived.JoinedCond
import Derived.Test.YtjahegiopigblaaHQ0
namespace Go.Proofs.Ytjahegiopigblaa
open Go.ChangeShapes Go.WideShapes Go.ChangeAt Go.RowKit
theorem Try.own : ownKnob Try.prog.godebug = none := by kernel_rfl
theorem Try.laidOut : laidOutB Try.prog = true := by kernel_rfl
theorem cells23 : Try.prog.cellsOf 23 = 16 := by kernel_rfl
theorem cells5 : Try.prog.cellsOf 5 = 1 := by kernel_rfl
theorem num_of (f : Nat → Nat) (hf : ∀ i, f i < 256) : ∀ k, ∃ n, n < 256 ^ k ∧ ∀ i, i < k → n / 256 ^ (k - 1 - i) % 256 = f i := by
  intro k
  induction k with
  | zero => exact ⟨0, by decide, fun i hi => by omega⟩
  | succ k ih =>
    obtain ⟨n, h1, h2⟩ := ih
    have hk := hf k
    refine ⟨n * 256 + f k, ?_, fun i hi => ?_⟩
    · rw [Nat.pow_succ]; omega
    · by_cases e : i = k
      · subst e
        have : i + 1 - 1 - i = 0 := by omega
        rw [this, Nat.pow_zero, Nat.div_one]
        omega
      · have h3 := h2 i (by omega)
        have : k + 1 - 1 - i = (k - 1 - i) + 1 := by omega
        rw [this, Nat.pow_succ, Nat.mul_comm (256 ^ (k - 1 - i)) 256, ← Nat.div_div_eq_div_mul]
        have : (n * 256 + f k) / 256 = n := by omega
        rw [this]
        exact h3
theorem num_of16 (f : Nat → Nat) (hf : ∀ i, f i < 256) : ∃ n, n < top ∧ ∀ i, i < 16 → byt n i = f i := by
  obtain ⟨n, h1, h2⟩ := num_of f hf 16
  exact ⟨n, h1, fun i hi => h2 i hi⟩
/-- Sixteen bytes are an identity. -/
theorem id_of_cells (cs : Array Value) (hs : cs.size = 16) (h : ∀ i, i < 16 → ∃ z : Int, cs[i]? = some (.int .u8 z) ∧ 0 ≤ z ∧ z ≤ 255) : ∃ n, n < top ∧ cs = idA n := by
  have h' : ∀ i, ∃ m : Nat, m < 256 ∧ (i < 16 → cs[i]? = some (.int .u8 (m : Int))) := by
    intro i
    by_cases hi : i < 16
    · obtain ⟨z, h1, h2, h3⟩ := h i hi
      exact ⟨z.toNat, by omega, fun _ => by rw [h1, Int.toNat_of_nonneg h2]⟩
    · exact ⟨0, by omega, fun h => absurd h hi⟩
  obtain ⟨f, hf⟩ := Classical.axiomOfChoice h'
  obtain ⟨n, hn, hb⟩ := num_of16 f (fun i => (hf i).1)
  refine ⟨n, hn, ?_⟩
  apply Array.ext_getElem?
  intro i
  by_cases hi : i < 16
  · rw [idA_get n i hi, hb i hi]; exact (hf i).2 hi
  · rw [Array.getElem?_eq_none (by omega), Array.getElem?_eq_none (by rw [idA_size]; omega)]
section
variable {H : Type} {enc : TypeId × Value → H} {w : World} {base : Nat} {spare : Nat → Bool} {held : Bool}
theorem id_of_trod {fuel : Nat} {l : List Value} {x : DataW H × List MemPlace} (h : DataW.trod enc Try.prog w base spare held fuel 23 l = some x) : ∃ n, n < top ∧ l = (idA n).toList := by
  obtain ⟨xs, m, _, _, hl, hx, he⟩ := DataW.trod_array Try.underlying23 h
  rw [cells23] at hl
  have := id_of_cells l.toArray (by simpa using hl) fun i hi => by
    have h1 := he i hi
    rw [List.getElem?_eq_getElem (by omega)] at h1
    obtain ⟨n, h2, _, h3⟩ := DataW.trod_int Try.underlying5 h1
    rw [cells5, Nat.mul_one] at h2
    refine ⟨n, ?_, ?_⟩
    · have h4 : (List.take 1 (List.drop i l))[0]? = some (.int .u8 n) := by rw [h2]; rfl
      rw [List.getElem?_take] at h4
      simpa using h4
    · have e1 : IntKind.u8.min = 0 := rfl
      have e2 : IntKind.u8.max = 255 := rfl
      simpa [Lit.wf, e1, e2] using h3
  obtain ⟨n, hn, hh⟩ := this
  exact ⟨n, hn, by rw [← hh]⟩
end
end Go.Proofs.Ytjahegiopigblaa
namespace Go.Proofs.Ytjahegiopigblaa
open Go.ChangeShapes Go.WideShapes Go.ChangeAt Go.RowKit
theorem getD_mem {α : Type} (l : List α) (d : α) (k : Nat) (h : k < l.length) : l.getD k d ∈ l := by
  rw [List.getD_eq_getElem?_getD, List.getElem?_eq_getElem h]
  exact List.getElem_mem h
theorem bytes5 : Try.prog.bytesOf 5 = 1 := by kernel_rfl
section
variable {H : Type} {enc : TypeId × Value → H} {w : World} {base : Nat} {spare : Nat → Bool} {held : Bool}
/-- How the reading of a row of numbers is as long as the row. -/
def asLong (d : DataW H) (l : List Nat) : Prop := (d = .nil ∧ l = []) ∨ ∃ el sp, d = .slice el sp ∧ el.length = l.length
theorem open_row {t e : TypeId} {k : IntKind} {b : Nat} (T : NumT Try.prog t e k b) (hc : Try.prog.cellsOf e = 1) (hk : k.min = 0) {fuel : Nat} {cs : List Value} {x : DataW H × List MemPlace} (hd : DataW.trod enc Try.prog w base spare held fuel t cs = some x) :
    ∃ ao cap l, cs = [.slice ao (List.length l) cap] ∧ NC w k ao cap l ∧ cap ≤ maxLen ∧ asLong x.1 l := by
  rcases open_ints T.und T.ue hc hd with ⟨hcs, hx⟩ | ⟨a, len, cap, zs, hcs, _, hl, hm, hz, hx, hcell, hwz⟩
  · exact ⟨none, 0, [], hcs, NC.nil _ _, by decide, .inl ⟨by rw [hx], rfl⟩⟩
  · have hle : len ≤ zs.length := by rw [hz]; split <;> omega
    have hlen : ((zs.take len).map Int.toNat).length = len := by simp; omega
    have hb : ∀ z ∈ zs, 0 ≤ z ∧ z ≤ k.max := fun z hz => by
      have := hwz z hz
      simp [Lit.wf, hk] at this
      exact this
    refine ⟨some a, cap, (zs.take len).map Int.toNat, by rw [hlen]; exact hcs, ⟨by omega, fun h => by (cases h), fun ad ha j hj => ?_, fun x hx => ?_⟩, hm, .inr ⟨_, _, by rw [hx], by rw [hlen]; simp [lits]; omega⟩⟩
    · cases ha
      rw [hlen] at hj
      rw [hcell j (by omega)]
      have h1 : zs.getD j 0 ∈ zs := getD_mem zs 0 j (by omega)
      have h2 := hb _ h1
      have h3 : ((zs.take len).map Int.toNat).getD j 0 = (zs.getD j 0).toNat := by
        rw [List.getD_eq_getElem?_getD, List.getElem?_map, List.getElem?_take, if_pos hj, List.getD_eq_getElem?_getD, List.getElem?_eq_getElem (by omega)]
        rfl
      rw [h3, Int.toNat_of_nonneg h2.1]
    · obtain ⟨z, hz1, rfl⟩ := List.mem_map.1 hx
      have := hb z (List.mem_of_mem_take hz1)
      omega
end
end Go.Proofs.Ytjahegiopigblaa
namespace Go.Proofs.Ytjahegiopigblaa
open Go.ChangeShapes Go.WideShapes Go.ChangeAt Go.RowKit
structure IC (w : World) (ao : Option Addr) (cap : Nat) (xs : List Int) : Prop where
  fit : xs.length ≤ cap
  bare : ao = none → cap = 0
  cell : ∀ ad, ao = some ad → ∀ j, j < xs.length → w.cell? (ad.add j) = some (.int .i64 (xs.getD j 0))
theorem IC.at {w : World} {ao : Option Addr} {cap : Nat} {xs : List Int} (h : IC w ao cap xs) {j : Nat} (hj : j < xs.length) : ∃ ad, ao = some ad ∧ w.cell? (ad.add j) = some (.int .i64 (xs.getD j 0)) := by
  cases hao : ao with
  | none => have := h.bare hao; have := h.fit; omega
  | some ad => exact ⟨ad, rfl, h.cell ad hao j hj⟩
section
variable {H : Type} {enc : TypeId × Value → H} {w : World} {base : Nat} {spare : Nat → Bool} {held : Bool}
theorem weights_all {P : Program} {e : TypeId} : ∀ (l : List (DataW H)) (d : DataW H), d ∈ l → ∀ y ∈ d.weights P e, y ∈ DataW.weightsAll P e l
  | [], _, h, _, _ => by cases h
  | x :: l, d, h, y, hy => by
    rw [DataW.weightsAll, List.mem_append]
    rcases List.mem_cons.1 h with rfl | h
    · exact .inl hy
    · exact .inr (weights_all l d h y hy)
end
end Go.Proofs.Ytjahegiopigblaa
