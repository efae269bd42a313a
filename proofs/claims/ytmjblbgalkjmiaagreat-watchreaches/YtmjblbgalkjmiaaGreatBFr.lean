/- Frames: every array of 16 bytes is a number below 2^128; arguments read again behind a call that leaves memory as it was. -/
import Derived.Test.YtmjblbgalkjmiaaGreatRows
import Derived.Test.YtmjblbgalkjmiaaGreatBBase
import Derived.ProofKit
import Derived.OpenShut
namespace Go.Proofs.YtmjblbgalkjmiaaGreat
open Go.ChangeShapes Go.WideShapes Go.ChangeAt Go.RowKit
theorem Tryz.own : ownKnob Tryz.prog.godebug = none := by kernel_rfl
theorem Tryz.laidOut : laidOutB Tryz.prog = true := by kernel_rfl
theorem cells25 : Tryz.prog.cellsOf 25 = 16 := by kernel_rfl
theorem cells5 : Tryz.prog.cellsOf 5 = 1 := by kernel_rfl
theorem num_of (f : Nat → Nat) (hf : ∀ i, f i < 256) : ∀ k, ∃ n, n < 256 ^ k ∧ ∀ i, i < k → n / 256 ^ (k - 1 - i) % 256 = f i := by
  intro k
  induction k with
  | zero => exact ⟨0, by decide, fun i hi => by omega⟩
  | succ k ih =>
    obtain ⟨n, h1, h2⟩ := ih
    have hk := hf k
    refine ⟨n * 256 + f k, ?_, fun i hi => ?_⟩
    · rw [Nat.pow_succ]; omega
    · by_cases e : i = k
      · subst e
        have : i + 1 - 1 - i = 0 := by omega
        rw [this, Nat.pow_zero, Nat.div_one]
        omega
      · have h3 := h2 i (by omega)
        have : k + 1 - 1 - i = (k - 1 - i) + 1 := by omega
        rw [this, Nat.pow_succ, Nat.mul_comm (256 ^ (k - 1 - i)) 256, ← Nat.div_div_eq_div_mul]
        have : (n * 256 + f k) / 256 = n := by omega
        rw [this]
        exact h3
theorem num_of16 (f : Nat → Nat) (hf : ∀ i, f i < 256) : ∃ n, n < top ∧ ∀ i, i < 16 → byt n i = f i := by
  obtain ⟨n, h1, h2⟩ := num_of f hf 16
  exact ⟨n, h1, fun i hi => h2 i hi⟩
/-- Sixteen bytes are an identity. -/
theorem id_of_cells (cs : Array Value) (hs : cs.size = 16) (h : ∀ i, i < 16 → ∃ z : Int, cs[i]? = some (.int .u8 z) ∧ 0 ≤ z ∧ z ≤ 255) : ∃ n, n < top ∧ cs = idA n := by
  have h' : ∀ i, ∃ m : Nat, m < 256 ∧ (i < 16 → cs[i]? = some (.int .u8 (m : Int))) := by
    intro i
    by_cases hi : i < 16
    · obtain ⟨z, h1, h2, h3⟩ := h i hi
      exact ⟨z.toNat, by omega, fun _ => by rw [h1, Int.toNat_of_nonneg h2]⟩
    · exact ⟨0, by omega, fun h => absurd h hi⟩
  obtain ⟨f, hf⟩ := Classical.axiomOfChoice h'
  obtain ⟨n, hn, hb⟩ := num_of16 f (fun i => (hf i).1)
  refine ⟨n, hn, ?_⟩
  apply Array.ext_getElem?
  intro i
  by_cases hi : i < 16
  · rw [idA_get n i hi, hb i hi]; exact (hf i).2 hi
  · rw [Array.getElem?_eq_none (by omega), Array.getElem?_eq_none (by rw [idA_size]; omega)]
section
variable {H : Type} {enc : TypeId × Value → H} {w : World} {base : Nat} {spare : Nat → Bool} {held : Bool}
theorem id_of_trod {fuel : Nat} {l : List Value} {x : DataW H × List MemPlace} (h : DataW.trod enc Tryz.prog w base spare held fuel 25 l = some x) : ∃ n, n < top ∧ l = (idA n).toList := by
  obtain ⟨xs, m, _, _, hl, hx, he⟩ := DataW.trod_array Tryz.underlying25 h
  rw [cells25] at hl
  have := id_of_cells l.toArray (by simpa using hl) fun i hi => by
    have h1 := he i hi
    rw [List.getElem?_eq_getElem (by omega)] at h1
    obtain ⟨n, h2, _, h3⟩ := DataW.trod_int Tryz.underlying5 h1
    rw [cells5, Nat.mul_one] at h2
    refine ⟨n, ?_, ?_⟩
    · have h4 : (List.take 1 (List.drop i l))[0]? = some (.int .u8 n) := by rw [h2]; rfl
      rw [List.getElem?_take] at h4
      simpa using h4
    · have e1 : IntKind.u8.min = 0 := rfl
      have e2 : IntKind.u8.max = 255 := rfl
      simpa [Lit.wf, e1, e2] using h3
  obtain ⟨n, hn, hh⟩ := this
  exact ⟨n, hn, by rw [← hh]⟩
end
end Go.Proofs.YtmjblbgalkjmiaaGreat
