/- Frames: every array of 16 bytes is a number below 2^128; arguments read again behind a call that leaves memory as it was. -/
import Derived.Test.YtgfnjekpafempaaRows
import Derived.Test.YtgfnjekpafempaaGB2
import Derived.ProofKit
import Derived.OpenShut
import Derived.Test.YtgfnjekpafempaaGX1
import Derived.SizedLaws
import Derived.JoinedCond
import Derived.Test.YtgfnjekpafempaaGQ0
import Derived.Test.YtgfnjekpafempaaGV1
namespace Go.Proofs.Ytgfnjekpafempaa
open Go.ChangeShapes Go.WideShapes Go.ChangeAt Go.RowKit
theorem Try.own : ownKnob Try.prog.godebug = none := by kernel_rfl
theorem Try.laidOut : laidOutB Try.prog = true := by kernel_rfl
theorem cells5 : Try.prog.cellsOf 5 = 1 := by kernel_rfl
end Go.Proofs.Ytgfnjekpafempaa
namespace Go.Proofs.Ytgfnjekpafempaa
open Go.ChangeShapes Go.WideShapes Go.ChangeAt Go.RowKit
theorem jbm {α : Type} (l : List α) (d : α) (k : Nat) (h : k < l.length) : l.getD k d ∈ l := by
  rw [List.getD_eq_getElem?_getD, List.getElem?_eq_getElem h]
  exact List.getElem_mem h
theorem bytes5 : Try.prog.bytesOf 5 = 1 := by kernel_rfl
section
variable {H : Type} {enc : TypeId × Value → H} {w : World} {base : Nat} {spare : Nat → Bool} {held : Bool}
def asLong (d : DataW H) (l : List Nat) : Prop := (d = .nil ∧ l = []) ∨ ∃ el sp, d = .slice el sp ∧ el.length = l.length
theorem jam {t e : TypeId} {k : IntKind} {b : Nat} (T : NumT Try.prog t e k b) (hc : Try.prog.cellsOf e = 1) (hk : k.min = 0) {fuel : Nat} {cs : List Value} {x : DataW H × List MemPlace} (hd : DataW.trod enc Try.prog w base spare held fuel t cs = some x) :
    ∃ ao cap l, cs = [.slice ao (List.length l) cap] ∧ NC w k ao cap l ∧ cap ≤ maxLen ∧ asLong x.1 l := by
  rcases open_ints T.und T.ue hc hd with ⟨hcs, hx⟩ | ⟨a, len, cap, zs, hcs, _, hl, hm, hz, hx, hcell, hwz⟩
  · exact ⟨none, 0, [], hcs, NC.nil _ _, by decide, .inl ⟨by rw [hx], rfl⟩⟩
  · have hle : len ≤ zs.length := by rw [hz]; split <;> omega
    have hlen : ((zs.take len).map Int.toNat).length = len := by simp; omega
    have hb : ∀ z ∈ zs, 0 ≤ z ∧ z ≤ k.max := fun z hz => by
      have := hwz z hz
      simp [Lit.wf, hk] at this
      exact this
    refine ⟨some a, cap, (zs.take len).map Int.toNat, by rw [hlen]; exact hcs, ⟨by omega, fun h => by (cases h), fun ad ha j hj => ?_, fun x hx => ?_⟩, hm, .inr ⟨_, _, by rw [hx], by rw [hlen]; simp [lits]; omega⟩⟩
    · cases ha
      rw [hlen] at hj
      rw [hcell j (by omega)]
      have h1 : zs.getD j 0 ∈ zs := jbm zs 0 j (by omega)
      have h2 := hb _ h1
      have h3 : ((zs.take len).map Int.toNat).getD j 0 = (zs.getD j 0).toNat := by
        rw [List.getD_eq_getElem?_getD, List.getElem?_map, List.getElem?_take, if_pos hj, List.getD_eq_getElem?_getD, List.getElem?_eq_getElem (by omega)]
        rfl
      rw [h3, Int.toNat_of_nonneg h2.1]
    · obtain ⟨z, hz1, rfl⟩ := List.mem_map.1 hx
      have := hb z (List.mem_of_mem_take hz1)
      omega
end
end Go.Proofs.Ytgfnjekpafempaa
namespace Go.Proofs.Ytgfnjekpafempaa
open Go.ChangeShapes Go.WideShapes Go.ChangeAt Go.RowKit
structure IC (w : World) (ao : Option Addr) (cap : Nat) (xs : List Int) : Prop where
  fit : xs.length ≤ cap
  bare : ao = none → cap = 0
  cell : ∀ ad, ao = some ad → ∀ j, j < xs.length → w.cell? (ad.add j) = some (.int .i64 (xs.getD j 0))
theorem IC.at {w : World} {ao : Option Addr} {cap : Nat} {xs : List Int} (h : IC w ao cap xs) {j : Nat} (hj : j < xs.length) : ∃ ad, ao = some ad ∧ w.cell? (ad.add j) = some (.int .i64 (xs.getD j 0)) := by
  cases hao : ao with
  | none => have := h.bare hao; have := h.fit; omega
  | some ad => exact ⟨ad, rfl, h.cell ad hao j hj⟩
section
variable {H : Type} {enc : TypeId × Value → H} {w : World} {base : Nat} {spare : Nat → Bool} {held : Bool}
theorem Jw {P : Program} {e : TypeId} : ∀ (l : List (DataW H)) (d : DataW H), d ∈ l → ∀ y ∈ d.weights P e, y ∈ DataW.weightsAll P e l
  | [], _, h, _, _ => by cases h
  | x :: l, d, h, y, hy => by
    rw [DataW.weightsAll, List.mem_append]
    rcases List.mem_cons.1 h with rfl | h
    · exact .inl hy
    · exact .inr (Jw l d h y hy)
end
end Go.Proofs.Ytgfnjekpafempaa
namespace Go.Proofs.Ytgfnjekpafempaa
open Go.ChangeShapes Go.WideShapes Go.ChangeAt Go.RowKit
theorem cellBy : Try.prog.cellsOf 30 = 1 := by kernel_rfl
theorem bytesBy : Try.prog.bytesOf 30 = 24 := by kernel_rfl
theorem I64.of {x : Int} (h : (Lit.int .i64 x).wf = true) : I64 x := by
  have e1 : IntKind.i64.min = -9223372036854775808 := rfl
  have e2 : IntKind.i64.max = 9223372036854775807 := rfl
  simp [Lit.wf, e1, e2] at h
  unfold I64
  omega
section
variable {H : Type} {enc : TypeId × Value → H} {w : World} {base : Nat} {spare : Nat → Bool} {held : Bool}
set_option maxRecDepth 100000 in
theorem QH {r : Reach} {b0 : Nat} {v : Value} {d : DataW H} {ps : List MemPlace} (hval : Value.okWide Try.prog w r b0 22 v) (hd : DataW.Trod enc Try.prog w base spare held 22 v d ps) :
    ∃ ao cap ls, v = .slice ao (List.length ls) cap ∧ LC w ao cap ls ∧ ∀ m, (∀ y ∈ d.weights Try.prog 22, y ≤ m) → ls.length ≤ m ∧ ∀ l ∈ ls, l.length ≤ m := by
  obtain ⟨a0, len0, cap0, rfl⟩ := okWide_slice Try.underlying22 hval
  obtain ⟨fuel, hf⟩ := hd
  rcases DataW.trod_slice Try.underlying22 hf with ⟨hcs, hx⟩ | ⟨a, len, cap, elems, rest, n, _, hcs, hx, _, hl, _, hel, hei, _, _⟩
  · exact ⟨none, 0, [], by simpa [Value.cells] using hcs, ⟨by simp, fun _ => rfl, fun ad h => by (cases h)⟩, fun m _ => ⟨Nat.zero_le _, fun o h => by (cases h)⟩⟩
  · rw [cellBy] at hei
    have each : ∀ i, ∃ l : List Nat, i < len → (∃ ao' cap', w.cell? (a.add i) = some (.slice ao' l.length cap') ∧ NC w .u8 ao' cap' l) ∧ ∃ y, y ∈ elems ∧ asLong y.1 l := by
      intro i
      by_cases hi : i < len
      · have h1 := hei i hi
        rw [List.getElem?_eq_getElem (by omega), Nat.mul_one] at h1
        cases hc : w.cells? base (a.add i) 1 with
        | none => rw [hc] at h1; cases h1
        | some cs =>
          rw [hc] at h1
          obtain ⟨ao', cap', l, h2, h3, _, h4⟩ := jam bT cells5 rfl (show DataW.trod enc Try.prog w base spare held n 30 cs = some elems[i] from h1)
          subst h2
          exact ⟨l, fun _ => ⟨⟨ao', cap', cell_of_cells?_one hc, h3⟩, elems[i], List.getElem_mem _, h4⟩⟩
      · exact ⟨[], fun h => absurd h hi⟩
    obtain ⟨f, hf2⟩ := Classical.axiomOfChoice each
    have hlen : ((List.range len).map f).length = len := by simp
    have hget : ∀ j, j < len → ((List.range len).map f).getD j [] = f j := fun j hj => by
      simp [List.getD_eq_getElem?_getD, hj]
    have hd2 : d = .slice (elems.map (·.1)) (rest.map (·.1)) := congrArg Prod.fst hx
    refine ⟨some a, cap, (List.range len).map f, ?_, ⟨by rw [hlen]; exact hl, fun h => by (cases h), fun ad ha j hj => ?_⟩, fun m hm => ⟨?_, fun o ho => ?_⟩⟩
    · rw [hlen]
      simpa [Value.cells] using hcs
    · cases ha
      rw [hlen] at hj
      rw [hget j hj]
      exact (hf2 j hj).1
    · have := hm ((elems.length + rest.length) * Try.prog.bytesOf 30) (by
        rw [hd2, DataW.weights, Try.underlying22]
        simp)
      rw [bytesBy] at this
      rw [hlen]
      omega
    · obtain ⟨i, hi, rfl⟩ := List.mem_map.1 ho
      obtain ⟨y, hy, h5⟩ := (hf2 i (List.mem_range.1 hi)).2
      rcases h5 with ⟨_, h6⟩ | ⟨el, sp, h6, h7⟩
      · rw [h6]; exact Nat.zero_le _
      · have := hm ((el.length + sp.length) * Try.prog.bytesOf 5) (by
          rw [hd2, DataW.weights, Try.underlying22]
          refine List.mem_cons_of_mem _ (List.mem_append_left _ ?_)
          refine Jw _ y.1 (List.mem_map.2 ⟨y, hy, rfl⟩) _ ?_
          rw [h6, DataW.weights, Try.underlying30]
          exact List.mem_cons_self)
        rw [bytes5] at this
        omega
end
end Go.Proofs.Ytgfnjekpafempaa
