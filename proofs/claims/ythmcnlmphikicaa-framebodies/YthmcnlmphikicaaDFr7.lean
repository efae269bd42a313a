/- A frame that was read is laid in the bytes that it was read from; FrameOne. -/
import Derived.Test.YthmcnlmphikicaaDH1
import Derived.Test.YthmcnlmphikicaaDR8
import Derived.Test.YthmcnlmphikicaaDG6
import Derived.Test.YthmcnlmphikicaaDFr2
namespace Go.Proofs.Ythmcnlmphikicaa
open Go.RowKit
/-! ### No error is nought -/
structure NZ {β : Type} (r : Except Nat β) : Prop where
  out : ∀ x, r = .error x → x ≠ 0
theorem NZ.ok {β : Type} (b : β) : NZ (.ok b : Except Nat β) := ⟨fun _ h => by cases h⟩
theorem NZ.bind {α β : Type} {r : Except Nat (α × Nat)} {f : α → Nat → Except Nat (β × Nat)} (h : NZ r) (hf : ∀ a q, NZ (f a q)) : NZ (thenR r f) := by
  cases r with
  | error e => exact ⟨fun x hx => by cases hx; exact h.out _ rfl⟩
  | ok p => exact hf p.1 p.2
end Go.Proofs.Ythmcnlmphikicaa
namespace Go.Proofs.Ythmcnlmphikicaa
open Go.ChangeShapes Go.WideShapes Go.ChangeAt Go.RowKit
theorem cellsI_len : ∀ {l : List (List Nat)}, ok16 l → (cellsI l).length = l.length * 16
  | [], _ => rfl
  | x :: l, h => by
    have h1 := (h x List.mem_cons_self).1
    have h2 := cellsI_len (l := l) fun y hy => h y (List.mem_cons_of_mem _ hy)
    unfold cellsI at *
    rw [List.flatMap_cons, List.length_append, h2, List.length_cons, bL, List.length_map, h1]
    omega
theorem ck2 : Try.prog.cellsOf 2 = 1 := by kernel_rfl
theorem ck3 : Try.prog.cellsOf 3 = 1 := by kernel_rfl
theorem ck4 : Try.prog.cellsOf 4 = 1 := by kernel_rfl
theorem ck25 : Try.prog.cellsOf 25 = 17 := by kernel_rfl
theorem ck27 : Try.prog.cellsOf 27 = 2 := by kernel_rfl
theorem ck28 : Try.prog.cellsOf 28 = 1 := by kernel_rfl
theorem ck29 : Try.prog.cellsOf 29 = 1 := by kernel_rfl
theorem ck31 : Try.prog.cellsOf 31 = 17 := by kernel_rfl
theorem ck32 : Try.prog.cellsOf 32 = 1 := by kernel_rfl
theorem ck34 : Try.prog.cellsOf 34 = 34 := by kernel_rfl
theorem ck36 : Try.prog.cellsOf 36 = 95 := by kernel_rfl
theorem bk3 : Try.prog.bytesOf 3 = 8 := by kernel_rfl
theorem bk23 : Try.prog.bytesOf 23 = 16 := by kernel_rfl
theorem subSeg (cs : List Value) (off size o m : Nat) (h : o + m ≤ size) : (((cs.drop off).take size).drop o).take m = (cs.drop (off + o)).take m := by
  rw [List.drop_take, List.take_take, List.drop_drop]
  congr 1
  omega
theorem nextSeg {cs l : List Value} {off n b : Nat} (h : (cs.drop off).take n = l) (hb : off + n = b) : cs.drop off = l ++ cs.drop b := by
  rw [← h, ← hb, ← List.drop_drop, List.take_append_drop]
theorem idA_list (n : Nat) : (idA n).toList = bL (idL (byt n)) := by
  simp [idA, bL, idL, List.ofFn_succ]
theorem byt_ok (n : Nat) : okI (byt n) := fun i => byt_lt n i
section
variable {H : Type} {enc : TypeId × Value → H} {w : World} {base : Nat} {spare : Nat → Bool} {held : Bool}
theorem int_seg {t : TypeId} {fuel : Nat} {l : List Value} {x : DataW H × List MemPlace} (hu : Try.prog.underlying t = some (.int .i64)) (h : DataW.trod enc Try.prog w base spare held fuel t l = some x) : ∃ z : Int, l = [.int .i64 z] ∧ z < 9223372036854775808 := by
  obtain ⟨z, e, _, wf⟩ := DataW.trod_int hu h
  refine ⟨z, e, ?_⟩
  have e1 : IntKind.i64.min = -9223372036854775808 := rfl
  have e2 : IntKind.i64.max = 9223372036854775807 := rfl
  simp [Lit.wf, e1, e2] at wf
  omega
theorem id_seg {fuel : Nat} {l : List Value} {x : DataW H × List MemPlace} (h : DataW.trod enc Try.prog w base spare held fuel 23 l = some x) : ∃ y : Nat → Nat, l = bL (idL y) ∧ okI y := by
  obtain ⟨n, _, e⟩ := id_of_trod h
  exact ⟨byt n, by rw [e, idA_list], byt_ok n⟩
end
end Go.Proofs.Ythmcnlmphikicaa
