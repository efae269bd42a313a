/- A run that answers true, as a call that answers true and leaves memory as it was. -/
import Derived.Test.YtekhnmfmdkfidaaGreatR0
import Derived.Below
namespace Go.Proofs.YtekhnmfmdkfidaaGreat
open EX
theorem leaf_get (b : Nat) : T.get (α := Obj) .leaf b = none := by
  unfold T.get
  rfl
theorem run_true {f : FuncId} {args args' : Array Value} {m : Nat} {r : Env} {w : World} (h : callK Tryz.prog (execK Tryz.prog m) f args ⟨.leaf, 1⟩ (fun v _ n => match v with
      | .bool true => n
      | _ => False) True = True) (hr : ∀ b c c', r b c → r b c' → c = c') (hb : ∀ b c, r b c → b = 0) (ha : AVs r args args') :
    Calls Tryz.prog f args' w fun e w' => e = .returned (.bool true) ∧ Go.RowKit.Below w.heap.size w w' := by
  have no : ∀ b, (T.get (α := Obj) .leaf b).isSome = true → False := fun b k => by rw [leaf_get] at k; cases k
  have H : HR r ⟨.leaf, 1⟩ w := by
    refine ⟨fun b o k => (no b ?_).elim, hr, fun b b' c k _ _ _ => (no b k).elim, fun b c k => ?_, fun b c k ho => ?_, fun b c X kk c0 cs t z ho k => ?_⟩
    · rw [show T.get (α := Obj) .leaf b = some o from k]
      rfl
    · rw [hb b c k]
      decide
    · rw [hb b c k] at ho
      cases ho
    · rw [hb b c k] at ho
      cases ho
  have C := callK_sound zc (execK Tryz.prog m) (execK_th zc m) (fun c s q n hq hr r a w S => (execK_sound zc follows m c s q n hq hr r a w S).1)
  have := C f args ⟨.leaf, 1⟩ _ True (fun v h N k => by
    split at k
    · exact k
    · exact k.elim) (of_eq_true h) r w args' H (fun b _ => leaf_get b) ha
  refine this.mono fun e w' k => ?_
  obtain ⟨v, h2, n', hq, r', v', rfl, hv, _, _, F⟩ := k
  split at hq
  · have hv' := ((VRe r').1 true v').1 hv
    subst hv'
    exact ⟨rfl, F.os, F.tape, F.output, F.size, fun c hc => F.heap c hc fun b k => (no b k).elim⟩
  · exact hq.elim
end Go.Proofs.YtekhnmfmdkfidaaGreat
