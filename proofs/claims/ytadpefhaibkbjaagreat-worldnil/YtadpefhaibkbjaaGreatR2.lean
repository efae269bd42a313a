/- A run that answers true, as a call that answers true and leaves memory as it was. -/
import Derived.Test.YtadpefhaibkbjaaGreatR0
import Derived.Below
namespace Go.Proofs.YtadpefhaibkbjaaGreat
open EX
set_option maxRecDepth 1000000
theorem run_true {M : CallM} (hM : MemoOK Tryz.prog M) {f : FuncId} {args args' : Array Value} {m : Nat} {r : Env} {w : World} (h : callK Tryz.prog (execK Tryz.prog M m) f args ⟨.leaf, 1⟩ (fun v _ n => match v with
      | .bool true => n
      | _ => False) True = True) (hr : ∀ b c c', r b c → r b c' → c = c') (hb : ∀ b c, r b c → b = 0) (ha : AVs r args args') :
    Calls Tryz.prog f args' w fun e w' => e = .returned (.bool true) ∧ Go.RowKit.Below w.heap.size w w' := by
  have no : ∀ b, (T.get (α := Obj) .leaf b).isSome = true → False := fun b k => by rw [leaf_none] at k; cases k
  have H : HR r ⟨.leaf, 1⟩ w := by
    refine ⟨fun b o k => (no b ?_).elim, hr, fun b b' c k _ _ _ => (no b k).elim, fun b c k => ?_, fun b c k ho => ?_, fun b c kk c0 d e cs t z ho k => ?_⟩
    · rw [show T.get (α := Obj) .leaf b = some o from k]
      rfl
    · rw [hb b c k]
      decide
    · rw [hb b c k] at ho
      cases ho
    · rw [hb b c k] at ho
      cases ho
  have := call_sound zc follows hM m f args ⟨.leaf, 1⟩ _ True (fun v h N k => by
    split at k
    · exact k
    · exact k.elim) (of_eq_true h) r w args' H (fun b _ => leaf_none b) ha
  refine this.mono fun e w' k => ?_
  obtain ⟨v, h2, n', hq, r', v', rfl, hv, _, _, F⟩ := k
  split at hq
  · have hv' := ((VRe r').1 true v').1 hv
    subst hv'
    exact ⟨rfl, F.os, F.tape, F.output, F.size, fun c hc => F.heap c hc fun b k => (no b k).elim⟩
  · exact hq.elim
theorem VRs.cons {r : Env} {x x' : Value} {s s' : List Value} (h : VR r x x') (k : VRs r s s') : VRs r (x :: s) (x' :: s') := ⟨_, _, h, k, rfl⟩
theorem VRs.nil {r : Env} : VRs r [] [] := rfl
end Go.Proofs.YtadpefhaibkbjaaGreat
