/-
  No cell of these rows narrows 'for every input' (looked for: loops, veiled, ifaces, maps, wideKeys, modest, calm, conditions, laid).
  DERIVED. THE GIVEN ROWS OF THIS SEAT. 4 by the template 'for every input the law returns true; each argument reads behind the call as it read before'; 0 by the template 'total and deterministic' (their statements: YtfabgonoonanfaaTotals.lean).
  GIVEN WITH THE SEED: the statements are not yours to turn. If you find one false, say at which input.
  Laid BY PROGRAM, IN A SANDBOX (cutbox-rows.mjs): the forced cells as the released guide's own fill.sh prints them over the translation 6ff4a3feaca05574… (all of the seat's roots in one cut). By AI agents, Wed Nov 11 2026. No macro, syntax, notation, axiom, sorry.
-/
import Derived.Test.YtfabgonoonanfaaChecked
import GoSem.Claim
import GoSem.ClaimJoined
import GoSem.ClaimMapViews
import Derived.JoinedTies
import Derived.KernelRfl
namespace Go.Proofs.Ytfabgonoonanfaa
/- THE CELL 'sum', in the pinned program and in every row, IS THE sha256 OF THE DUMP (.gsa) THAT YtfabgonoonanfaaProg.lean LOADS. Nothing in Lean hashes anything: it is a label: what it is worth is what the hold of that sum in a sandbox is worth. -/
noncomputable def Try.pinned : Pinned := { name := "ytfabgonoonanfaa", sum := "6ff4a3feaca055744f5478c448f9a6a674947fe66e2fbfe4455450816e678531", checked := Try.checked }
namespace Rows
def none {H : Type} : Left H := { results := [], args := [] }

/-- 'annuletlaw17.SeekAsks': WHATEVER THE INPUT: true; the input reads as it did. -/
def seekAsksSpec : ChangeSpec := { name := "seekAsks", fn := fun _ => fun
  | [d] => { results := [.lit (.bool true)], args := [d] }
  | _ => none }
def seekAsksRow : OpenClaim := { program := "ytfabgonoonanfaa", sum := "6ff4a3feaca055744f5478c448f9a6a674947fe66e2fbfe4455450816e678531", func := "annulet/annuletlaw17.SeekAsks", spec := "seekAsks", unfollowed := true, recurses := true, apart := false }
def SeekAsksSaid : Prop := seekAsksRow.holds Try.pinned (OpenSpec.ofChange seekAsksSpec)

/-- ITS FALSE NEIGHBOUR: 'it returns false'. Refute it at one input. -/
def seekAsksWrong : ChangeSpec := { name := "seekAsks", fn := fun _ => fun
  | [d] => { results := [.lit (.bool false)], args := [d] }
  | _ => none }
def SeekAsksWrongFalsely : Prop := seekAsksRow.holds Try.pinned (OpenSpec.ofChange seekAsksWrong)

/-- 'annuletlaw17.SeekOnce': WHATEVER THE INPUT: true; the input reads as it did. -/
def seekOnceSpec : ChangeSpec := { name := "seekOnce", fn := fun _ => fun
  | [d] => { results := [.lit (.bool true)], args := [d] }
  | _ => none }
def seekOnceRow : OpenClaim := { program := "ytfabgonoonanfaa", sum := "6ff4a3feaca055744f5478c448f9a6a674947fe66e2fbfe4455450816e678531", func := "annulet/annuletlaw17.SeekOnce", spec := "seekOnce", unfollowed := true, recurses := true, apart := false }
def SeekOnceSaid : Prop := seekOnceRow.holds Try.pinned (OpenSpec.ofChange seekOnceSpec)

/-- ITS FALSE NEIGHBOUR: 'it returns false'. Refute it at one input. -/
def seekOnceWrong : ChangeSpec := { name := "seekOnce", fn := fun _ => fun
  | [d] => { results := [.lit (.bool false)], args := [d] }
  | _ => none }
def SeekOnceWrongFalsely : Prop := seekOnceRow.holds Try.pinned (OpenSpec.ofChange seekOnceWrong)

/-- 'annuletlaw17.SeekDone': WHATEVER THE INPUT: true; the input reads as it did. -/
def seekDoneSpec : ChangeSpec := { name := "seekDone", fn := fun _ => fun
  | [d] => { results := [.lit (.bool true)], args := [d] }
  | _ => none }
def seekDoneRow : OpenClaim := { program := "ytfabgonoonanfaa", sum := "6ff4a3feaca055744f5478c448f9a6a674947fe66e2fbfe4455450816e678531", func := "annulet/annuletlaw17.SeekDone", spec := "seekDone", unfollowed := true, recurses := true, apart := false }
def SeekDoneSaid : Prop := seekDoneRow.holds Try.pinned (OpenSpec.ofChange seekDoneSpec)

/-- ITS FALSE NEIGHBOUR: 'it returns false'. Refute it at one input. -/
def seekDoneWrong : ChangeSpec := { name := "seekDone", fn := fun _ => fun
  | [d] => { results := [.lit (.bool false)], args := [d] }
  | _ => none }
def SeekDoneWrongFalsely : Prop := seekDoneRow.holds Try.pinned (OpenSpec.ofChange seekDoneWrong)

/-- 'annuletlaw17.SeekOrder': WHATEVER THE INPUT: true; the input reads as it did. -/
def seekOrderSpec : ChangeSpec := { name := "seekOrder", fn := fun _ => fun
  | [d] => { results := [.lit (.bool true)], args := [d] }
  | _ => none }
def seekOrderRow : OpenClaim := { program := "ytfabgonoonanfaa", sum := "6ff4a3feaca055744f5478c448f9a6a674947fe66e2fbfe4455450816e678531", func := "annulet/annuletlaw17.SeekOrder", spec := "seekOrder", unfollowed := true, recurses := true, apart := false }
def SeekOrderSaid : Prop := seekOrderRow.holds Try.pinned (OpenSpec.ofChange seekOrderSpec)

/-- ITS FALSE NEIGHBOUR: 'it returns false'. Refute it at one input. -/
def seekOrderWrong : ChangeSpec := { name := "seekOrder", fn := fun _ => fun
  | [d] => { results := [.lit (.bool false)], args := [d] }
  | _ => none }
def SeekOrderWrongFalsely : Prop := seekOrderRow.holds Try.pinned (OpenSpec.ofChange seekOrderWrong)

/- THE SECOND FORM. 'bulk': how many values and letters a reading holds, each counted each time it is reached (what is shared counts as often as it is met; a slice's spare places count too). A statement '..UptoSaid' is the law's where the arguments, and the package variables that the reading takes, are together of bulk at most 1048576: NARROWER than '..Said'. Prove '..Said' where nothing that the law and all that it calls make is longer than what came in: it says more and counts as full. Else prove '..UptoSaid'. A law counts once. -/
mutual
def uptoBulk {H : Type} : DataW H → Nat
  | .lit (.string bytes) => bytes.length + 1
  | .lit _ => 1
  | .nil => 1
  | .ptr d => uptoBulk d + 1
  | .slice elems spare => uptoBulkAll elems + uptoBulkAll spare + 1
  | .agg parts => uptoBulkAll parts + 1
  | .iface _ d => uptoBulk d + 1
  | .map entries => uptoBulkEntries entries + 1
  | .held _ => 1
def uptoBulkAll {H : Type} : List (DataW H) → Nat
  | [] => 0
  | d :: r => uptoBulk d + uptoBulkAll r
def uptoBulkEntries {H : Type} : List (Lit × DataW H) → Nat
  | [] => 0
  | x :: r => uptoBulkEntry x + uptoBulkEntries r
def uptoBulkEntry {H : Type} : Lit × DataW H → Nat
  | (.string bytes, d) => bytes.length + uptoBulk d + 1
  | (_, d) => uptoBulk d + 1
 end
def uptoSmall : (H : Type) → List (DataW H) → Bool := fun _ ds => decide (uptoBulkAll ds ≤ 1048576)
def OpenSpec.upto (s : _root_.Go.ChangeSpec) : _root_.Go.OpenSpec := { _root_.Go.OpenSpec.ofChange s with cond := some uptoSmall }

/-- 'annuletlaw17.SeekAsks', WHERE WHAT IT READS IS OF BULK AT MOST 1048576: true; the input reads as it did. -/
def seekAsksUptoRow : OpenClaim := { program := "ytfabgonoonanfaa", sum := "6ff4a3feaca055744f5478c448f9a6a674947fe66e2fbfe4455450816e678531", func := "annulet/annuletlaw17.SeekAsks", spec := "seekAsks", unfollowed := true, recurses := true, apart := false, narrowed := true }
def SeekAsksUptoSaid : Prop := seekAsksUptoRow.holds Try.pinned (OpenSpec.upto seekAsksSpec)

/-- 'annuletlaw17.SeekOnce', WHERE WHAT IT READS IS OF BULK AT MOST 1048576: true; the input reads as it did. -/
def seekOnceUptoRow : OpenClaim := { program := "ytfabgonoonanfaa", sum := "6ff4a3feaca055744f5478c448f9a6a674947fe66e2fbfe4455450816e678531", func := "annulet/annuletlaw17.SeekOnce", spec := "seekOnce", unfollowed := true, recurses := true, apart := false, narrowed := true }
def SeekOnceUptoSaid : Prop := seekOnceUptoRow.holds Try.pinned (OpenSpec.upto seekOnceSpec)

/-- 'annuletlaw17.SeekDone', WHERE WHAT IT READS IS OF BULK AT MOST 1048576: true; the input reads as it did. -/
def seekDoneUptoRow : OpenClaim := { program := "ytfabgonoonanfaa", sum := "6ff4a3feaca055744f5478c448f9a6a674947fe66e2fbfe4455450816e678531", func := "annulet/annuletlaw17.SeekDone", spec := "seekDone", unfollowed := true, recurses := true, apart := false, narrowed := true }
def SeekDoneUptoSaid : Prop := seekDoneUptoRow.holds Try.pinned (OpenSpec.upto seekDoneSpec)

/-- 'annuletlaw17.SeekOrder', WHERE WHAT IT READS IS OF BULK AT MOST 1048576: true; the input reads as it did. -/
def seekOrderUptoRow : OpenClaim := { program := "ytfabgonoonanfaa", sum := "6ff4a3feaca055744f5478c448f9a6a674947fe66e2fbfe4455450816e678531", func := "annulet/annuletlaw17.SeekOrder", spec := "seekOrder", unfollowed := true, recurses := true, apart := false, narrowed := true }
def SeekOrderUptoSaid : Prop := seekOrderUptoRow.holds Try.pinned (OpenSpec.upto seekOrderSpec)

end Rows
end Go.Proofs.Ytfabgonoonanfaa
