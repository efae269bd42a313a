/-
  No cell of these rows narrows 'for every input' (looked for: loops, veiled, ifaces, maps, wideKeys, modest, calm, conditions, laid).
  DERIVED. THE GIVEN ROWS OF THIS SEAT. 4 by the template 'for every input the law returns true; each argument reads behind the call as it read before'; 0 by the template 'total and deterministic' (their statements: YtlfanecaglbomaaTotals.lean).
  GIVEN WITH THE SEED: the statements are not yours to turn. If you find one false, say at which input.
  Laid BY PROGRAM, IN A SANDBOX (cutbox-rows.mjs): the forced cells as the released guide's own fill.sh prints them over the translation c9252963a6af7678… (all of the seat's roots in one cut). By AI agents, Wed Nov 11 2026. No macro, syntax, notation, axiom, sorry.
-/
import Derived.Test.YtlfanecaglbomaaChecked
import GoSem.Claim
import GoSem.ClaimJoined
import GoSem.ClaimMapViews
import Derived.JoinedTies
import Derived.KernelRfl
namespace Go.Proofs.Ytlfanecaglbomaa
/- THE CELL 'sum', in the pinned program and in every row, IS THE sha256 OF THE DUMP (.gsa) THAT YtlfanecaglbomaaProg.lean LOADS. Nothing in Lean hashes anything: it is a label: what it is worth is what the hold of that sum in a sandbox is worth. -/
noncomputable def Try.pinned : Pinned := { name := "ytlfanecaglbomaa", sum := "c9252963a6af767810af179e3629e6d3c87607c50c7e3b9e20cca1565146f2b6", checked := Try.checked }
namespace Rows
def none {H : Type} : Left H := { results := [], args := [] }

/-- 'annuletlaw09.HelloPlays': WHATEVER THE INPUT: true; the input reads as it did. -/
def helloPlaysSpec : ChangeSpec := { name := "helloPlays", fn := fun _ => fun
  | [d1, d2] => { results := [.lit (.bool true)], args := [d1, d2] }
  | _ => none }
def helloPlaysRow : OpenClaim := { program := "ytlfanecaglbomaa", sum := "c9252963a6af767810af179e3629e6d3c87607c50c7e3b9e20cca1565146f2b6", func := "annulet/annuletlaw09.HelloPlays", spec := "helloPlays", unfollowed := true, recurses := true, apart := false }
def HelloPlaysSaid : Prop := helloPlaysRow.holds Try.pinned (OpenSpec.ofChange helloPlaysSpec)

/-- ITS FALSE NEIGHBOUR: 'it returns false'. Refute it at one input. -/
def helloPlaysWrong : ChangeSpec := { name := "helloPlays", fn := fun _ => fun
  | [d1, d2] => { results := [.lit (.bool false)], args := [d1, d2] }
  | _ => none }
def HelloPlaysWrongFalsely : Prop := helloPlaysRow.holds Try.pinned (OpenSpec.ofChange helloPlaysWrong)

/-- 'annuletlaw09.HelloOnce': WHATEVER THE INPUT: true; the input reads as it did. -/
def helloOnceSpec : ChangeSpec := { name := "helloOnce", fn := fun _ => fun
  | [d] => { results := [.lit (.bool true)], args := [d] }
  | _ => none }
def helloOnceRow : OpenClaim := { program := "ytlfanecaglbomaa", sum := "c9252963a6af767810af179e3629e6d3c87607c50c7e3b9e20cca1565146f2b6", func := "annulet/annuletlaw09.HelloOnce", spec := "helloOnce", unfollowed := true, recurses := true, apart := false }
def HelloOnceSaid : Prop := helloOnceRow.holds Try.pinned (OpenSpec.ofChange helloOnceSpec)

/-- ITS FALSE NEIGHBOUR: 'it returns false'. Refute it at one input. -/
def helloOnceWrong : ChangeSpec := { name := "helloOnce", fn := fun _ => fun
  | [d] => { results := [.lit (.bool false)], args := [d] }
  | _ => none }
def HelloOnceWrongFalsely : Prop := helloOnceRow.holds Try.pinned (OpenSpec.ofChange helloOnceWrong)

/-- 'annuletlaw09.HelloMeets': WHATEVER THE INPUT: true; the input reads as it did. -/
def helloMeetsSpec : ChangeSpec := { name := "helloMeets", fn := fun _ => fun
  | [d] => { results := [.lit (.bool true)], args := [d] }
  | _ => none }
def helloMeetsRow : OpenClaim := { program := "ytlfanecaglbomaa", sum := "c9252963a6af767810af179e3629e6d3c87607c50c7e3b9e20cca1565146f2b6", func := "annulet/annuletlaw09.HelloMeets", spec := "helloMeets", unfollowed := true, recurses := true, apart := false }
def HelloMeetsSaid : Prop := helloMeetsRow.holds Try.pinned (OpenSpec.ofChange helloMeetsSpec)

/-- ITS FALSE NEIGHBOUR: 'it returns false'. Refute it at one input. -/
def helloMeetsWrong : ChangeSpec := { name := "helloMeets", fn := fun _ => fun
  | [d] => { results := [.lit (.bool false)], args := [d] }
  | _ => none }
def HelloMeetsWrongFalsely : Prop := helloMeetsRow.holds Try.pinned (OpenSpec.ofChange helloMeetsWrong)

/-- 'annuletlaw09.HelloDown': WHATEVER THE INPUT: true; the input reads as it did. -/
def helloDownSpec : ChangeSpec := { name := "helloDown", fn := fun _ => fun
  | [d1, d2] => { results := [.lit (.bool true)], args := [d1, d2] }
  | _ => none }
def helloDownRow : OpenClaim := { program := "ytlfanecaglbomaa", sum := "c9252963a6af767810af179e3629e6d3c87607c50c7e3b9e20cca1565146f2b6", func := "annulet/annuletlaw09.HelloDown", spec := "helloDown", unfollowed := true, recurses := true, apart := false }
def HelloDownSaid : Prop := helloDownRow.holds Try.pinned (OpenSpec.ofChange helloDownSpec)

/-- ITS FALSE NEIGHBOUR: 'it returns false'. Refute it at one input. -/
def helloDownWrong : ChangeSpec := { name := "helloDown", fn := fun _ => fun
  | [d1, d2] => { results := [.lit (.bool false)], args := [d1, d2] }
  | _ => none }
def HelloDownWrongFalsely : Prop := helloDownRow.holds Try.pinned (OpenSpec.ofChange helloDownWrong)

/- THE SECOND FORM. 'bulk': how many values and letters a reading holds, each counted each time it is reached (what is shared counts as often as it is met; a slice's spare places count too). A statement '..UptoSaid' is the law's where the arguments, and the package variables that the reading takes, are together of bulk at most 1048576: NARROWER than '..Said'. Prove '..Said' where nothing that the law and all that it calls make is longer than what came in: it says more and counts as full. Else prove '..UptoSaid'. A law counts once. -/
mutual
def uptoBulk {H : Type} : DataW H → Nat
  | .lit (.string bytes) => bytes.length + 1
  | .lit _ => 1
  | .nil => 1
  | .ptr d => uptoBulk d + 1
  | .slice elems spare => uptoBulkAll elems + uptoBulkAll spare + 1
  | .agg parts => uptoBulkAll parts + 1
  | .iface _ d => uptoBulk d + 1
  | .map entries => uptoBulkEntries entries + 1
  | .held _ => 1
def uptoBulkAll {H : Type} : List (DataW H) → Nat
  | [] => 0
  | d :: r => uptoBulk d + uptoBulkAll r
def uptoBulkEntries {H : Type} : List (Lit × DataW H) → Nat
  | [] => 0
  | x :: r => uptoBulkEntry x + uptoBulkEntries r
def uptoBulkEntry {H : Type} : Lit × DataW H → Nat
  | (.string bytes, d) => bytes.length + uptoBulk d + 1
  | (_, d) => uptoBulk d + 1
 end
def uptoSmall : (H : Type) → List (DataW H) → Bool := fun _ ds => decide (uptoBulkAll ds ≤ 1048576)
def OpenSpec.upto (s : _root_.Go.ChangeSpec) : _root_.Go.OpenSpec := { _root_.Go.OpenSpec.ofChange s with cond := some uptoSmall }

/-- 'annuletlaw09.HelloPlays', WHERE WHAT IT READS IS OF BULK AT MOST 1048576: true; the input reads as it did. -/
def helloPlaysUptoRow : OpenClaim := { program := "ytlfanecaglbomaa", sum := "c9252963a6af767810af179e3629e6d3c87607c50c7e3b9e20cca1565146f2b6", func := "annulet/annuletlaw09.HelloPlays", spec := "helloPlays", unfollowed := true, recurses := true, apart := false, narrowed := true }
def HelloPlaysUptoSaid : Prop := helloPlaysUptoRow.holds Try.pinned (OpenSpec.upto helloPlaysSpec)

/-- 'annuletlaw09.HelloOnce', WHERE WHAT IT READS IS OF BULK AT MOST 1048576: true; the input reads as it did. -/
def helloOnceUptoRow : OpenClaim := { program := "ytlfanecaglbomaa", sum := "c9252963a6af767810af179e3629e6d3c87607c50c7e3b9e20cca1565146f2b6", func := "annulet/annuletlaw09.HelloOnce", spec := "helloOnce", unfollowed := true, recurses := true, apart := false, narrowed := true }
def HelloOnceUptoSaid : Prop := helloOnceUptoRow.holds Try.pinned (OpenSpec.upto helloOnceSpec)

/-- 'annuletlaw09.HelloMeets', WHERE WHAT IT READS IS OF BULK AT MOST 1048576: true; the input reads as it did. -/
def helloMeetsUptoRow : OpenClaim := { program := "ytlfanecaglbomaa", sum := "c9252963a6af767810af179e3629e6d3c87607c50c7e3b9e20cca1565146f2b6", func := "annulet/annuletlaw09.HelloMeets", spec := "helloMeets", unfollowed := true, recurses := true, apart := false, narrowed := true }
def HelloMeetsUptoSaid : Prop := helloMeetsUptoRow.holds Try.pinned (OpenSpec.upto helloMeetsSpec)

/-- 'annuletlaw09.HelloDown', WHERE WHAT IT READS IS OF BULK AT MOST 1048576: true; the input reads as it did. -/
def helloDownUptoRow : OpenClaim := { program := "ytlfanecaglbomaa", sum := "c9252963a6af767810af179e3629e6d3c87607c50c7e3b9e20cca1565146f2b6", func := "annulet/annuletlaw09.HelloDown", spec := "helloDown", unfollowed := true, recurses := true, apart := false, narrowed := true }
def HelloDownUptoSaid : Prop := helloDownUptoRow.holds Try.pinned (OpenSpec.upto helloDownSpec)

end Rows
end Go.Proofs.Ytlfanecaglbomaa
