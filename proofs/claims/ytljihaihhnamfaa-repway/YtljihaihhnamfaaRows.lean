/-
  No cell of these rows narrows 'for every input' (looked for: loops, veiled, ifaces, maps, wideKeys, modest, calm, conditions, laid).
  DERIVED. THE GIVEN ROWS OF THIS SEAT. 5 by the template 'for every input the law returns true; each argument reads behind the call as it read before'; 0 by the template 'total and deterministic' (their statements: YtljihaihhnamfaaTotals.lean).
  GIVEN WITH THE SEED: the statements are not yours to turn. If you find one false, say at which input.
  Laid BY PROGRAM, IN A SANDBOX (cutbox-rows.mjs): the forced cells as the released guide's own fill.sh prints them over the translation 5bbba16ad04c3024… (all of the seat's roots in one cut). By AI agents, Wed Nov 11 2026. No macro, syntax, notation, axiom, sorry.
-/
import Derived.Test.YtljihaihhnamfaaChecked
import GoSem.Claim
import GoSem.ClaimJoined
import GoSem.ClaimMapViews
import Derived.JoinedTies
import Derived.KernelRfl
namespace Go.Proofs.Ytljihaihhnamfaa
/- THE CELL 'sum', in the pinned program and in every row, IS THE sha256 OF THE DUMP (.gsa) THAT YtljihaihhnamfaaProg.lean LOADS. Nothing in Lean hashes anything: it is a label: what it is worth is what the hold of that sum in a sandbox is worth. -/
noncomputable def Try.pinned : Pinned := { name := "ytljihaihhnamfaa", sum := "5bbba16ad04c3024ac01d0977c5460d96ed5f4c96ec8b4842ea511a66874e4b4", checked := Try.checked }
namespace Rows
def none {H : Type} : Left H := { results := [], args := [] }

/-- 'annuletlaw16.RepBests': WHATEVER THE INPUT: true; the input reads as it did. -/
def repBestsSpec : ChangeSpec := { name := "repBests", fn := fun _ => fun
  | [d1, d2] => { results := [.lit (.bool true)], args := [d1, d2] }
  | _ => none }
def repBestsRow : OpenClaim := { program := "ytljihaihhnamfaa", sum := "5bbba16ad04c3024ac01d0977c5460d96ed5f4c96ec8b4842ea511a66874e4b4", func := "annulet/annuletlaw16.RepBests", spec := "repBests", apart := false }
def RepBestsSaid : Prop := repBestsRow.holds Try.pinned (OpenSpec.ofChange repBestsSpec)

/-- ITS FALSE NEIGHBOUR: 'it returns false'. Refute it at one input. -/
def repBestsWrong : ChangeSpec := { name := "repBests", fn := fun _ => fun
  | [d1, d2] => { results := [.lit (.bool false)], args := [d1, d2] }
  | _ => none }
def RepBestsWrongFalsely : Prop := repBestsRow.holds Try.pinned (OpenSpec.ofChange repBestsWrong)

/-- 'annuletlaw16.RepNotes': WHATEVER THE INPUT: true; the input reads as it did. -/
def repNotesSpec : ChangeSpec := { name := "repNotes", fn := fun _ => fun
  | [d1, d2, d3] => { results := [.lit (.bool true)], args := [d1, d2, d3] }
  | _ => none }
def repNotesRow : OpenClaim := { program := "ytljihaihhnamfaa", sum := "5bbba16ad04c3024ac01d0977c5460d96ed5f4c96ec8b4842ea511a66874e4b4", func := "annulet/annuletlaw16.RepNotes", spec := "repNotes", unfollowed := true, recurses := true, apart := false }
def RepNotesSaid : Prop := repNotesRow.holds Try.pinned (OpenSpec.ofChange repNotesSpec)

/-- ITS FALSE NEIGHBOUR: 'it returns false'. Refute it at one input. -/
def repNotesWrong : ChangeSpec := { name := "repNotes", fn := fun _ => fun
  | [d1, d2, d3] => { results := [.lit (.bool false)], args := [d1, d2, d3] }
  | _ => none }
def RepNotesWrongFalsely : Prop := repNotesRow.holds Try.pinned (OpenSpec.ofChange repNotesWrong)

/-- 'annuletlaw16.RepLeast': WHATEVER THE INPUT: true; the input reads as it did. -/
def repLeastSpec : ChangeSpec := { name := "repLeast", fn := fun _ => fun
  | [d1, d2] => { results := [.lit (.bool true)], args := [d1, d2] }
  | _ => none }
def repLeastRow : OpenClaim := { program := "ytljihaihhnamfaa", sum := "5bbba16ad04c3024ac01d0977c5460d96ed5f4c96ec8b4842ea511a66874e4b4", func := "annulet/annuletlaw16.RepLeast", spec := "repLeast", apart := false }
def RepLeastSaid : Prop := repLeastRow.holds Try.pinned (OpenSpec.ofChange repLeastSpec)

/-- ITS FALSE NEIGHBOUR: 'it returns false'. Refute it at one input. -/
def repLeastWrong : ChangeSpec := { name := "repLeast", fn := fun _ => fun
  | [d1, d2] => { results := [.lit (.bool false)], args := [d1, d2] }
  | _ => none }
def RepLeastWrongFalsely : Prop := repLeastRow.holds Try.pinned (OpenSpec.ofChange repLeastWrong)

/-- 'annuletlaw16.RepComes': WHATEVER THE INPUT: true; the input reads as it did. -/
def repComesSpec : ChangeSpec := { name := "repComes", fn := fun _ => fun
  | [d] => { results := [.lit (.bool true)], args := [d] }
  | _ => none }
def repComesRow : OpenClaim := { program := "ytljihaihhnamfaa", sum := "5bbba16ad04c3024ac01d0977c5460d96ed5f4c96ec8b4842ea511a66874e4b4", func := "annulet/annuletlaw16.RepComes", spec := "repComes", unfollowed := true, recurses := true, apart := false }
def RepComesSaid : Prop := repComesRow.holds Try.pinned (OpenSpec.ofChange repComesSpec)

/-- ITS FALSE NEIGHBOUR: 'it returns false'. Refute it at one input. -/
def repComesWrong : ChangeSpec := { name := "repComes", fn := fun _ => fun
  | [d] => { results := [.lit (.bool false)], args := [d] }
  | _ => none }
def RepComesWrongFalsely : Prop := repComesRow.holds Try.pinned (OpenSpec.ofChange repComesWrong)

/-- 'annuletlaw16.RepWay': WHATEVER THE INPUT: true; the input reads as it did. -/
def repWaySpec : ChangeSpec := { name := "repWay", fn := fun _ => fun
  | [d] => { results := [.lit (.bool true)], args := [d] }
  | _ => none }
def repWayRow : OpenClaim := { program := "ytljihaihhnamfaa", sum := "5bbba16ad04c3024ac01d0977c5460d96ed5f4c96ec8b4842ea511a66874e4b4", func := "annulet/annuletlaw16.RepWay", spec := "repWay", unfollowed := true, recurses := true, apart := false }
def RepWaySaid : Prop := repWayRow.holds Try.pinned (OpenSpec.ofChange repWaySpec)

/-- ITS FALSE NEIGHBOUR: 'it returns false'. Refute it at one input. -/
def repWayWrong : ChangeSpec := { name := "repWay", fn := fun _ => fun
  | [d] => { results := [.lit (.bool false)], args := [d] }
  | _ => none }
def RepWayWrongFalsely : Prop := repWayRow.holds Try.pinned (OpenSpec.ofChange repWayWrong)

/- THE SECOND FORM. 'bulk': how many values and letters a reading holds, each counted each time it is reached (what is shared counts as often as it is met; a slice's spare places count too). A statement '..UptoSaid' is the law's where the arguments, and the package variables that the reading takes, are together of bulk at most 1048576: NARROWER than '..Said'. Prove '..Said' where nothing that the law and all that it calls make is longer than what came in: it says more and counts as full. Else prove '..UptoSaid'. A law counts once. -/
mutual
def uptoBulk {H : Type} : DataW H → Nat
  | .lit (.string bytes) => bytes.length + 1
  | .lit _ => 1
  | .nil => 1
  | .ptr d => uptoBulk d + 1
  | .slice elems spare => uptoBulkAll elems + uptoBulkAll spare + 1
  | .agg parts => uptoBulkAll parts + 1
  | .iface _ d => uptoBulk d + 1
  | .map entries => uptoBulkEntries entries + 1
  | .held _ => 1
def uptoBulkAll {H : Type} : List (DataW H) → Nat
  | [] => 0
  | d :: r => uptoBulk d + uptoBulkAll r
def uptoBulkEntries {H : Type} : List (Lit × DataW H) → Nat
  | [] => 0
  | x :: r => uptoBulkEntry x + uptoBulkEntries r
def uptoBulkEntry {H : Type} : Lit × DataW H → Nat
  | (.string bytes, d) => bytes.length + uptoBulk d + 1
  | (_, d) => uptoBulk d + 1
 end
def uptoSmall : (H : Type) → List (DataW H) → Bool := fun _ ds => decide (uptoBulkAll ds ≤ 1048576)
def OpenSpec.upto (s : _root_.Go.ChangeSpec) : _root_.Go.OpenSpec := { _root_.Go.OpenSpec.ofChange s with cond := some uptoSmall }

/-- 'annuletlaw16.RepBests', WHERE WHAT IT READS IS OF BULK AT MOST 1048576: true; the input reads as it did. -/
def repBestsUptoRow : OpenClaim := { program := "ytljihaihhnamfaa", sum := "5bbba16ad04c3024ac01d0977c5460d96ed5f4c96ec8b4842ea511a66874e4b4", func := "annulet/annuletlaw16.RepBests", spec := "repBests", apart := false, narrowed := true }
def RepBestsUptoSaid : Prop := repBestsUptoRow.holds Try.pinned (OpenSpec.upto repBestsSpec)

/-- 'annuletlaw16.RepNotes', WHERE WHAT IT READS IS OF BULK AT MOST 1048576: true; the input reads as it did. -/
def repNotesUptoRow : OpenClaim := { program := "ytljihaihhnamfaa", sum := "5bbba16ad04c3024ac01d0977c5460d96ed5f4c96ec8b4842ea511a66874e4b4", func := "annulet/annuletlaw16.RepNotes", spec := "repNotes", unfollowed := true, recurses := true, apart := false, narrowed := true }
def RepNotesUptoSaid : Prop := repNotesUptoRow.holds Try.pinned (OpenSpec.upto repNotesSpec)

/-- 'annuletlaw16.RepLeast', WHERE WHAT IT READS IS OF BULK AT MOST 1048576: true; the input reads as it did. -/
def repLeastUptoRow : OpenClaim := { program := "ytljihaihhnamfaa", sum := "5bbba16ad04c3024ac01d0977c5460d96ed5f4c96ec8b4842ea511a66874e4b4", func := "annulet/annuletlaw16.RepLeast", spec := "repLeast", apart := false, narrowed := true }
def RepLeastUptoSaid : Prop := repLeastUptoRow.holds Try.pinned (OpenSpec.upto repLeastSpec)

/-- 'annuletlaw16.RepComes', WHERE WHAT IT READS IS OF BULK AT MOST 1048576: true; the input reads as it did. -/
def repComesUptoRow : OpenClaim := { program := "ytljihaihhnamfaa", sum := "5bbba16ad04c3024ac01d0977c5460d96ed5f4c96ec8b4842ea511a66874e4b4", func := "annulet/annuletlaw16.RepComes", spec := "repComes", unfollowed := true, recurses := true, apart := false, narrowed := true }
def RepComesUptoSaid : Prop := repComesUptoRow.holds Try.pinned (OpenSpec.upto repComesSpec)

/-- 'annuletlaw16.RepWay', WHERE WHAT IT READS IS OF BULK AT MOST 1048576: true; the input reads as it did. -/
def repWayUptoRow : OpenClaim := { program := "ytljihaihhnamfaa", sum := "5bbba16ad04c3024ac01d0977c5460d96ed5f4c96ec8b4842ea511a66874e4b4", func := "annulet/annuletlaw16.RepWay", spec := "repWay", unfollowed := true, recurses := true, apart := false, narrowed := true }
def RepWayUptoSaid : Prop := repWayUptoRow.holds Try.pinned (OpenSpec.upto repWaySpec)

end Rows
end Go.Proofs.Ytljihaihhnamfaa
