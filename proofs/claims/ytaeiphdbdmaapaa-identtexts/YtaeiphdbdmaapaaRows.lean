/-
  No cell of these rows narrows 'for every input' (looked for: loops, veiled, ifaces, maps, wideKeys, modest, calm, conditions, laid).
  DERIVED. THE GIVEN ROWS OF THIS SEAT. 6 by the template 'for every input the law returns true; each argument reads behind the call as it read before'; 0 by the template 'total and deterministic' (their statements: YtaeiphdbdmaapaaTotals.lean).
  GIVEN WITH THE SEED: the statements are not yours to turn. If you find one false, say at which input.
  Laid BY PROGRAM, IN A SANDBOX (cutbox-rows.mjs): the forced cells as the released guide's own fill.sh prints them over the translation 947eb3a8de3797bc… (all of the seat's roots in one cut). By AI agents, Wed Nov 11 2026. No macro, syntax, notation, axiom, sorry.
-/
import Derived.Test.YtaeiphdbdmaapaaChecked
import GoSem.Claim
import GoSem.ClaimJoined
import GoSem.ClaimMapViews
import Derived.JoinedTies
import Derived.KernelRfl
namespace Go.Proofs.Ytaeiphdbdmaapaa
/- THE CELL 'sum', in the pinned program and in every row, IS THE sha256 OF THE DUMP (.gsa) THAT YtaeiphdbdmaapaaProg.lean LOADS. Nothing in Lean hashes anything: it is a label: what it is worth is what the hold of that sum in a sandbox is worth. -/
noncomputable def Try.pinned : Pinned := { name := "ytaeiphdbdmaapaa", sum := "947eb3a8de3797bc23c6f0e0922839b1f1d302c965e37dadfdfeebc283c26ffe", checked := Try.checked }
namespace Rows
def none {H : Type} : Left H := { results := [], args := [] }

/-- 'annuletlaw01.IdentSums': WHATEVER THE INPUT: true; the input reads as it did. -/
def identSumsSpec : ChangeSpec := { name := "identSums", fn := fun _ => fun
  | [d1, d2] => { results := [.lit (.bool true)], args := [d1, d2] }
  | _ => none }
def identSumsRow : OpenClaim := { program := "ytaeiphdbdmaapaa", sum := "947eb3a8de3797bc23c6f0e0922839b1f1d302c965e37dadfdfeebc283c26ffe", func := "annulet/annuletlaw01.IdentSums", spec := "identSums", apart := false }
def IdentSumsSaid : Prop := identSumsRow.holds Try.pinned (OpenSpec.ofChange identSumsSpec)

/-- ITS FALSE NEIGHBOUR: 'it returns false'. Refute it at one input. -/
def identSumsWrong : ChangeSpec := { name := "identSums", fn := fun _ => fun
  | [d1, d2] => { results := [.lit (.bool false)], args := [d1, d2] }
  | _ => none }
def IdentSumsWrongFalsely : Prop := identSumsRow.holds Try.pinned (OpenSpec.ofChange identSumsWrong)

/-- 'annuletlaw01.IdentNears': WHATEVER THE INPUT: true; the input reads as it did. -/
def identNearsSpec : ChangeSpec := { name := "identNears", fn := fun _ => fun
  | [d1, d2, d3] => { results := [.lit (.bool true)], args := [d1, d2, d3] }
  | _ => none }
def identNearsRow : OpenClaim := { program := "ytaeiphdbdmaapaa", sum := "947eb3a8de3797bc23c6f0e0922839b1f1d302c965e37dadfdfeebc283c26ffe", func := "annulet/annuletlaw01.IdentNears", spec := "identNears", apart := false }
def IdentNearsSaid : Prop := identNearsRow.holds Try.pinned (OpenSpec.ofChange identNearsSpec)

/-- ITS FALSE NEIGHBOUR: 'it returns false'. Refute it at one input. -/
def identNearsWrong : ChangeSpec := { name := "identNears", fn := fun _ => fun
  | [d1, d2, d3] => { results := [.lit (.bool false)], args := [d1, d2, d3] }
  | _ => none }
def IdentNearsWrongFalsely : Prop := identNearsRow.holds Try.pinned (OpenSpec.ofChange identNearsWrong)

/-- 'annuletlaw01.IdentTurns': WHATEVER THE INPUT: true; the input reads as it did. -/
def identTurnsSpec : ChangeSpec := { name := "identTurns", fn := fun _ => fun
  | [d1, d2, d3] => { results := [.lit (.bool true)], args := [d1, d2, d3] }
  | _ => none }
def identTurnsRow : OpenClaim := { program := "ytaeiphdbdmaapaa", sum := "947eb3a8de3797bc23c6f0e0922839b1f1d302c965e37dadfdfeebc283c26ffe", func := "annulet/annuletlaw01.IdentTurns", spec := "identTurns", apart := false }
def IdentTurnsSaid : Prop := identTurnsRow.holds Try.pinned (OpenSpec.ofChange identTurnsSpec)

/-- ITS FALSE NEIGHBOUR: 'it returns false'. Refute it at one input. -/
def identTurnsWrong : ChangeSpec := { name := "identTurns", fn := fun _ => fun
  | [d1, d2, d3] => { results := [.lit (.bool false)], args := [d1, d2, d3] }
  | _ => none }
def IdentTurnsWrongFalsely : Prop := identTurnsRow.holds Try.pinned (OpenSpec.ofChange identTurnsWrong)

/-- 'annuletlaw01.IdentTexts': WHATEVER THE INPUT: true; the input reads as it did. -/
def identTextsSpec : ChangeSpec := { name := "identTexts", fn := fun _ => fun
  | [d1, d2] => { results := [.lit (.bool true)], args := [d1, d2] }
  | _ => none }
def identTextsRow : OpenClaim := { program := "ytaeiphdbdmaapaa", sum := "947eb3a8de3797bc23c6f0e0922839b1f1d302c965e37dadfdfeebc283c26ffe", func := "annulet/annuletlaw01.IdentTexts", spec := "identTexts", apart := false }
def IdentTextsSaid : Prop := identTextsRow.holds Try.pinned (OpenSpec.ofChange identTextsSpec)

/-- ITS FALSE NEIGHBOUR: 'it returns false'. Refute it at one input. -/
def identTextsWrong : ChangeSpec := { name := "identTexts", fn := fun _ => fun
  | [d1, d2] => { results := [.lit (.bool false)], args := [d1, d2] }
  | _ => none }
def IdentTextsWrongFalsely : Prop := identTextsRow.holds Try.pinned (OpenSpec.ofChange identTextsWrong)

/-- 'annuletlaw01.IdentOne': WHATEVER THE INPUT: true; the input reads as it did. -/
def identOneSpec : ChangeSpec := { name := "identOne", fn := fun _ => fun
  | [d1, d2] => { results := [.lit (.bool true)], args := [d1, d2] }
  | _ => none }
def identOneRow : OpenClaim := { program := "ytaeiphdbdmaapaa", sum := "947eb3a8de3797bc23c6f0e0922839b1f1d302c965e37dadfdfeebc283c26ffe", func := "annulet/annuletlaw01.IdentOne", spec := "identOne", apart := false }
def IdentOneSaid : Prop := identOneRow.holds Try.pinned (OpenSpec.ofChange identOneSpec)

/-- ITS FALSE NEIGHBOUR: 'it returns false'. Refute it at one input. -/
def identOneWrong : ChangeSpec := { name := "identOne", fn := fun _ => fun
  | [d1, d2] => { results := [.lit (.bool false)], args := [d1, d2] }
  | _ => none }
def IdentOneWrongFalsely : Prop := identOneRow.holds Try.pinned (OpenSpec.ofChange identOneWrong)

/-- 'annuletlaw01.IdentBack': WHATEVER THE INPUT: true; the input reads as it did. -/
def identBackSpec : ChangeSpec := { name := "identBack", fn := fun _ => fun
  | [d1, d2] => { results := [.lit (.bool true)], args := [d1, d2] }
  | _ => none }
def identBackRow : OpenClaim := { program := "ytaeiphdbdmaapaa", sum := "947eb3a8de3797bc23c6f0e0922839b1f1d302c965e37dadfdfeebc283c26ffe", func := "annulet/annuletlaw01.IdentBack", spec := "identBack", apart := false }
def IdentBackSaid : Prop := identBackRow.holds Try.pinned (OpenSpec.ofChange identBackSpec)

/-- ITS FALSE NEIGHBOUR: 'it returns false'. Refute it at one input. -/
def identBackWrong : ChangeSpec := { name := "identBack", fn := fun _ => fun
  | [d1, d2] => { results := [.lit (.bool false)], args := [d1, d2] }
  | _ => none }
def IdentBackWrongFalsely : Prop := identBackRow.holds Try.pinned (OpenSpec.ofChange identBackWrong)

/- THE SECOND FORM. 'bulk': how many values and letters a reading holds, each counted each time it is reached (what is shared counts as often as it is met; a slice's spare places count too). A statement '..UptoSaid' is the law's where the arguments, and the package variables that the reading takes, are together of bulk at most 1048576: NARROWER than '..Said'. Prove '..Said' where nothing that the law and all that it calls make is longer than what came in: it says more and counts as full. Else prove '..UptoSaid'. A law counts once. -/
mutual
def uptoBulk {H : Type} : DataW H → Nat
  | .lit (.string bytes) => bytes.length + 1
  | .lit _ => 1
  | .nil => 1
  | .ptr d => uptoBulk d + 1
  | .slice elems spare => uptoBulkAll elems + uptoBulkAll spare + 1
  | .agg parts => uptoBulkAll parts + 1
  | .iface _ d => uptoBulk d + 1
  | .map entries => uptoBulkEntries entries + 1
  | .held _ => 1
def uptoBulkAll {H : Type} : List (DataW H) → Nat
  | [] => 0
  | d :: r => uptoBulk d + uptoBulkAll r
def uptoBulkEntries {H : Type} : List (Lit × DataW H) → Nat
  | [] => 0
  | x :: r => uptoBulkEntry x + uptoBulkEntries r
def uptoBulkEntry {H : Type} : Lit × DataW H → Nat
  | (.string bytes, d) => bytes.length + uptoBulk d + 1
  | (_, d) => uptoBulk d + 1
 end
def uptoSmall : (H : Type) → List (DataW H) → Bool := fun _ ds => decide (uptoBulkAll ds ≤ 1048576)
def OpenSpec.upto (s : _root_.Go.ChangeSpec) : _root_.Go.OpenSpec := { _root_.Go.OpenSpec.ofChange s with cond := some uptoSmall }

/-- 'annuletlaw01.IdentSums', WHERE WHAT IT READS IS OF BULK AT MOST 1048576: true; the input reads as it did. -/
def identSumsUptoRow : OpenClaim := { program := "ytaeiphdbdmaapaa", sum := "947eb3a8de3797bc23c6f0e0922839b1f1d302c965e37dadfdfeebc283c26ffe", func := "annulet/annuletlaw01.IdentSums", spec := "identSums", apart := false, narrowed := true }
def IdentSumsUptoSaid : Prop := identSumsUptoRow.holds Try.pinned (OpenSpec.upto identSumsSpec)

/-- 'annuletlaw01.IdentNears', WHERE WHAT IT READS IS OF BULK AT MOST 1048576: true; the input reads as it did. -/
def identNearsUptoRow : OpenClaim := { program := "ytaeiphdbdmaapaa", sum := "947eb3a8de3797bc23c6f0e0922839b1f1d302c965e37dadfdfeebc283c26ffe", func := "annulet/annuletlaw01.IdentNears", spec := "identNears", apart := false, narrowed := true }
def IdentNearsUptoSaid : Prop := identNearsUptoRow.holds Try.pinned (OpenSpec.upto identNearsSpec)

/-- 'annuletlaw01.IdentTurns', WHERE WHAT IT READS IS OF BULK AT MOST 1048576: true; the input reads as it did. -/
def identTurnsUptoRow : OpenClaim := { program := "ytaeiphdbdmaapaa", sum := "947eb3a8de3797bc23c6f0e0922839b1f1d302c965e37dadfdfeebc283c26ffe", func := "annulet/annuletlaw01.IdentTurns", spec := "identTurns", apart := false, narrowed := true }
def IdentTurnsUptoSaid : Prop := identTurnsUptoRow.holds Try.pinned (OpenSpec.upto identTurnsSpec)

/-- 'annuletlaw01.IdentTexts', WHERE WHAT IT READS IS OF BULK AT MOST 1048576: true; the input reads as it did. -/
def identTextsUptoRow : OpenClaim := { program := "ytaeiphdbdmaapaa", sum := "947eb3a8de3797bc23c6f0e0922839b1f1d302c965e37dadfdfeebc283c26ffe", func := "annulet/annuletlaw01.IdentTexts", spec := "identTexts", apart := false, narrowed := true }
def IdentTextsUptoSaid : Prop := identTextsUptoRow.holds Try.pinned (OpenSpec.upto identTextsSpec)

/-- 'annuletlaw01.IdentOne', WHERE WHAT IT READS IS OF BULK AT MOST 1048576: true; the input reads as it did. -/
def identOneUptoRow : OpenClaim := { program := "ytaeiphdbdmaapaa", sum := "947eb3a8de3797bc23c6f0e0922839b1f1d302c965e37dadfdfeebc283c26ffe", func := "annulet/annuletlaw01.IdentOne", spec := "identOne", apart := false, narrowed := true }
def IdentOneUptoSaid : Prop := identOneUptoRow.holds Try.pinned (OpenSpec.upto identOneSpec)

/-- 'annuletlaw01.IdentBack', WHERE WHAT IT READS IS OF BULK AT MOST 1048576: true; the input reads as it did. -/
def identBackUptoRow : OpenClaim := { program := "ytaeiphdbdmaapaa", sum := "947eb3a8de3797bc23c6f0e0922839b1f1d302c965e37dadfdfeebc283c26ffe", func := "annulet/annuletlaw01.IdentBack", spec := "identBack", apart := false, narrowed := true }
def IdentBackUptoSaid : Prop := identBackUptoRow.holds Try.pinned (OpenSpec.upto identBackSpec)

end Rows
end Go.Proofs.Ytaeiphdbdmaapaa
