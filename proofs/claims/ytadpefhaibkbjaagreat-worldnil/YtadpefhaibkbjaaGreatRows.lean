/-
  No cell of these rows narrows 'for every input' (looked for: loops, veiled, ifaces, maps, wideKeys, modest, calm, conditions, laid).
  DERIVED. THE GIVEN ROWS OF THIS SEAT. 6 by the template 'for every input the law returns true; each argument reads behind the call as it read before'; 0 by the template 'total and deterministic' (their statements: YtadpefhaibkbjaaGreatTotals.lean).
  GIVEN WITH THE SEED: the statements are not yours to turn. If you find one false, say at which input.
  Laid BY PROGRAM, IN A SANDBOX (cutbox-rows.mjs): the forced cells as the released guide's own fill.sh prints them over the translation fa5650bcb1b3ea96… (all of the seat's roots in one cut). By AI agents, Wed Nov 11 2026. No macro, syntax, notation, axiom, sorry.
-/
import Derived.Test.YtadpefhaibkbjaaGreatChecked
import GoSem.Claim
import GoSem.ClaimJoined
import GoSem.ClaimMapViews
import Derived.JoinedTies
import Derived.KernelRfl
namespace Go.Proofs.YtadpefhaibkbjaaGreat
/- THE CELL 'sum', in the pinned program and in every row, IS THE sha256 OF THE DUMP (.gsa) THAT YtadpefhaibkbjaaGreatProg.lean LOADS. Nothing in Lean hashes anything: it is a label: what it is worth is what the hold of that sum in a sandbox is worth. -/
noncomputable def Tryz.pinned : Pinned := { name := "ytadpefhaibkbjaagreat", sum := "fa5650bcb1b3ea96db445ddcd90a426e25cdf78aa2b14f8b5dc7a4e328693153", checked := Tryz.checked }
namespace Rows
def none {H : Type} : Left H := { results := [], args := [] }

/-- 'annuletlaw21.WorldPlays': WHATEVER THE INPUT: true; the input reads as it did. -/
def worldPlaysSpec : ChangeSpec := { name := "worldPlays", fn := fun _ => fun
  | [d1, d2] => { results := [.lit (.bool true)], args := [d1, d2] }
  | _ => none }
def worldPlaysRow : OpenClaim := { program := "ytadpefhaibkbjaagreat", sum := "fa5650bcb1b3ea96db445ddcd90a426e25cdf78aa2b14f8b5dc7a4e328693153", func := "annulet/annuletlaw21.WorldPlays", spec := "worldPlays", unfollowed := true, recurses := true, plainKeys := false, apart := false }
def WorldPlaysSaid : Prop := worldPlaysRow.holds Tryz.pinned (OpenSpec.ofChange worldPlaysSpec)

/-- ITS FALSE NEIGHBOUR: 'it returns false'. Refute it at one input. -/
def worldPlaysWrong : ChangeSpec := { name := "worldPlays", fn := fun _ => fun
  | [d1, d2] => { results := [.lit (.bool false)], args := [d1, d2] }
  | _ => none }
def WorldPlaysWrongFalsely : Prop := worldPlaysRow.holds Tryz.pinned (OpenSpec.ofChange worldPlaysWrong)

/-- 'annuletlaw21.WorldSame': WHATEVER THE INPUT: true; the input reads as it did. -/
def worldSameSpec : ChangeSpec := { name := "worldSame", fn := fun _ => fun
  | [d1, d2, d3] => { results := [.lit (.bool true)], args := [d1, d2, d3] }
  | _ => none }
def worldSameRow : OpenClaim := { program := "ytadpefhaibkbjaagreat", sum := "fa5650bcb1b3ea96db445ddcd90a426e25cdf78aa2b14f8b5dc7a4e328693153", func := "annulet/annuletlaw21.WorldSame", spec := "worldSame", unfollowed := true, recurses := true, plainKeys := false, apart := false }
def WorldSameSaid : Prop := worldSameRow.holds Tryz.pinned (OpenSpec.ofChange worldSameSpec)

/-- ITS FALSE NEIGHBOUR: 'it returns false'. Refute it at one input. -/
def worldSameWrong : ChangeSpec := { name := "worldSame", fn := fun _ => fun
  | [d1, d2, d3] => { results := [.lit (.bool false)], args := [d1, d2, d3] }
  | _ => none }
def WorldSameWrongFalsely : Prop := worldSameRow.holds Tryz.pinned (OpenSpec.ofChange worldSameWrong)

/-- 'annuletlaw21.WorldCalm': WHATEVER THE INPUT: true; the input reads as it did. -/
def worldCalmSpec : ChangeSpec := { name := "worldCalm", fn := fun _ => fun
  | [d1, d2] => { results := [.lit (.bool true)], args := [d1, d2] }
  | _ => none }
def worldCalmRow : OpenClaim := { program := "ytadpefhaibkbjaagreat", sum := "fa5650bcb1b3ea96db445ddcd90a426e25cdf78aa2b14f8b5dc7a4e328693153", func := "annulet/annuletlaw21.WorldCalm", spec := "worldCalm", unfollowed := true, recurses := true, plainKeys := false, apart := false }
def WorldCalmSaid : Prop := worldCalmRow.holds Tryz.pinned (OpenSpec.ofChange worldCalmSpec)

/-- ITS FALSE NEIGHBOUR: 'it returns false'. Refute it at one input. -/
def worldCalmWrong : ChangeSpec := { name := "worldCalm", fn := fun _ => fun
  | [d1, d2] => { results := [.lit (.bool false)], args := [d1, d2] }
  | _ => none }
def WorldCalmWrongFalsely : Prop := worldCalmRow.holds Tryz.pinned (OpenSpec.ofChange worldCalmWrong)

/-- 'annuletlaw21.WorldNot': WHATEVER THE INPUT: true; the input reads as it did. -/
def worldNotSpec : ChangeSpec := { name := "worldNot", fn := fun _ => fun
  | [d1, d2, d3] => { results := [.lit (.bool true)], args := [d1, d2, d3] }
  | _ => none }
def worldNotRow : OpenClaim := { program := "ytadpefhaibkbjaagreat", sum := "fa5650bcb1b3ea96db445ddcd90a426e25cdf78aa2b14f8b5dc7a4e328693153", func := "annulet/annuletlaw21.WorldNot", spec := "worldNot", unfollowed := true, recurses := true, plainKeys := false, apart := false }
def WorldNotSaid : Prop := worldNotRow.holds Tryz.pinned (OpenSpec.ofChange worldNotSpec)

/-- ITS FALSE NEIGHBOUR: 'it returns false'. Refute it at one input. -/
def worldNotWrong : ChangeSpec := { name := "worldNot", fn := fun _ => fun
  | [d1, d2, d3] => { results := [.lit (.bool false)], args := [d1, d2, d3] }
  | _ => none }
def WorldNotWrongFalsely : Prop := worldNotRow.holds Tryz.pinned (OpenSpec.ofChange worldNotWrong)

/-- 'annuletlaw21.WorldNew': WHATEVER THE INPUT: true; the input reads as it did. -/
def worldNewSpec : ChangeSpec := { name := "worldNew", fn := fun _ => fun
  | [d1, d2] => { results := [.lit (.bool true)], args := [d1, d2] }
  | _ => none }
def worldNewRow : OpenClaim := { program := "ytadpefhaibkbjaagreat", sum := "fa5650bcb1b3ea96db445ddcd90a426e25cdf78aa2b14f8b5dc7a4e328693153", func := "annulet/annuletlaw21.WorldNew", spec := "worldNew", unfollowed := true, recurses := true, plainKeys := false, apart := false }
def WorldNewSaid : Prop := worldNewRow.holds Tryz.pinned (OpenSpec.ofChange worldNewSpec)

/-- ITS FALSE NEIGHBOUR: 'it returns false'. Refute it at one input. -/
def worldNewWrong : ChangeSpec := { name := "worldNew", fn := fun _ => fun
  | [d1, d2] => { results := [.lit (.bool false)], args := [d1, d2] }
  | _ => none }
def WorldNewWrongFalsely : Prop := worldNewRow.holds Tryz.pinned (OpenSpec.ofChange worldNewWrong)

/-- 'annuletlaw21.WorldNil': WHATEVER THE INPUT: true; the input reads as it did. -/
def worldNilSpec : ChangeSpec := { name := "worldNil", fn := fun _ => fun
  | [d1, d2, d3] => { results := [.lit (.bool true)], args := [d1, d2, d3] }
  | _ => none }
def worldNilRow : OpenClaim := { program := "ytadpefhaibkbjaagreat", sum := "fa5650bcb1b3ea96db445ddcd90a426e25cdf78aa2b14f8b5dc7a4e328693153", func := "annulet/annuletlaw21.WorldNil", spec := "worldNil", unfollowed := true, recurses := true, plainKeys := false, apart := false }
def WorldNilSaid : Prop := worldNilRow.holds Tryz.pinned (OpenSpec.ofChange worldNilSpec)

/-- ITS FALSE NEIGHBOUR: 'it returns false'. Refute it at one input. -/
def worldNilWrong : ChangeSpec := { name := "worldNil", fn := fun _ => fun
  | [d1, d2, d3] => { results := [.lit (.bool false)], args := [d1, d2, d3] }
  | _ => none }
def WorldNilWrongFalsely : Prop := worldNilRow.holds Tryz.pinned (OpenSpec.ofChange worldNilWrong)

/- THE SECOND FORM. 'bulk': how many values and letters a reading holds, each counted each time it is reached (what is shared counts as often as it is met; a slice's spare places count too). A statement '..UptoSaid' is the law's where the arguments, and the package variables that the reading takes, are together of bulk at most 1048576: NARROWER than '..Said'. Prove '..Said' where nothing that the law and all that it calls make is longer than what came in: it says more and counts as full. Else prove '..UptoSaid'. A law counts once. -/
mutual
def uptoBulk {H : Type} : DataW H → Nat
  | .lit (.string bytes) => bytes.length + 1
  | .lit _ => 1
  | .nil => 1
  | .ptr d => uptoBulk d + 1
  | .slice elems spare => uptoBulkAll elems + uptoBulkAll spare + 1
  | .agg parts => uptoBulkAll parts + 1
  | .iface _ d => uptoBulk d + 1
  | .map entries => uptoBulkEntries entries + 1
  | .held _ => 1
def uptoBulkAll {H : Type} : List (DataW H) → Nat
  | [] => 0
  | d :: r => uptoBulk d + uptoBulkAll r
def uptoBulkEntries {H : Type} : List (Lit × DataW H) → Nat
  | [] => 0
  | x :: r => uptoBulkEntry x + uptoBulkEntries r
def uptoBulkEntry {H : Type} : Lit × DataW H → Nat
  | (.string bytes, d) => bytes.length + uptoBulk d + 1
  | (_, d) => uptoBulk d + 1
 end
def uptoSmall : (H : Type) → List (DataW H) → Bool := fun _ ds => decide (uptoBulkAll ds ≤ 1048576)
def OpenSpec.upto (s : _root_.Go.ChangeSpec) : _root_.Go.OpenSpec := { _root_.Go.OpenSpec.ofChange s with cond := some uptoSmall }

/-- 'annuletlaw21.WorldPlays', WHERE WHAT IT READS IS OF BULK AT MOST 1048576: true; the input reads as it did. -/
def worldPlaysUptoRow : OpenClaim := { program := "ytadpefhaibkbjaagreat", sum := "fa5650bcb1b3ea96db445ddcd90a426e25cdf78aa2b14f8b5dc7a4e328693153", func := "annulet/annuletlaw21.WorldPlays", spec := "worldPlays", unfollowed := true, recurses := true, plainKeys := false, apart := false, narrowed := true }
def WorldPlaysUptoSaid : Prop := worldPlaysUptoRow.holds Tryz.pinned (OpenSpec.upto worldPlaysSpec)

/-- 'annuletlaw21.WorldSame', WHERE WHAT IT READS IS OF BULK AT MOST 1048576: true; the input reads as it did. -/
def worldSameUptoRow : OpenClaim := { program := "ytadpefhaibkbjaagreat", sum := "fa5650bcb1b3ea96db445ddcd90a426e25cdf78aa2b14f8b5dc7a4e328693153", func := "annulet/annuletlaw21.WorldSame", spec := "worldSame", unfollowed := true, recurses := true, plainKeys := false, apart := false, narrowed := true }
def WorldSameUptoSaid : Prop := worldSameUptoRow.holds Tryz.pinned (OpenSpec.upto worldSameSpec)

/-- 'annuletlaw21.WorldCalm', WHERE WHAT IT READS IS OF BULK AT MOST 1048576: true; the input reads as it did. -/
def worldCalmUptoRow : OpenClaim := { program := "ytadpefhaibkbjaagreat", sum := "fa5650bcb1b3ea96db445ddcd90a426e25cdf78aa2b14f8b5dc7a4e328693153", func := "annulet/annuletlaw21.WorldCalm", spec := "worldCalm", unfollowed := true, recurses := true, plainKeys := false, apart := false, narrowed := true }
def WorldCalmUptoSaid : Prop := worldCalmUptoRow.holds Tryz.pinned (OpenSpec.upto worldCalmSpec)

/-- 'annuletlaw21.WorldNot', WHERE WHAT IT READS IS OF BULK AT MOST 1048576: true; the input reads as it did. -/
def worldNotUptoRow : OpenClaim := { program := "ytadpefhaibkbjaagreat", sum := "fa5650bcb1b3ea96db445ddcd90a426e25cdf78aa2b14f8b5dc7a4e328693153", func := "annulet/annuletlaw21.WorldNot", spec := "worldNot", unfollowed := true, recurses := true, plainKeys := false, apart := false, narrowed := true }
def WorldNotUptoSaid : Prop := worldNotUptoRow.holds Tryz.pinned (OpenSpec.upto worldNotSpec)

/-- 'annuletlaw21.WorldNew', WHERE WHAT IT READS IS OF BULK AT MOST 1048576: true; the input reads as it did. -/
def worldNewUptoRow : OpenClaim := { program := "ytadpefhaibkbjaagreat", sum := "fa5650bcb1b3ea96db445ddcd90a426e25cdf78aa2b14f8b5dc7a4e328693153", func := "annulet/annuletlaw21.WorldNew", spec := "worldNew", unfollowed := true, recurses := true, plainKeys := false, apart := false, narrowed := true }
def WorldNewUptoSaid : Prop := worldNewUptoRow.holds Tryz.pinned (OpenSpec.upto worldNewSpec)

/-- 'annuletlaw21.WorldNil', WHERE WHAT IT READS IS OF BULK AT MOST 1048576: true; the input reads as it did. -/
def worldNilUptoRow : OpenClaim := { program := "ytadpefhaibkbjaagreat", sum := "fa5650bcb1b3ea96db445ddcd90a426e25cdf78aa2b14f8b5dc7a4e328693153", func := "annulet/annuletlaw21.WorldNil", spec := "worldNil", unfollowed := true, recurses := true, plainKeys := false, apart := false, narrowed := true }
def WorldNilUptoSaid : Prop := worldNilUptoRow.holds Tryz.pinned (OpenSpec.upto worldNilSpec)

end Rows
end Go.Proofs.YtadpefhaibkbjaaGreat
