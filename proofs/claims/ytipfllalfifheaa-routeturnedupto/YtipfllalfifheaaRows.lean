/-
  No cell of these rows narrows 'for every input' (looked for: loops, veiled, ifaces, maps, wideKeys, modest, calm, conditions, laid).
  DERIVED. THE GIVEN ROWS OF THIS SEAT. 6 by the template 'for every input the law returns true; each argument reads behind the call as it read before'; 0 by the template 'total and deterministic' (their statements: YtipfllalfifheaaTotals.lean).
  GIVEN WITH THE SEED: the statements are not yours to turn. If you find one false, say at which input.
  Laid BY PROGRAM, IN A SANDBOX (cutbox-rows.mjs): the forced cells as the released guide's own fill.sh prints them over the translation c8abe7912a9ea74e… (all of the seat's roots in one cut). By AI agents, Wed Nov 11 2026. No macro, syntax, notation, axiom, sorry.
-/
import Derived.Test.YtipfllalfifheaaChecked
import GoSem.Claim
import GoSem.ClaimJoined
import GoSem.ClaimMapViews
import Derived.JoinedTies
import Derived.KernelRfl
namespace Go.Proofs.Ytipfllalfifheaa
/- THE CELL 'sum', in the pinned program and in every row, IS THE sha256 OF THE DUMP (.gsa) THAT YtipfllalfifheaaProg.lean LOADS. Nothing in Lean hashes anything: it is a label: what it is worth is what the hold of that sum in a sandbox is worth. -/
noncomputable def Try.pinned : Pinned := { name := "ytipfllalfifheaa", sum := "c8abe7912a9ea74ebdfa8e8d328ba58c46e02fb63e28273e0189c9fc6bff9898", checked := Try.checked }
namespace Rows
def none {H : Type} : Left H := { results := [], args := [] }

/-- 'annuletlaw13.RouteChooses': WHATEVER THE INPUT: true; the input reads as it did. -/
def routeChoosesSpec : ChangeSpec := { name := "routeChooses", fn := fun _ => fun
  | [d1, d2] => { results := [.lit (.bool true)], args := [d1, d2] }
  | _ => none }
def routeChoosesRow : OpenClaim := { program := "ytipfllalfifheaa", sum := "c8abe7912a9ea74ebdfa8e8d328ba58c46e02fb63e28273e0189c9fc6bff9898", func := "annulet/annuletlaw13.RouteChooses", spec := "routeChooses", unfollowed := true, recurses := true, plainKeys := false, apart := false }
def RouteChoosesSaid : Prop := routeChoosesRow.holds Try.pinned (OpenSpec.ofChange routeChoosesSpec)

/-- ITS FALSE NEIGHBOUR: 'it returns false'. Refute it at one input. -/
def routeChoosesWrong : ChangeSpec := { name := "routeChooses", fn := fun _ => fun
  | [d1, d2] => { results := [.lit (.bool false)], args := [d1, d2] }
  | _ => none }
def RouteChoosesWrongFalsely : Prop := routeChoosesRow.holds Try.pinned (OpenSpec.ofChange routeChoosesWrong)

/-- 'annuletlaw13.RouteOrders': WHATEVER THE INPUT: true; the input reads as it did. -/
def routeOrdersSpec : ChangeSpec := { name := "routeOrders", fn := fun _ => fun
  | [d1, d2, d3] => { results := [.lit (.bool true)], args := [d1, d2, d3] }
  | _ => none }
def routeOrdersRow : OpenClaim := { program := "ytipfllalfifheaa", sum := "c8abe7912a9ea74ebdfa8e8d328ba58c46e02fb63e28273e0189c9fc6bff9898", func := "annulet/annuletlaw13.RouteOrders", spec := "routeOrders", unfollowed := true, recurses := true, plainKeys := false, apart := false }
def RouteOrdersSaid : Prop := routeOrdersRow.holds Try.pinned (OpenSpec.ofChange routeOrdersSpec)

/-- ITS FALSE NEIGHBOUR: 'it returns false'. Refute it at one input. -/
def routeOrdersWrong : ChangeSpec := { name := "routeOrders", fn := fun _ => fun
  | [d1, d2, d3] => { results := [.lit (.bool false)], args := [d1, d2, d3] }
  | _ => none }
def RouteOrdersWrongFalsely : Prop := routeOrdersRow.holds Try.pinned (OpenSpec.ofChange routeOrdersWrong)

/-- 'annuletlaw13.RouteNearest': WHATEVER THE INPUT: true; the input reads as it did. -/
def routeNearestSpec : ChangeSpec := { name := "routeNearest", fn := fun _ => fun
  | [d1, d2] => { results := [.lit (.bool true)], args := [d1, d2] }
  | _ => none }
def routeNearestRow : OpenClaim := { program := "ytipfllalfifheaa", sum := "c8abe7912a9ea74ebdfa8e8d328ba58c46e02fb63e28273e0189c9fc6bff9898", func := "annulet/annuletlaw13.RouteNearest", spec := "routeNearest", unfollowed := true, recurses := true, plainKeys := false, apart := false }
def RouteNearestSaid : Prop := routeNearestRow.holds Try.pinned (OpenSpec.ofChange routeNearestSpec)

/-- ITS FALSE NEIGHBOUR: 'it returns false'. Refute it at one input. -/
def routeNearestWrong : ChangeSpec := { name := "routeNearest", fn := fun _ => fun
  | [d1, d2] => { results := [.lit (.bool false)], args := [d1, d2] }
  | _ => none }
def RouteNearestWrongFalsely : Prop := routeNearestRow.holds Try.pinned (OpenSpec.ofChange routeNearestWrong)

/-- 'annuletlaw13.RouteMore': WHATEVER THE INPUT: true; the input reads as it did. -/
def routeMoreSpec : ChangeSpec := { name := "routeMore", fn := fun _ => fun
  | [d1, d2, d3] => { results := [.lit (.bool true)], args := [d1, d2, d3] }
  | _ => none }
def routeMoreRow : OpenClaim := { program := "ytipfllalfifheaa", sum := "c8abe7912a9ea74ebdfa8e8d328ba58c46e02fb63e28273e0189c9fc6bff9898", func := "annulet/annuletlaw13.RouteMore", spec := "routeMore", unfollowed := true, recurses := true, plainKeys := false, apart := false }
def RouteMoreSaid : Prop := routeMoreRow.holds Try.pinned (OpenSpec.ofChange routeMoreSpec)

/-- ITS FALSE NEIGHBOUR: 'it returns false'. Refute it at one input. -/
def routeMoreWrong : ChangeSpec := { name := "routeMore", fn := fun _ => fun
  | [d1, d2, d3] => { results := [.lit (.bool false)], args := [d1, d2, d3] }
  | _ => none }
def RouteMoreWrongFalsely : Prop := routeMoreRow.holds Try.pinned (OpenSpec.ofChange routeMoreWrong)

/-- 'annuletlaw13.RouteHome': WHATEVER THE INPUT: true; the input reads as it did. -/
def routeHomeSpec : ChangeSpec := { name := "routeHome", fn := fun _ => fun
  | [d] => { results := [.lit (.bool true)], args := [d] }
  | _ => none }
def routeHomeRow : OpenClaim := { program := "ytipfllalfifheaa", sum := "c8abe7912a9ea74ebdfa8e8d328ba58c46e02fb63e28273e0189c9fc6bff9898", func := "annulet/annuletlaw13.RouteHome", spec := "routeHome", unfollowed := true, recurses := true, plainKeys := false, apart := false }
def RouteHomeSaid : Prop := routeHomeRow.holds Try.pinned (OpenSpec.ofChange routeHomeSpec)

/-- ITS FALSE NEIGHBOUR: 'it returns false'. Refute it at one input. -/
def routeHomeWrong : ChangeSpec := { name := "routeHome", fn := fun _ => fun
  | [d] => { results := [.lit (.bool false)], args := [d] }
  | _ => none }
def RouteHomeWrongFalsely : Prop := routeHomeRow.holds Try.pinned (OpenSpec.ofChange routeHomeWrong)

/-- 'annuletlaw13.RouteTurned': WHATEVER THE INPUT: true; the input reads as it did. -/
def routeTurnedSpec : ChangeSpec := { name := "routeTurned", fn := fun _ => fun
  | [d1, d2, d3] => { results := [.lit (.bool true)], args := [d1, d2, d3] }
  | _ => none }
def routeTurnedRow : OpenClaim := { program := "ytipfllalfifheaa", sum := "c8abe7912a9ea74ebdfa8e8d328ba58c46e02fb63e28273e0189c9fc6bff9898", func := "annulet/annuletlaw13.RouteTurned", spec := "routeTurned", unfollowed := true, recurses := true, plainKeys := false, apart := false }
def RouteTurnedSaid : Prop := routeTurnedRow.holds Try.pinned (OpenSpec.ofChange routeTurnedSpec)

/-- ITS FALSE NEIGHBOUR: 'it returns false'. Refute it at one input. -/
def routeTurnedWrong : ChangeSpec := { name := "routeTurned", fn := fun _ => fun
  | [d1, d2, d3] => { results := [.lit (.bool false)], args := [d1, d2, d3] }
  | _ => none }
def RouteTurnedWrongFalsely : Prop := routeTurnedRow.holds Try.pinned (OpenSpec.ofChange routeTurnedWrong)

/- THE SECOND FORM. 'bulk': how many values and letters a reading holds, each counted each time it is reached (what is shared counts as often as it is met; a slice's spare places count too). A statement '..UptoSaid' is the law's where the arguments, and the package variables that the reading takes, are together of bulk at most 1048576: NARROWER than '..Said'. Prove '..Said' where nothing that the law and all that it calls make is longer than what came in: it says more and counts as full. Else prove '..UptoSaid'. A law counts once. -/
mutual
def uptoBulk {H : Type} : DataW H → Nat
  | .lit (.string bytes) => bytes.length + 1
  | .lit _ => 1
  | .nil => 1
  | .ptr d => uptoBulk d + 1
  | .slice elems spare => uptoBulkAll elems + uptoBulkAll spare + 1
  | .agg parts => uptoBulkAll parts + 1
  | .iface _ d => uptoBulk d + 1
  | .map entries => uptoBulkEntries entries + 1
  | .held _ => 1
def uptoBulkAll {H : Type} : List (DataW H) → Nat
  | [] => 0
  | d :: r => uptoBulk d + uptoBulkAll r
def uptoBulkEntries {H : Type} : List (Lit × DataW H) → Nat
  | [] => 0
  | x :: r => uptoBulkEntry x + uptoBulkEntries r
def uptoBulkEntry {H : Type} : Lit × DataW H → Nat
  | (.string bytes, d) => bytes.length + uptoBulk d + 1
  | (_, d) => uptoBulk d + 1
 end
def uptoSmall : (H : Type) → List (DataW H) → Bool := fun _ ds => decide (uptoBulkAll ds ≤ 1048576)
def OpenSpec.upto (s : _root_.Go.ChangeSpec) : _root_.Go.OpenSpec := { _root_.Go.OpenSpec.ofChange s with cond := some uptoSmall }

/-- 'annuletlaw13.RouteChooses', WHERE WHAT IT READS IS OF BULK AT MOST 1048576: true; the input reads as it did. -/
def routeChoosesUptoRow : OpenClaim := { program := "ytipfllalfifheaa", sum := "c8abe7912a9ea74ebdfa8e8d328ba58c46e02fb63e28273e0189c9fc6bff9898", func := "annulet/annuletlaw13.RouteChooses", spec := "routeChooses", unfollowed := true, recurses := true, plainKeys := false, apart := false, narrowed := true }
def RouteChoosesUptoSaid : Prop := routeChoosesUptoRow.holds Try.pinned (OpenSpec.upto routeChoosesSpec)

/-- 'annuletlaw13.RouteOrders', WHERE WHAT IT READS IS OF BULK AT MOST 1048576: true; the input reads as it did. -/
def routeOrdersUptoRow : OpenClaim := { program := "ytipfllalfifheaa", sum := "c8abe7912a9ea74ebdfa8e8d328ba58c46e02fb63e28273e0189c9fc6bff9898", func := "annulet/annuletlaw13.RouteOrders", spec := "routeOrders", unfollowed := true, recurses := true, plainKeys := false, apart := false, narrowed := true }
def RouteOrdersUptoSaid : Prop := routeOrdersUptoRow.holds Try.pinned (OpenSpec.upto routeOrdersSpec)

/-- 'annuletlaw13.RouteNearest', WHERE WHAT IT READS IS OF BULK AT MOST 1048576: true; the input reads as it did. -/
def routeNearestUptoRow : OpenClaim := { program := "ytipfllalfifheaa", sum := "c8abe7912a9ea74ebdfa8e8d328ba58c46e02fb63e28273e0189c9fc6bff9898", func := "annulet/annuletlaw13.RouteNearest", spec := "routeNearest", unfollowed := true, recurses := true, plainKeys := false, apart := false, narrowed := true }
def RouteNearestUptoSaid : Prop := routeNearestUptoRow.holds Try.pinned (OpenSpec.upto routeNearestSpec)

/-- 'annuletlaw13.RouteMore', WHERE WHAT IT READS IS OF BULK AT MOST 1048576: true; the input reads as it did. -/
def routeMoreUptoRow : OpenClaim := { program := "ytipfllalfifheaa", sum := "c8abe7912a9ea74ebdfa8e8d328ba58c46e02fb63e28273e0189c9fc6bff9898", func := "annulet/annuletlaw13.RouteMore", spec := "routeMore", unfollowed := true, recurses := true, plainKeys := false, apart := false, narrowed := true }
def RouteMoreUptoSaid : Prop := routeMoreUptoRow.holds Try.pinned (OpenSpec.upto routeMoreSpec)

/-- 'annuletlaw13.RouteHome', WHERE WHAT IT READS IS OF BULK AT MOST 1048576: true; the input reads as it did. -/
def routeHomeUptoRow : OpenClaim := { program := "ytipfllalfifheaa", sum := "c8abe7912a9ea74ebdfa8e8d328ba58c46e02fb63e28273e0189c9fc6bff9898", func := "annulet/annuletlaw13.RouteHome", spec := "routeHome", unfollowed := true, recurses := true, plainKeys := false, apart := false, narrowed := true }
def RouteHomeUptoSaid : Prop := routeHomeUptoRow.holds Try.pinned (OpenSpec.upto routeHomeSpec)

/-- 'annuletlaw13.RouteTurned', WHERE WHAT IT READS IS OF BULK AT MOST 1048576: true; the input reads as it did. -/
def routeTurnedUptoRow : OpenClaim := { program := "ytipfllalfifheaa", sum := "c8abe7912a9ea74ebdfa8e8d328ba58c46e02fb63e28273e0189c9fc6bff9898", func := "annulet/annuletlaw13.RouteTurned", spec := "routeTurned", unfollowed := true, recurses := true, plainKeys := false, apart := false, narrowed := true }
def RouteTurnedUptoSaid : Prop := routeTurnedUptoRow.holds Try.pinned (OpenSpec.upto routeTurnedSpec)

end Rows
end Go.Proofs.Ytipfllalfifheaa
