/-
  No cell of these rows narrows 'for every input' (looked for: loops, veiled, ifaces, maps, wideKeys, modest, calm, conditions, laid).
  DERIVED. THE GIVEN ROWS OF THIS SEAT. 6 by the template 'for every input the law returns true; each argument reads behind the call as it read before'; 0 by the template 'total and deterministic' (their statements: YtmjblbgalkjmiaaGreatTotals.lean).
  GIVEN WITH THE SEED: the statements are not yours to turn. If you find one false, say at which input.
  Laid BY PROGRAM, IN A SANDBOX (cutbox-rows.mjs): the forced cells as the released guide's own fill.sh prints them over the translation 1547ddc235d8bd2e… (all of the seat's roots in one cut). By AI agents, Wed Nov 11 2026. No macro, syntax, notation, axiom, sorry.
-/
import Derived.Test.YtmjblbgalkjmiaaGreatChecked
import GoSem.Claim
import GoSem.ClaimJoined
import GoSem.ClaimMapViews
import Derived.JoinedTies
import Derived.KernelRfl
namespace Go.Proofs.YtmjblbgalkjmiaaGreat
/- THE CELL 'sum', in the pinned program and in every row, IS THE sha256 OF THE DUMP (.gsa) THAT YtmjblbgalkjmiaaGreatProg.lean LOADS. Nothing in Lean hashes anything: it is a label: what it is worth is what the hold of that sum in a sandbox is worth. -/
noncomputable def Tryz.pinned : Pinned := { name := "ytmjblbgalkjmiaagreat", sum := "1547ddc235d8bd2e32e773df0c7ef65d146df3b707ec680dee4fab527e8a4507", checked := Tryz.checked }
namespace Rows
def none {H : Type} : Left H := { results := [], args := [] }

/-- 'annuletlaw22.WatchHops': WHATEVER THE INPUT: true; the input reads as it did. -/
def watchHopsSpec : ChangeSpec := { name := "watchHops", fn := fun _ => fun
  | [d1, d2, d3] => { results := [.lit (.bool true)], args := [d1, d2, d3] }
  | _ => none }
def watchHopsRow : OpenClaim := { program := "ytmjblbgalkjmiaagreat", sum := "1547ddc235d8bd2e32e773df0c7ef65d146df3b707ec680dee4fab527e8a4507", func := "annulet/annuletlaw22.WatchHops", spec := "watchHops", unfollowed := true, recurses := true, plainKeys := false, apart := false }
def WatchHopsSaid : Prop := watchHopsRow.holds Tryz.pinned (OpenSpec.ofChange watchHopsSpec)

/-- ITS FALSE NEIGHBOUR: 'it returns false'. Refute it at one input. -/
def watchHopsWrong : ChangeSpec := { name := "watchHops", fn := fun _ => fun
  | [d1, d2, d3] => { results := [.lit (.bool false)], args := [d1, d2, d3] }
  | _ => none }
def WatchHopsWrongFalsely : Prop := watchHopsRow.holds Tryz.pinned (OpenSpec.ofChange watchHopsWrong)

/-- 'annuletlaw22.WatchWholes': WHATEVER THE INPUT: true; the input reads as it did. -/
def watchWholesSpec : ChangeSpec := { name := "watchWholes", fn := fun _ => fun
  | [d1, d2, d3] => { results := [.lit (.bool true)], args := [d1, d2, d3] }
  | _ => none }
def watchWholesRow : OpenClaim := { program := "ytmjblbgalkjmiaagreat", sum := "1547ddc235d8bd2e32e773df0c7ef65d146df3b707ec680dee4fab527e8a4507", func := "annulet/annuletlaw22.WatchWholes", spec := "watchWholes", unfollowed := true, recurses := true, plainKeys := false, apart := false }
def WatchWholesSaid : Prop := watchWholesRow.holds Tryz.pinned (OpenSpec.ofChange watchWholesSpec)

/-- ITS FALSE NEIGHBOUR: 'it returns false'. Refute it at one input. -/
def watchWholesWrong : ChangeSpec := { name := "watchWholes", fn := fun _ => fun
  | [d1, d2, d3] => { results := [.lit (.bool false)], args := [d1, d2, d3] }
  | _ => none }
def WatchWholesWrongFalsely : Prop := watchWholesRow.holds Tryz.pinned (OpenSpec.ofChange watchWholesWrong)

/-- 'annuletlaw22.WatchWorlds': WHATEVER THE INPUT: true; the input reads as it did. -/
def watchWorldsSpec : ChangeSpec := { name := "watchWorlds", fn := fun _ => fun
  | [d1, d2] => { results := [.lit (.bool true)], args := [d1, d2] }
  | _ => none }
def watchWorldsRow : OpenClaim := { program := "ytmjblbgalkjmiaagreat", sum := "1547ddc235d8bd2e32e773df0c7ef65d146df3b707ec680dee4fab527e8a4507", func := "annulet/annuletlaw22.WatchWorlds", spec := "watchWorlds", unfollowed := true, recurses := true, plainKeys := false, apart := false }
def WatchWorldsSaid : Prop := watchWorldsRow.holds Tryz.pinned (OpenSpec.ofChange watchWorldsSpec)

/-- ITS FALSE NEIGHBOUR: 'it returns false'. Refute it at one input. -/
def watchWorldsWrong : ChangeSpec := { name := "watchWorlds", fn := fun _ => fun
  | [d1, d2] => { results := [.lit (.bool false)], args := [d1, d2] }
  | _ => none }
def WatchWorldsWrongFalsely : Prop := watchWorldsRow.holds Tryz.pinned (OpenSpec.ofChange watchWorldsWrong)

/-- 'annuletlaw22.WatchTraced': WHATEVER THE INPUT: true; the input reads as it did. -/
def watchTracedSpec : ChangeSpec := { name := "watchTraced", fn := fun _ => fun
  | [d1, d2] => { results := [.lit (.bool true)], args := [d1, d2] }
  | _ => none }
def watchTracedRow : OpenClaim := { program := "ytmjblbgalkjmiaagreat", sum := "1547ddc235d8bd2e32e773df0c7ef65d146df3b707ec680dee4fab527e8a4507", func := "annulet/annuletlaw22.WatchTraced", spec := "watchTraced", unfollowed := true, recurses := true, plainKeys := false, apart := false }
def WatchTracedSaid : Prop := watchTracedRow.holds Tryz.pinned (OpenSpec.ofChange watchTracedSpec)

/-- ITS FALSE NEIGHBOUR: 'it returns false'. Refute it at one input. -/
def watchTracedWrong : ChangeSpec := { name := "watchTraced", fn := fun _ => fun
  | [d1, d2] => { results := [.lit (.bool false)], args := [d1, d2] }
  | _ => none }
def WatchTracedWrongFalsely : Prop := watchTracedRow.holds Tryz.pinned (OpenSpec.ofChange watchTracedWrong)

/-- 'annuletlaw22.WatchSettles': WHATEVER THE INPUT: true; the input reads as it did. -/
def watchSettlesSpec : ChangeSpec := { name := "watchSettles", fn := fun _ => fun
  | [d1, d2] => { results := [.lit (.bool true)], args := [d1, d2] }
  | _ => none }
def watchSettlesRow : OpenClaim := { program := "ytmjblbgalkjmiaagreat", sum := "1547ddc235d8bd2e32e773df0c7ef65d146df3b707ec680dee4fab527e8a4507", func := "annulet/annuletlaw22.WatchSettles", spec := "watchSettles", unfollowed := true, recurses := true, plainKeys := false, apart := false }
def WatchSettlesSaid : Prop := watchSettlesRow.holds Tryz.pinned (OpenSpec.ofChange watchSettlesSpec)

/-- ITS FALSE NEIGHBOUR: 'it returns false'. Refute it at one input. -/
def watchSettlesWrong : ChangeSpec := { name := "watchSettles", fn := fun _ => fun
  | [d1, d2] => { results := [.lit (.bool false)], args := [d1, d2] }
  | _ => none }
def WatchSettlesWrongFalsely : Prop := watchSettlesRow.holds Tryz.pinned (OpenSpec.ofChange watchSettlesWrong)

/-- 'annuletlaw22.WatchReaches': WHATEVER THE INPUT: true; the input reads as it did. -/
def watchReachesSpec : ChangeSpec := { name := "watchReaches", fn := fun _ => fun
  | [d1, d2] => { results := [.lit (.bool true)], args := [d1, d2] }
  | _ => none }
def watchReachesRow : OpenClaim := { program := "ytmjblbgalkjmiaagreat", sum := "1547ddc235d8bd2e32e773df0c7ef65d146df3b707ec680dee4fab527e8a4507", func := "annulet/annuletlaw22.WatchReaches", spec := "watchReaches", unfollowed := true, recurses := true, plainKeys := false, apart := false }
def WatchReachesSaid : Prop := watchReachesRow.holds Tryz.pinned (OpenSpec.ofChange watchReachesSpec)

/-- ITS FALSE NEIGHBOUR: 'it returns false'. Refute it at one input. -/
def watchReachesWrong : ChangeSpec := { name := "watchReaches", fn := fun _ => fun
  | [d1, d2] => { results := [.lit (.bool false)], args := [d1, d2] }
  | _ => none }
def WatchReachesWrongFalsely : Prop := watchReachesRow.holds Tryz.pinned (OpenSpec.ofChange watchReachesWrong)

/- THE SECOND FORM. 'bulk': how many values and letters a reading holds, each counted each time it is reached (what is shared counts as often as it is met; a slice's spare places count too). A statement '..UptoSaid' is the law's where the arguments, and the package variables that the reading takes, are together of bulk at most 1048576: NARROWER than '..Said'. Prove '..Said' where nothing that the law and all that it calls make is longer than what came in: it says more and counts as full. Else prove '..UptoSaid'. A law counts once. -/
mutual
def uptoBulk {H : Type} : DataW H → Nat
  | .lit (.string bytes) => bytes.length + 1
  | .lit _ => 1
  | .nil => 1
  | .ptr d => uptoBulk d + 1
  | .slice elems spare => uptoBulkAll elems + uptoBulkAll spare + 1
  | .agg parts => uptoBulkAll parts + 1
  | .iface _ d => uptoBulk d + 1
  | .map entries => uptoBulkEntries entries + 1
  | .held _ => 1
def uptoBulkAll {H : Type} : List (DataW H) → Nat
  | [] => 0
  | d :: r => uptoBulk d + uptoBulkAll r
def uptoBulkEntries {H : Type} : List (Lit × DataW H) → Nat
  | [] => 0
  | x :: r => uptoBulkEntry x + uptoBulkEntries r
def uptoBulkEntry {H : Type} : Lit × DataW H → Nat
  | (.string bytes, d) => bytes.length + uptoBulk d + 1
  | (_, d) => uptoBulk d + 1
 end
def uptoSmall : (H : Type) → List (DataW H) → Bool := fun _ ds => decide (uptoBulkAll ds ≤ 1048576)
def OpenSpec.upto (s : _root_.Go.ChangeSpec) : _root_.Go.OpenSpec := { _root_.Go.OpenSpec.ofChange s with cond := some uptoSmall }

/-- 'annuletlaw22.WatchHops', WHERE WHAT IT READS IS OF BULK AT MOST 1048576: true; the input reads as it did. -/
def watchHopsUptoRow : OpenClaim := { program := "ytmjblbgalkjmiaagreat", sum := "1547ddc235d8bd2e32e773df0c7ef65d146df3b707ec680dee4fab527e8a4507", func := "annulet/annuletlaw22.WatchHops", spec := "watchHops", unfollowed := true, recurses := true, plainKeys := false, apart := false, narrowed := true }
def WatchHopsUptoSaid : Prop := watchHopsUptoRow.holds Tryz.pinned (OpenSpec.upto watchHopsSpec)

/-- 'annuletlaw22.WatchWholes', WHERE WHAT IT READS IS OF BULK AT MOST 1048576: true; the input reads as it did. -/
def watchWholesUptoRow : OpenClaim := { program := "ytmjblbgalkjmiaagreat", sum := "1547ddc235d8bd2e32e773df0c7ef65d146df3b707ec680dee4fab527e8a4507", func := "annulet/annuletlaw22.WatchWholes", spec := "watchWholes", unfollowed := true, recurses := true, plainKeys := false, apart := false, narrowed := true }
def WatchWholesUptoSaid : Prop := watchWholesUptoRow.holds Tryz.pinned (OpenSpec.upto watchWholesSpec)

/-- 'annuletlaw22.WatchWorlds', WHERE WHAT IT READS IS OF BULK AT MOST 1048576: true; the input reads as it did. -/
def watchWorldsUptoRow : OpenClaim := { program := "ytmjblbgalkjmiaagreat", sum := "1547ddc235d8bd2e32e773df0c7ef65d146df3b707ec680dee4fab527e8a4507", func := "annulet/annuletlaw22.WatchWorlds", spec := "watchWorlds", unfollowed := true, recurses := true, plainKeys := false, apart := false, narrowed := true }
def WatchWorldsUptoSaid : Prop := watchWorldsUptoRow.holds Tryz.pinned (OpenSpec.upto watchWorldsSpec)

/-- 'annuletlaw22.WatchTraced', WHERE WHAT IT READS IS OF BULK AT MOST 1048576: true; the input reads as it did. -/
def watchTracedUptoRow : OpenClaim := { program := "ytmjblbgalkjmiaagreat", sum := "1547ddc235d8bd2e32e773df0c7ef65d146df3b707ec680dee4fab527e8a4507", func := "annulet/annuletlaw22.WatchTraced", spec := "watchTraced", unfollowed := true, recurses := true, plainKeys := false, apart := false, narrowed := true }
def WatchTracedUptoSaid : Prop := watchTracedUptoRow.holds Tryz.pinned (OpenSpec.upto watchTracedSpec)

/-- 'annuletlaw22.WatchSettles', WHERE WHAT IT READS IS OF BULK AT MOST 1048576: true; the input reads as it did. -/
def watchSettlesUptoRow : OpenClaim := { program := "ytmjblbgalkjmiaagreat", sum := "1547ddc235d8bd2e32e773df0c7ef65d146df3b707ec680dee4fab527e8a4507", func := "annulet/annuletlaw22.WatchSettles", spec := "watchSettles", unfollowed := true, recurses := true, plainKeys := false, apart := false, narrowed := true }
def WatchSettlesUptoSaid : Prop := watchSettlesUptoRow.holds Tryz.pinned (OpenSpec.upto watchSettlesSpec)

/-- 'annuletlaw22.WatchReaches', WHERE WHAT IT READS IS OF BULK AT MOST 1048576: true; the input reads as it did. -/
def watchReachesUptoRow : OpenClaim := { program := "ytmjblbgalkjmiaagreat", sum := "1547ddc235d8bd2e32e773df0c7ef65d146df3b707ec680dee4fab527e8a4507", func := "annulet/annuletlaw22.WatchReaches", spec := "watchReaches", unfollowed := true, recurses := true, plainKeys := false, apart := false, narrowed := true }
def WatchReachesUptoSaid : Prop := watchReachesUptoRow.holds Tryz.pinned (OpenSpec.upto watchReachesSpec)

end Rows
end Go.Proofs.YtmjblbgalkjmiaaGreat
