/- For every node's case (entries, room, who it is, which sessions are open) and every way that a path is to go the law that the path begins, or is refused, as the document says, returns true, and the arguments stay as they were. -/
import Derived.Test.YtkjnefgenffhcaaRows
import Derived.Test.YtkjnefgenffhcaaCFr16
import Derived.Test.YtkjnefgenffhcaaCZ7
import Derived.ProofKit
import Derived.Deep.CondSized
namespace Go.Proofs.Ytkjnefgenffhcaa
open Go.ChangeShapes Go.WideShapes Go.ChangeAt Go.RowKit
set_option maxRecDepth 100000 in
theorem setupStarts_lifted (os : Os) (started : os.Started) (H : Type) (enc : TypeId × Value → H) :
    ReturnsInHanded {} Try.checked os 3 .any (Rows.setupStartsSpec.pre6 enc Try.prog Try.f3 Rows.setupStartsRow.domain false) (Rows.setupStartsSpec.post enc Try.prog Try.f3 false true false false) := by
  refine returnsInHanded_of_change_sized (C := Try.checked) Try.own started (by kernel_rfl) Try.func3
    (ChangeSpec.witness6 (enc := enc) (C := Try.checked) false ⟨#[], #[.agg (csA none 0 0 0 0 0 none 0 0), .agg (wyA zP 0 none 0 0)], []⟩ 8 (by kernel_rfl) (by kernel_rfl) (by kernel_rfl) (by kernel_rfl)) ?_
  intro W base args ds gs before hval0 hW hcnd hsz0 _
  have hsz : (DataW.weightsEach Try.prog (Try.f3.params.toList ++ Rows.setupStartsSpec.plain.varTypes Try.prog) (ds ++ gs)).all (· ≤ reachBytes) = true := hsz0
  have hval : ∀ (j : Nat) t v, Try.f3.params[j]? = some t → args[j]? = some v → Value.okWide Try.prog W .any base t v := hval0
  have hW' := hW
  obtain ⟨p, q, hA0, hV, rfl, hfz, hnd⟩ := hW
  have hA : DataW.TrodAll enc Try.prog W 0 (fun _ => true) true Try.f3.params.toList args.toList ds p := hA0
  rw [Try.params3] at hA hval hsz
  obtain ⟨v0, v1, d0, d1, q0, q1, rfl, rfl, rfl, h0, h1⟩ := trodAll_two hA
  obtain ⟨rfl, rfl⟩ := trodVars_none hV
  clear hA0 hval0
  simp only [List.append_nil] at hW'
  have hlt0 : ∀ x ∈ q0, x.block < W.heap.size := fun x hx => by simpa using hW'.lt x (by simp [hx])
  have hlt1 : ∀ x ∈ q1, x.block < W.heap.size := fun x hx => by simpa using hW'.lt x (by simp [hx])
  have fin : ∀ (e : Ending) (W' : World), (e = .returned (.bool true) ∧ Gro W W') → ∃ v, e = .returned v ∧ Rows.setupStartsSpec.post enc Try.prog Try.f3 false true false false W #[v0, v1] v W' := by
    rintro e W' ⟨rfl, hb⟩
    refine ⟨_, rfl, _, _, _, [], q0 ++ q1, [], hW', ?_, ?_, rfl, hb.frame _, fun h => by cases h⟩
    · exact trodAll_mk1 (shut_bool Try.underlying4 true)
    · exact trodAll_mk2 (Below.trod Try.laidOut (by kernel_rfl) (of_decide_eq_true (by kernel_rfl)) h0 hb hlt0) (Below.trod Try.laidOut (by kernel_rfl) (of_decide_eq_true (by kernel_rfl)) h1 hb hlt1)
  obtain ⟨ae, ce, E, most, N, i, ap, cq, o, hi, rfl, HE, hEl, HB⟩ := open_case (hval 0 29 v0 rfl rfl) h0
  obtain ⟨p, c, ao, cap, way, hp, hc, rfl, HI, hz⟩ := open_way (hval 1 34 v1 rfl rfl) h1
  have hy : ∀ y ∈ d1.weights Try.prog 34, y ≤ reachBytes := fun y hy => by
    have := List.all_eq_true.1 hsz y (DataW.weights_mem_each (j := 1) (t := 34) (d := d1) rfl rfl y hy)
    simpa using this
  have hzz := hz _ hy
  simp only [reachBytes] at hzz
  exact (setupStarts_any W ae ce E HE hEl most N i hi ap cq o HB p hp c hc ao cap way HI (by omega)).mono fin
theorem setupStarts_holds : Rows.SetupStartsSaid :=
  OpenClaim.holds_of_wide 3 Try.f3 rfl rfl rfl rfl rfl rfl rfl ⟨rfl, rfl, rfl, rfl, rfl⟩ rfl rfl rfl rfl rfl (by kernel_rfl) Try.func3 (by kernel_rfl)
    (of_decide_eq_true (by kernel_rfl)) (by unfold Func.isWrapper; first | (rw [if_pos (by decide +kernel)]; kernel_rfl) | (rw [if_neg (by decide +kernel)]; exact ⟨rfl, rfl⟩))
    (fun os started H enc _ => setupStarts_lifted os started H enc)
#print axioms setupStarts_holds
end Go.Proofs.Ytkjnefgenffhcaa
