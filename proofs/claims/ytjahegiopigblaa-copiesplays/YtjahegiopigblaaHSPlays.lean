/- For every script of calls the law that whatever is marked and forgotten, what is due is the document's, returns true, and the arguments stay as they were. -/
import Derived.Test.YtjahegiopigblaaRows
import Derived.Test.YtjahegiopigblaaHFr23
import Derived.Test.YtjahegiopigblaaHCB
import Derived.ProofKit
import Derived.Deep.CondSized
namespace Go.Proofs.Ytjahegiopigblaa
open Go.ChangeShapes Go.WideShapes Go.ChangeAt Go.RowKit
set_option maxRecDepth 100000 in
theorem copiesPlays_lifted (os : Os) (started : os.Started) (H : Type) (enc : TypeId × Value → H) :
    ReturnsInHanded {} Try.checked os 4 .any (Rows.copiesPlaysSpec.pre6 enc Try.prog Try.f4 Rows.copiesPlaysRow.domain false) (Rows.copiesPlaysSpec.post enc Try.prog Try.f4 false true false false) := by
  refine returnsInHanded_of_change_sized (C := Try.checked) Try.own started (by kernel_rfl) Try.func4
    (ChangeSpec.witness6 (enc := enc) (C := Try.checked) false ⟨#[], #[.slice none 0 0], []⟩ 8 (by kernel_rfl) (by kernel_rfl) (by kernel_rfl) (by kernel_rfl)) ?_
  intro W base args ds gs before hval0 hW hcnd hsz0 _
  have hsz : (DataW.weightsEach Try.prog (Try.f4.params.toList ++ Rows.copiesPlaysSpec.plain.varTypes Try.prog) (ds ++ gs)).all (· ≤ reachBytes) = true := hsz0
  have hval : ∀ (j : Nat) t v, Try.f4.params[j]? = some t → args[j]? = some v → Value.okWide Try.prog W .any base t v := hval0
  have hW' := hW
  obtain ⟨p, q, hA0, hV, rfl, hfz, hnd⟩ := hW
  have hA : DataW.TrodAll enc Try.prog W 0 (fun _ => true) true Try.f4.params.toList args.toList ds p := hA0
  rw [Try.params4] at hA hval hsz
  obtain ⟨v0, d0, rfl, rfl, h0⟩ := trodAll_one hA
  obtain ⟨rfl, rfl⟩ := trodVars_none hV
  clear hA0 hval0
  simp only [List.append_nil] at hW'
  have hlt0 : ∀ x ∈ p, x.block < W.heap.size := fun x hx => by simpa using hW'.lt x (by simp [hx])
  have fin : ∀ (e : Ending) (W' : World), (e = .returned (.bool true) ∧ Gro W W') → ∃ v, e = .returned v ∧ Rows.copiesPlaysSpec.post enc Try.prog Try.f4 false true false false W #[v0] v W' := by
    rintro e W' ⟨rfl, hb⟩
    refine ⟨_, rfl, _, _, _, [], p, [], hW', ?_, ?_, rfl, hb.frame _, fun h => by cases h⟩
    · exact trodAll_mk1 (shut_bool Try.underlying4 true)
    · exact trodAll_mk1 (Below.trod Try.laidOut (by kernel_rfl) (of_decide_eq_true (by kernel_rfl)) h0 hb hlt0)
  obtain ⟨ao0, cap0, l0, rfl, HA0, HN0, hz0⟩ := open_oqs (hval 0 31 v0 rfl rfl) h0
  have hy0 : ∀ y ∈ d0.weights Try.prog 31, y ≤ reachBytes := fun y hy => by
    have := List.all_eq_true.1 hsz y (DataW.weights_mem_each (j := 0) (t := 31) (d := d0) rfl rfl y hy)
    simpa using this
  have hzz0 := hz0 _ hy0
  simp only [reachBytes] at hzz0
  exact (copiesPlays_any ao0 cap0 l0 W HA0 HN0 (fun o ho z hz => by have := hzz0 o ho z hz; omega)).mono fin
theorem copiesPlays_holds : Rows.CopiesPlaysSaid :=
  OpenClaim.holds_of_wide 4 Try.f4 rfl rfl rfl rfl rfl rfl rfl ⟨rfl, rfl, rfl, rfl, rfl⟩ rfl rfl rfl rfl rfl (by kernel_rfl) Try.func4 (by kernel_rfl)
    (of_decide_eq_true (by kernel_rfl)) (by unfold Func.isWrapper; first | (rw [if_pos (by decide +kernel)]; kernel_rfl) | (rw [if_neg (by decide +kernel)]; exact ⟨rfl, rfl⟩))
    (fun os started H enc _ => copiesPlays_lifted os started H enc)
#print axioms copiesPlays_holds
end Go.Proofs.Ytjahegiopigblaa
