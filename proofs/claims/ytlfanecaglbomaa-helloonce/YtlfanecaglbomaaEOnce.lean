/- For all that may happen to two ends and what is under way between them the law that what comes at an end while it has a pair is what the other one sent while it had that pair, in order, returns true, and the argument stays as it was. -/
import Derived.Test.YtlfanecaglbomaaRows
import Derived.Test.YtlfanecaglbomaaEFr2
import Derived.Test.YtlfanecaglbomaaEO10
import Derived.Test.YtlfanecaglbomaaEFr10
import Derived.Test.YtlfanecaglbomaaEFr11
import Derived.ProofKit
namespace Go.Proofs.Ytlfanecaglbomaa
open Go.ChangeShapes Go.WideShapes Go.ChangeAt Go.RowKit
set_option maxRecDepth 100000 in
theorem vg (os : Os) (started : os.Started) (H : Type) (enc : TypeId × Value → H) :
    ReturnsInHanded {} Try.checked os 4 .any (Rows.helloOnceSpec.pre6 enc Try.prog Try.f4 Rows.helloOnceRow.domain false) (Rows.helloOnceSpec.post enc Try.prog Try.f4 false true false false) := by
  refine returnsInHanded_of_change_sized (C := Try.checked) Try.own started (by kernel_rfl) Try.func4
    (ChangeSpec.witness6 (enc := enc) (C := Try.checked) false ⟨#[], #[.slice none 0 0], []⟩ 8 (by kernel_rfl) (by kernel_rfl) (by kernel_rfl) (by kernel_rfl)) ?_
  intro W base args ds gs before hval0 hW hcnd hsz0 _
  have hsz : (DataW.weightsEach Try.prog (Try.f4.params.toList ++ Rows.helloOnceSpec.plain.varTypes Try.prog) (ds ++ gs)).all (· ≤ reachBytes) = true := hsz0
  have hval : ∀ (j : Nat) t v, Try.f4.params[j]? = some t → args[j]? = some v → Value.okWide Try.prog W .any base t v := hval0
  have hW' := hW
  obtain ⟨p, q, hA0, hV, rfl, hfz, hnd⟩ := hW
  have hA : DataW.TrodAll enc Try.prog W 0 (fun _ => true) true Try.f4.params.toList args.toList ds p := hA0
  rw [Try.params4] at hA hval hsz
  obtain ⟨v0, d0, rfl, rfl, h0⟩ := trodAll_one hA
  obtain ⟨rfl, rfl⟩ := trodVars_none hV
  clear hA0 hval0
  simp only [List.append_nil] at hW'
  have hlt0 : ∀ x ∈ p, x.block < W.heap.size := fun x hx => by simpa using hW'.lt x (by simp [hx])
  have fin : ∀ (e : Ending) (W' : World), (e = .returned (vTr) ∧ Gro W W') → ∃ v, e = .returned v ∧ Rows.helloOnceSpec.post enc Try.prog Try.f4 false true false false W #[v0] v W' := by
    rintro e W' ⟨rfl, hb⟩
    refine ⟨_, rfl, _, _, _, [], p, [], hW', ?_, ?_, rfl, hb.frame _, fun h => by cases h⟩
    · exact trodAll_mk1 (shut_bool Try.underlying4 true)
    · exact trodAll_mk1 (Below.trod Try.laidOut (by kernel_rfl) (of_decide_eq_true (by kernel_rfl)) h0 hb hlt0)
  obtain ⟨ao, cap, qs, rfl, HO, hm⟩ := JA (hval 0 75 v0 rfl rfl) h0
  have hw : ∀ m ∈ d0.weights Try.prog 75, m ≤ reachBytes := by
    intro m hm
    refine of_decide_eq_true (List.all_eq_true.1 hsz m ?_)
    exact DataW.weights_mem_each (j := 0) (t := 75) (d := d0) rfl rfl m hm
  have hm := hm reachBytes hw
  have hr : reachBytes = 140737488351232 := rfl
  rw [hr] at hm
  exact (uc W ao cap qs HO (by omega)).mono fin
theorem helloOnce_holds : Rows.HelloOnceSaid :=
  OpenClaim.holds_of_wide 4 Try.f4 rfl rfl rfl rfl rfl rfl rfl ⟨rfl, rfl, rfl, rfl, rfl⟩ rfl rfl rfl rfl rfl (by kernel_rfl) Try.func4 (by kernel_rfl)
    (of_decide_eq_true (by kernel_rfl)) (by unfold Func.isWrapper; first | (rw [if_pos (by decide +kernel)]; kernel_rfl) | (rw [if_neg (by decide +kernel)]; exact ⟨rfl, rfl⟩))
    (fun os started H enc _ => vg os started H enc)
#print axioms helloOnce_holds
end Go.Proofs.Ytlfanecaglbomaa
