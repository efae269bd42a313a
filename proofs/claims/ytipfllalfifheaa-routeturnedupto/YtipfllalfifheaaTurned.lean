/- For every two identities and every place that hold together at most 1048576 values and letters the law that all identities turned by one way lead a packet that is turned by it the same way returns true, and the arguments stay as they were. -/
import Derived.Test.YtipfllalfifheaaRows
import Derived.Test.YtipfllalfifheaaFr15
import Derived.Test.YtipfllalfifheaaR8
import Derived.ProofKit
namespace Go.Proofs.Ytipfllalfifheaa
open Go.ChangeShapes Go.WideShapes Go.ChangeAt Go.RowKit

set_option maxRecDepth 100000 in
theorem routeTurned_lifted (os : Os) (started : os.Started) (H : Type) (enc : TypeId × Value → H) (F : Stop.Interp) :
    ReturnsInHanded {} Try.checked os 8 .any ((Rows.OpenSpec.upto Rows.routeTurnedSpec).pre6 enc Try.prog Try.f8 Rows.routeTurnedUptoRow.domain false) (((Rows.OpenSpec.upto Rows.routeTurnedSpec).at F).post enc Try.prog Try.f8 false true false false) := by
  refine returnsInHanded_of_cond (C := Try.checked) (s := Rows.OpenSpec.upto Rows.routeTurnedSpec) (k := Rows.uptoSmall) rfl Try.own started (by kernel_rfl) Try.func8
    (OpenSpec.witness (enc := enc) (C := Try.checked) (s := Rows.OpenSpec.upto Rows.routeTurnedSpec) (k := Rows.uptoSmall) rfl false ⟨#[], #[.agg (idA 0), .agg (plA 0 none 0 0 none 0 0), .agg (idA 0)], []⟩ 8 (by kernel_rfl) (by kernel_rfl) (by kernel_rfl)
      (x := ([.agg (List.replicate 16 (.lit (.int .u8 0))), .agg [.agg (List.replicate 16 (.lit (.int .u8 0))), .nil, .nil], .agg (List.replicate 16 (.lit (.int .u8 0)))], [], [])) (by kernel_rfl) rfl (by kernel_rfl)) ?_
  intro W base args ds gs before hval0 hW _ hk0 _
  have hk : Rows.uptoSmall H (ds ++ gs) = true := hk0
  have hval : ∀ (j : Nat) t v, Try.f8.params[j]? = some t → args[j]? = some v → Value.okWide Try.prog W .any base t v := hval0
  have hW' := hW
  obtain ⟨p, q, hA0, hV, rfl, hfz, hnd⟩ := hW
  have hA : DataW.TrodAll enc Try.prog W 0 (fun _ => true) true Try.f8.params.toList args.toList ds p := hA0
  rw [Try.params8] at hA hval
  obtain ⟨v0, v1, v2, d0, d1, d2, p0, p1, p2, rfl, rfl, rfl, h0, h1, h2⟩ := trodAll_three hA
  obtain ⟨rfl, rfl⟩ := trodVars_none hV
  clear hA0 hval0
  simp only [List.append_nil] at hW'
  have hlt0 : ∀ x ∈ p0, x.block < W.heap.size := fun x hx => by simpa using hW'.lt x (by simp [hx])
  have hlt1 : ∀ x ∈ p1, x.block < W.heap.size := fun x hx => by simpa using hW'.lt x (by simp [hx])
  have hlt2 : ∀ x ∈ p2, x.block < W.heap.size := fun x hx => by simpa using hW'.lt x (by simp [hx])
  have fin : ∀ (e : Ending) (W' : World), (e = .returned (.bool true) ∧ Gro W W') → ∃ v, e = .returned v ∧ Rows.routeTurnedSpec.post enc Try.prog Try.f8 false true false false W #[v0, v1, v2] v W' := by
    rintro e W' ⟨rfl, hb⟩
    refine ⟨_, rfl, _, _, _, [], p0 ++ (p1 ++ p2), [], hW', ?_, ?_, rfl, hb.frame _, fun h => by cases h⟩
    · exact trodAll_mk1 (shut_bool Try.underlying4 true)
    · exact trodAll_mk3 (Below.trod Try.laidOut (by kernel_rfl) (of_decide_eq_true (by kernel_rfl)) h0 hb hlt0) (Below.trod Try.laidOut (by kernel_rfl) (of_decide_eq_true (by kernel_rfl)) h1 hb hlt1) (Below.trod Try.laidOut (by kernel_rfl) (of_decide_eq_true (by kernel_rfl)) h2 hb hlt2)
  obtain ⟨x0, hx0, rfl⟩ := open_id (hval 0 23 v0 rfl rfl) h0
  obtain ⟨s1, an1, cn1, N1, ae1, ce1, E1, hs1, rfl, HN1, HE1, hB1⟩ := open_place (hval 1 27 v1 rfl rfl) h1
  obtain ⟨x2, hx2, rfl⟩ := open_id (hval 2 23 v2 rfl rfl) h2
  have hk2 := bulk_bound hk
  simp only [List.append_nil, Rows.uptoBulkAll] at hk2
  exact (routeTurned_any W x0 s1 x2 hx0 hs1 hx2 an1 cn1 N1 HN1 (by omega) ae1 ce1 E1 HE1 (by omega)).mono fin

theorem routeTurned_holds : Rows.RouteTurnedUptoSaid :=
  OpenClaim.holds_of_cond 8 Try.f8 rfl rfl rfl rfl rfl rfl rfl ⟨rfl, rfl, rfl, rfl, rfl⟩ rfl rfl rfl rfl rfl (by kernel_rfl) Try.func8 (by kernel_rfl)
    (of_decide_eq_true (by kernel_rfl)) (by unfold Func.isWrapper; first | (rw [if_pos (by decide +kernel)]; kernel_rfl) | (rw [if_neg (by decide +kernel)]; exact ⟨rfl, rfl⟩))
    (fun os started H enc _ F => routeTurned_lifted os started H enc F)

#print axioms routeTurned_holds
end Go.Proofs.Ytipfllalfifheaa
