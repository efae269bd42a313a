/- For all lists of bytes and all that may happen between two ends the law that the texts are taken in order, each once, and that what waits are the last ones, among them all that did not come, returns true, and the arguments stay as they were. -/
import Derived.Test.YthlfjbnfeclkmaaRows
import Derived.Test.YthlfjbnfeclkmaaFr2
import Derived.Test.YthlfjbnfeclkmaaU6
import Derived.Test.YthlfjbnfeclkmaaFr5
import Derived.Test.YthlfjbnfeclkmaaFrW
import Derived.ProofKit
namespace Go.Proofs.Ythlfjbnfeclkmaa
open Go.ChangeShapes Go.WideShapes Go.ChangeAt Go.RowKit

set_option maxRecDepth 100000 in
theorem windowOnce_lifted (os : Os) (started : os.Started) (H : Type) (enc : TypeId × Value → H) :
    ReturnsInHanded {} Try.checked os 4 .any (Rows.windowOnceSpec.pre6 enc Try.prog Try.f4 Rows.windowOnceRow.domain false) (Rows.windowOnceSpec.post enc Try.prog Try.f4 false true false false) := by
  refine returnsInHanded_of_change_sized (C := Try.checked) Try.own started (by kernel_rfl) Try.func4
    (ChangeSpec.witness6 (enc := enc) (C := Try.checked) false ⟨#[], #[.slice none 0 0, .slice none 0 0], []⟩ 8 (by kernel_rfl) (by kernel_rfl) (by kernel_rfl) (by kernel_rfl)) ?_
  intro W base args ds gs before hval0 hW hcnd hsz0 _
  have hsz : (DataW.weightsEach Try.prog (Try.f4.params.toList ++ Rows.windowOnceSpec.plain.varTypes Try.prog) (ds ++ gs)).all (· ≤ reachBytes) = true := hsz0
  have hval : ∀ (j : Nat) t v, Try.f4.params[j]? = some t → args[j]? = some v → Value.okWide Try.prog W .any base t v := hval0
  have hW' := hW
  obtain ⟨p, q, hA0, hV, rfl, hfz, hnd⟩ := hW
  have hA : DataW.TrodAll enc Try.prog W 0 (fun _ => true) true Try.f4.params.toList args.toList ds p := hA0
  rw [Try.params4] at hA hval hsz
  obtain ⟨v0, v1, d0, d1, p0, p1, rfl, rfl, rfl, h0, h1⟩ := trodAll_two hA
  obtain ⟨rfl, rfl⟩ := trodVars_none hV
  clear hA0 hval0
  simp only [List.append_nil] at hW'
  have hlt0 : ∀ x ∈ p0, x.block < W.heap.size := fun x hx => by simpa using hW'.lt x (by simp [hx])
  have hlt1 : ∀ x ∈ p1, x.block < W.heap.size := fun x hx => by simpa using hW'.lt x (by simp [hx])
  have fin : ∀ (e : Ending) (W' : World), (e = .returned (.bool true) ∧ Gro W W') → ∃ v, e = .returned v ∧ Rows.windowOnceSpec.post enc Try.prog Try.f4 false true false false W #[v0, v1] v W' := by
    rintro e W' ⟨rfl, hb⟩
    refine ⟨_, rfl, _, _, _, [], p0 ++ p1, [], hW', ?_, ?_, rfl, hb.frame _, fun h => by cases h⟩
    · exact trodAll_mk1 (shut_bool Try.underlying4 true)
    · exact trodAll_mk2 (Below.trod Try.laidOut (by kernel_rfl) (of_decide_eq_true (by kernel_rfl)) h0 hb hlt0) (Below.trod Try.laidOut (by kernel_rfl) (of_decide_eq_true (by kernel_rfl)) h1 hb hlt1)
  obtain ⟨ao0, cap0, ls0, rfl, lc0, hz0⟩ := open_rows (hval 0 26 v0 rfl rfl) h0
  obtain ⟨ao1, cap1, ys1, rfl, wc1, hys1⟩ := open_ways (hval 1 44 v1 rfl rfl) h1
  have hy : ∀ y ∈ d0.weights Try.prog 26, y ≤ reachBytes := fun y hy => by
    have := List.all_eq_true.1 hsz y (DataW.weights_mem_each (j := 0) (t := 26) (d := d0) rfl rfl y hy)
    simpa using this
  obtain ⟨hol, hll⟩ := hz0 _ hy
  simp only [reachBytes] at hol hll
  exact (windowOnce_any W ao0 cap0 ls0 lc0 (by omega) (fun l hl => by have := hll l hl; omega) ao1 cap1 ys1 wc1 hys1).mono fin

theorem windowOnce_holds : Rows.WindowOnceSaid :=
  OpenClaim.holds_of_wide 4 Try.f4 rfl rfl rfl rfl rfl rfl rfl ⟨rfl, rfl, rfl, rfl, rfl⟩ rfl rfl rfl rfl rfl (by kernel_rfl) Try.func4 (by kernel_rfl)
    (of_decide_eq_true (by kernel_rfl)) (by unfold Func.isWrapper; first | (rw [if_pos (by decide +kernel)]; kernel_rfl) | (rw [if_neg (by decide +kernel)]; exact ⟨rfl, rfl⟩))
    (fun os started H enc _ => windowOnce_lifted os started H enc)

#print axioms windowOnce_holds
end Go.Proofs.Ythlfjbnfeclkmaa
