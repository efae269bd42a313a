/- For every node's case, every neighbour and every frame the law that what is refused or passed over leaves the table as it was, and that what isn't adds just the entry of that path, returns true, and the arguments stay as they were. -/
import Derived.Test.YtkjnefgenffhcaaRows
import Derived.Test.YtkjnefgenffhcaaEFr16
import Derived.Test.YtkjnefgenffhcaaEZ9
import Derived.ProofKit
import Derived.Deep.CondSized
namespace Go.Proofs.Ytkjnefgenffhcaa
open Go.ChangeShapes Go.WideShapes Go.ChangeAt Go.RowKit
set_option maxRecDepth 100000 in
theorem setupAdds_lifted (os : Os) (started : os.Started) (H : Type) (enc : TypeId × Value → H) :
    ReturnsInHanded {} Try.checked os 5 .any (Rows.setupAddsSpec.pre6 enc Try.prog Try.f5 Rows.setupAddsRow.domain false) (Rows.setupAddsSpec.post enc Try.prog Try.f5 false true false false) := by
  refine returnsInHanded_of_change_sized (C := Try.checked) Try.own started (by kernel_rfl) Try.func5
    (ChangeSpec.witness6 (enc := enc) (C := Try.checked) false ⟨#[], #[.agg (csA none 0 0 0 0 0 none 0 0), .int .i64 0, .agg (frA (frY m0 none 0 gN))], []⟩ 8 (by kernel_rfl) (by kernel_rfl) (by kernel_rfl) (by kernel_rfl)) ?_
  intro W base args ds gs before hval0 hW hcnd hsz0 _
  have hsz : (DataW.weightsEach Try.prog (Try.f5.params.toList ++ Rows.setupAddsSpec.plain.varTypes Try.prog) (ds ++ gs)).all (· ≤ reachBytes) = true := hsz0
  have hval : ∀ (j : Nat) t v, Try.f5.params[j]? = some t → args[j]? = some v → Value.okWide Try.prog W .any base t v := hval0
  have hW' := hW
  obtain ⟨p, q, hA0, hV, rfl, hfz, hnd⟩ := hW
  have hA : DataW.TrodAll enc Try.prog W 0 (fun _ => true) true Try.f5.params.toList args.toList ds p := hA0
  rw [Try.params5] at hA hval hsz
  obtain ⟨v0, v1, v2, d0, d1, d2, q0, q1, q2, rfl, rfl, rfl, h0, h1, h2⟩ := trodAll_three hA
  obtain ⟨rfl, rfl⟩ := trodVars_none hV
  clear hA0 hval0
  simp only [List.append_nil] at hW'
  have hlt0 : ∀ x ∈ q0, x.block < W.heap.size := fun x hx => by simpa using hW'.lt x (by simp [hx])
  have hlt1 : ∀ x ∈ q1, x.block < W.heap.size := fun x hx => by simpa using hW'.lt x (by simp [hx])
  have hlt2 : ∀ x ∈ q2, x.block < W.heap.size := fun x hx => by simpa using hW'.lt x (by simp [hx])
  have fin : ∀ (e : Ending) (W' : World), (e = .returned (.bool true) ∧ Gro W W') → ∃ v, e = .returned v ∧ Rows.setupAddsSpec.post enc Try.prog Try.f5 false true false false W #[v0, v1, v2] v W' := by
    rintro e W' ⟨rfl, hb⟩
    refine ⟨_, rfl, _, _, _, [], q0 ++ (q1 ++ q2), [], hW', ?_, ?_, rfl, hb.frame _, fun h => by cases h⟩
    · exact trodAll_mk1 (shut_bool Try.underlying4 true)
    · exact trodAll_mk3 (Below.trod Try.laidOut (by kernel_rfl) (of_decide_eq_true (by kernel_rfl)) h0 hb hlt0) (Below.trod Try.laidOut (by kernel_rfl) (of_decide_eq_true (by kernel_rfl)) h1 hb hlt1) (Below.trod Try.laidOut (by kernel_rfl) (of_decide_eq_true (by kernel_rfl)) h2 hb hlt2)
  obtain ⟨ae, ce, E, most, N, i, ap, cq, o, hi, rfl, HE, hEl, HB⟩ := open_case (hval 0 29 v0 rfl rfl) h0
  obtain ⟨x1, rfl, rfl, rfl, wx1⟩ := open_int Try.underlying3 (hval 1 3 v1 rfl rfl) h1
  obtain ⟨M0, ao, cap, g0, dd, hM0, rfl, HI0, HF0, hd0, hz⟩ := open_frI (hval 2 64 v2 rfl rfl) h2
  have hy : ∀ y ∈ d2.weights Try.prog 64, y ≤ reachBytes := fun y hy => by
    have := List.all_eq_true.1 hsz y (DataW.weights_mem_each (j := 2) (t := 64) (d := d2) rfl rfl y hy)
    simpa using this
  have hzz := hz _ hy
  simp only [reachBytes] at hzz
  have en2 := HF0.idn
  have en3 : g0.val.n = dd.val.length := xc_len1 HF0.val
  have en4 : g0.tx.n = dd.tx.length := xc_len1 HF0.tx
  obtain ⟨M, hMe⟩ : ∃ M : Msg, M = { M0 with l := M0.l.take (min M0.l.length 200) } := ⟨_, rfl⟩
  have hMl : M.l = M0.l.take (min M0.l.length 200) := by rw [hMe]
  have hM : M.ok := by rw [hMe]; exact ⟨hM0.p, hM0.a, hM0.b⟩
  have HI : RC W ao cap M.l := by rw [hMl]; exact HI0.take _ (by omega)
  have hl200 : M.l.length ≤ 200 := by rw [hMl, List.length_take]; omega
  have HF : FrW W (frY M ao cap g0) { dd with tr := M.l } := ⟨HI.xc, HF0.ids, HF0.val, HF0.tx, HF0.oids, HF0.oval, HF0.otx⟩
  have e2 : (frY M ao cap g0).ids.n = dd.ids.length := en2
  have HS : FrS (frY M ao cap g0) := ⟨⟨by show M.l.length * 8 ≤ _; omega⟩, ⟨by rw [e2]; omega⟩, ⟨by show g0.val.n * 1 ≤ _; omega⟩, ⟨by show g0.tx.n * 1 ≤ _; omega⟩⟩
  exact (setupAdds_any W ae ce E HE hEl most N i hi ap cq o HB x1 (I64.of wx1) M0 M (by rw [hMe]) hMl hM ao cap g0 { dd with tr := M.l } HI0 HI HF rfl HS).mono fin
theorem setupAdds_holds : Rows.SetupAddsSaid :=
  OpenClaim.holds_of_wide 5 Try.f5 rfl rfl rfl rfl rfl rfl rfl ⟨rfl, rfl, rfl, rfl, rfl⟩ rfl rfl rfl rfl rfl (by kernel_rfl) Try.func5 (by kernel_rfl)
    (of_decide_eq_true (by kernel_rfl)) (by unfold Func.isWrapper; first | (rw [if_pos (by decide +kernel)]; kernel_rfl) | (rw [if_neg (by decide +kernel)]; exact ⟨rfl, rfl⟩))
    (fun os started H enc _ => setupAdds_lifted os started H enc)
#print axioms setupAdds_holds
end Go.Proofs.Ytkjnefgenffhcaa
