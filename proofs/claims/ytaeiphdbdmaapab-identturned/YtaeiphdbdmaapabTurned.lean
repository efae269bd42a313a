/- For every three identities and every way the law that all turned by one way stand to each other as they did returns true, and the arguments stay as they were. -/
import Derived.Test.YtaeiphdbdmaapabRows
import Derived.Test.YtaeiphdbdmaapabFr
import Derived.Test.YtaeiphdbdmaapabA2
import Derived.ProofKit
namespace Go.Proofs.Ytaeiphdbdmaapab
open Go.ChangeShapes Go.WideShapes Go.ChangeAt Go.RowKit
theorem cells27 : Try.prog.cellsOf 27 = 48 := by kernel_rfl
theorem parts3 (l x y z : List Value) (hl : l.length = 48) (h1 : (l.drop (0 * 16)).take 16 = x) (h2 : (l.drop (1 * 16)).take 16 = y) (h3 : (l.drop (2 * 16)).take 16 = z) : l = x ++ y ++ z := by
  subst h1 h2 h3
  have e1 : List.drop (0 * 16) l = l := by simp
  have e2 : l = l.take 16 ++ ((l.drop 16).take 16 ++ (l.drop 32)) := by
    have : l.drop 16 = (l.drop 16).take 16 ++ (l.drop 16).drop 16 := (List.take_append_drop 16 _).symm
    rw [List.drop_drop] at this
    rw [← this, List.take_append_drop]
  have e3 : (l.drop 32).take 16 = l.drop 32 := List.take_of_length_le (by simp; omega)
  rw [e1, show 1 * 16 = 16 from rfl, show 2 * 16 = 32 from rfl, e3, List.append_assoc]
  exact e2
theorem of_three_lists {cs x y z : Array Value} (h : cs.toList = x.toList ++ y.toList ++ z.toList) : cs = x ++ y ++ z := by
  apply Array.toList_inj.1
  rw [Array.toList_append, Array.toList_append, h]
theorem three_of_list {cs : Array Value} {a b c : Nat} (h : cs.toList = (idA a).toList ++ (idA b).toList ++ (idA c).toList) : cs = threeA a b c := of_three_lists h
theorem open_three {H : Type} {enc : TypeId × Value → H} {w : World} {base : Nat} {spare : Nat → Bool} {held : Bool} {r : Reach} {b0 : Nat} {v : Value} {d : DataW H} {ps : List MemPlace} (hval : Value.okWide Try.prog w r b0 27 v) (hd : DataW.Trod enc Try.prog w base spare held 27 v d ps) :
    ∃ a b c, a < top ∧ b < top ∧ c < top ∧ v = threeV a b c := by
  have hu := Try.underlying27
  simp only [Value.okWide, hu] at hval
  obtain ⟨cs, rfl, _, _⟩ := hval
  obtain ⟨fuel, hf⟩ := hd
  obtain ⟨xs, m, _, _, hl, hx, he⟩ := DataW.trod_array Try.underlying27 hf
  have hl' : cs.toList.length = 48 := by rw [← cells27]; exact hl
  have key : ∀ i, i < 3 → ∃ n, n < top ∧ (cs.toList.drop (i * 16)).take 16 = (idA n).toList := fun i hi => by
    have h1 := he i hi
    rw [List.getElem?_eq_getElem (by omega), cells23] at h1
    exact id_of_trod h1
  obtain ⟨a, ha, h1⟩ := key 0 (by omega)
  obtain ⟨b, hb, h2⟩ := key 1 (by omega)
  obtain ⟨c, hc, h3⟩ := key 2 (by omega)
  have h4 := parts3 _ _ _ _ hl' h1 h2 h3
  have h5 : cs = threeA a b c := three_of_list h4
  exact ⟨a, b, c, ha, hb, hc, congrArg Value.agg h5⟩


set_option maxRecDepth 100000 in
theorem identTurned_lifted (os : Os) (started : os.Started) (H : Type) (enc : TypeId × Value → H) :
    ReturnsInHanded {} Try.checked os 4 .any (Rows.identTurnedSpec.pre6 enc Try.prog Try.f4 Rows.identTurnedRow.domain false) (Rows.identTurnedSpec.post enc Try.prog Try.f4 false true false false) := by
  refine returnsInHanded_of_change (C := Try.checked) Try.own started (by kernel_rfl) Try.func4
    (ChangeSpec.witness6 (enc := enc) (C := Try.checked) false ⟨#[], #[threeV 0 0 0, idV 0], []⟩ 8 (by kernel_rfl) (by kernel_rfl) (by kernel_rfl) (by kernel_rfl)) ?_
  intro W base args ds gs before hval0 hW hcnd _
  have hval : ∀ (j : Nat) t v, Try.f4.params[j]? = some t → args[j]? = some v → Value.okWide Try.prog W .any base t v := hval0
  have hW' := hW
  obtain ⟨p, q, hA0, hV, rfl, hfz, hnd⟩ := hW
  have hA : DataW.TrodAll enc Try.prog W 0 (fun _ => true) true Try.f4.params.toList args.toList ds p := hA0
  rw [Try.params4] at hA hval
  obtain ⟨v0, v1, d0, d1, p0, p1, rfl, rfl, rfl, h0, h1⟩ := trodAll_two hA
  obtain ⟨rfl, rfl⟩ := trodVars_none hV
  clear hA0 hval0
  simp only [List.append_nil] at hW'
  have hlt0 : ∀ x ∈ p0, x.block < W.heap.size := fun x hx => by simpa using hW'.lt x (by simp [hx])
  have hlt1 : ∀ x ∈ p1, x.block < W.heap.size := fun x hx => by simpa using hW'.lt x (by simp [hx])
  have fin : ∀ (e : Ending) (W' : World), (e = .returned (.bool true) ∧ Gro W W') → ∃ v, e = .returned v ∧ Rows.identTurnedSpec.post enc Try.prog Try.f4 false true false false W #[v0, v1] v W' := by
    rintro e W' ⟨rfl, hb⟩
    refine ⟨_, rfl, _, _, _, [], p0 ++ p1, [], hW', ?_, ?_, rfl, hb.frame _, fun h => by cases h⟩
    · exact trodAll_mk1 (shut_bool Try.underlying4 true)
    · exact trodAll_mk2 (Below.trod Try.laidOut (by kernel_rfl) (of_decide_eq_true (by kernel_rfl)) h0 hb hlt0) (Below.trod Try.laidOut (by kernel_rfl) (of_decide_eq_true (by kernel_rfl)) h1 hb hlt1)
  obtain ⟨d, a, b, hd, ha, hb, rfl⟩ := open_three (hval 0 27 v0 rfl rfl) h0
  obtain ⟨y, hy, rfl⟩ := open_id (hval 1 23 v1 rfl rfl) h1
  exact (turned_any d a b y hd ha hb hy W).mono fin

theorem identTurned_holds : Rows.IdentTurnedSaid :=
  OpenClaim.holds_of_wide 4 Try.f4 rfl rfl rfl rfl rfl rfl rfl ⟨rfl, rfl, rfl, rfl, rfl⟩ rfl rfl rfl rfl rfl (by kernel_rfl) Try.func4 (by kernel_rfl)
    (of_decide_eq_true (by kernel_rfl)) (by unfold Func.isWrapper; first | (rw [if_pos (by decide +kernel)]; kernel_rfl) | (rw [if_neg (by decide +kernel)]; exact ⟨rfl, rfl⟩))
    (fun os started H enc _ => identTurned_lifted os started H enc)

#print axioms identTurned_holds
end Go.Proofs.Ytaeiphdbdmaapab
