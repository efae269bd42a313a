/- For every op, whatever its bytes, and for every two places the law that a nil world does nothing, and that places that are none have nothing, returns true, and the arguments stay as they were. -/
import Derived.Test.YtadpefhaibkbjaaGreatRows
import Derived.Test.YtadpefhaibkbjaaGreatM
import Derived.Test.YtadpefhaibkbjaaGreatW
import Derived.Test.YtadpefhaibkbjaaGreatR2
import Derived.Test.YtadpefhaibkbjaaGreatR4
import Derived.ProofKit
import Derived.OpenShut
import Derived.Deep.CondSized
namespace Go.Proofs.YtadpefhaibkbjaaGreat
open Go.ChangeShapes Go.WideShapes Go.ChangeAt Go.RowKit
theorem own : ownKnob Tryz.prog.godebug = none := by kernel_rfl
theorem cells36 : Tryz.prog.cellsOf 36 = 16 := by kernel_rfl
theorem cells5 : Tryz.prog.cellsOf 5 = 1 := by kernel_rfl
theorem cells3 : Tryz.prog.cellsOf 3 = 1 := by kernel_rfl
theorem cells37 : Tryz.prog.cellsOf 37 = 1 := by kernel_rfl
theorem cells39 : Tryz.prog.cellsOf 39 = 21 := by kernel_rfl
theorem cut21 (l : List Value) (h : l.length = 21) : l = (l.drop 0).take 1 ++ ((l.drop 1).take 1 ++ ((l.drop 2).take 1 ++ ((l.drop 3).take 1 ++ ((l.drop 4).take 16 ++ (l.drop 20).take 1)))) := by
  have e1 : (l.drop 20).take 1 = l.drop 20 := List.take_of_length_le (by rw [List.length_drop]; omega)
  have st : ∀ k m : Nat, (l.drop k).take m ++ l.drop (k + m) = l.drop k := fun k m => by rw [← List.drop_drop, List.take_append_drop]
  rw [e1, st 4 16, st 3 1, st 2 1, st 1 1, st 0 1]
  rfl
section
variable {H : Type} {enc : TypeId × Value → H} {w : World} {base : Nat} {spare : Nat → Bool} {held : Bool}
set_option maxRecDepth 100000 in
/-- Sixteen bytes. -/
theorem id16 {fuel : Nat} {l : List Value} {x : DataW H × List MemPlace} (h : DataW.trod enc Tryz.prog w base spare held fuel 36 l = some x) : ∃ n0 n1 n2 n3 n4 n5 n6 n7 n8 n9 n10 n11 n12 n13 n14 n15 : Int, l = [.int .u8 n0, .int .u8 n1, .int .u8 n2, .int .u8 n3, .int .u8 n4, .int .u8 n5, .int .u8 n6, .int .u8 n7, .int .u8 n8, .int .u8 n9, .int .u8 n10, .int .u8 n11, .int .u8 n12, .int .u8 n13, .int .u8 n14, .int .u8 n15] := by
  obtain ⟨xs, m, _, _, hl, hx, he⟩ := DataW.trod_array Tryz.underlying36 h
  rw [cells36] at hl
  have key : ∀ i, i < 16 → ∃ n : Int, l[i]? = some (.int .u8 n) := fun i hi => by
    have h1 := he i hi
    rw [List.getElem?_eq_getElem (by omega)] at h1
    obtain ⟨n, h2, _, h3⟩ := DataW.trod_int Tryz.underlying5 h1
    rw [cells5, Nat.mul_one] at h2
    refine ⟨n, ?_⟩
    have h4 : (List.take 1 (List.drop i l))[0]? = some (.int .u8 n) := by rw [h2]; rfl
    rw [List.getElem?_take] at h4
    simpa using h4
  match l, hl, key with
  | [a0, a1, a2, a3, a4, a5, a6, a7, a8, a9, a10, a11, a12, a13, a14, a15], _, key =>
    obtain ⟨n0, e0⟩ := key 0 (by decide)
    have e0 : a0 = .int .u8 n0 := by simpa using e0
    obtain ⟨n1, e1⟩ := key 1 (by decide)
    have e1 : a1 = .int .u8 n1 := by simpa using e1
    obtain ⟨n2, e2⟩ := key 2 (by decide)
    have e2 : a2 = .int .u8 n2 := by simpa using e2
    obtain ⟨n3, e3⟩ := key 3 (by decide)
    have e3 : a3 = .int .u8 n3 := by simpa using e3
    obtain ⟨n4, e4⟩ := key 4 (by decide)
    have e4 : a4 = .int .u8 n4 := by simpa using e4
    obtain ⟨n5, e5⟩ := key 5 (by decide)
    have e5 : a5 = .int .u8 n5 := by simpa using e5
    obtain ⟨n6, e6⟩ := key 6 (by decide)
    have e6 : a6 = .int .u8 n6 := by simpa using e6
    obtain ⟨n7, e7⟩ := key 7 (by decide)
    have e7 : a7 = .int .u8 n7 := by simpa using e7
    obtain ⟨n8, e8⟩ := key 8 (by decide)
    have e8 : a8 = .int .u8 n8 := by simpa using e8
    obtain ⟨n9, e9⟩ := key 9 (by decide)
    have e9 : a9 = .int .u8 n9 := by simpa using e9
    obtain ⟨n10, e10⟩ := key 10 (by decide)
    have e10 : a10 = .int .u8 n10 := by simpa using e10
    obtain ⟨n11, e11⟩ := key 11 (by decide)
    have e11 : a11 = .int .u8 n11 := by simpa using e11
    obtain ⟨n12, e12⟩ := key 12 (by decide)
    have e12 : a12 = .int .u8 n12 := by simpa using e12
    obtain ⟨n13, e13⟩ := key 13 (by decide)
    have e13 : a13 = .int .u8 n13 := by simpa using e13
    obtain ⟨n14, e14⟩ := key 14 (by decide)
    have e14 : a14 = .int .u8 n14 := by simpa using e14
    obtain ⟨n15, e15⟩ := key 15 (by decide)
    have e15 : a15 = .int .u8 n15 := by simpa using e15
    exact ⟨n0, n1, n2, n3, n4, n5, n6, n7, n8, n9, n10, n11, n12, n13, n14, n15, by rw [e0, e1, e2, e3, e4, e5, e6, e7, e8, e9, e10, e11, e12, e13, e14, e15]⟩
set_option maxRecDepth 100000 in
/-- An op. -/
theorem open_op {r : Reach} {b0 : Nat} {v : Value} {d : DataW H} {ps : List MemPlace} (hval : Value.okWide Tryz.prog w r b0 39 v) (hd : DataW.Trod enc Tryz.prog w base spare held 39 v d ps) : ∃ (z0 z1 z2 z3 : Int) (ao : Option Addr) (len cap : Nat) (n0 n1 n2 n3 n4 n5 n6 n7 n8 n9 n10 n11 n12 n13 n14 n15 : Int), v = .agg #[.int .i64 z0, .int .i64 z1, .int .i64 z2, .int .i64 z3, .int .u8 n0, .int .u8 n1, .int .u8 n2, .int .u8 n3, .int .u8 n4, .int .u8 n5, .int .u8 n6, .int .u8 n7, .int .u8 n8, .int .u8 n9, .int .u8 n10, .int .u8 n11, .int .u8 n12, .int .u8 n13, .int .u8 n14, .int .u8 n15, .slice ao len cap] := by
  have hu := Tryz.underlying39
  simp only [Value.okWide, hu] at hval
  obtain ⟨cs, rfl, _, _⟩ := hval
  obtain ⟨fuel, hf⟩ := hd
  have hf' : DataW.trod enc Tryz.prog w base spare held fuel 39 cs.toList = some (d, ps) := hf
  obtain ⟨xs, n, rfl, hx, hl, hxl, hff⟩ := DataW.trod_struct Tryz.underlying39 hf'
  have hxl2 : xs.length = 6 := hxl
  have f0 : DataW.trod enc Tryz.prog w base spare held n 3 ((cs.toList.drop 0).take (Tryz.prog.cellsOf 3)) = xs[0]? := hff 0 _ rfl
  have f1 : DataW.trod enc Tryz.prog w base spare held n 3 ((cs.toList.drop 1).take (Tryz.prog.cellsOf 3)) = xs[1]? := hff 1 _ rfl
  have f2 : DataW.trod enc Tryz.prog w base spare held n 3 ((cs.toList.drop 2).take (Tryz.prog.cellsOf 3)) = xs[2]? := hff 2 _ rfl
  have f3 : DataW.trod enc Tryz.prog w base spare held n 3 ((cs.toList.drop 3).take (Tryz.prog.cellsOf 3)) = xs[3]? := hff 3 _ rfl
  have f4 : DataW.trod enc Tryz.prog w base spare held n 36 ((cs.toList.drop 4).take (Tryz.prog.cellsOf 36)) = xs[4]? := hff 4 _ rfl
  have f5 : DataW.trod enc Tryz.prog w base spare held n 37 ((cs.toList.drop 20).take (Tryz.prog.cellsOf 37)) = xs[5]? := hff 5 _ rfl
  rw [cells3, List.getElem?_eq_getElem (by omega)] at f0 f1 f2 f3
  rw [cells36, List.getElem?_eq_getElem (by omega)] at f4
  rw [cells37, List.getElem?_eq_getElem (by omega)] at f5
  rw [cells39] at hl
  obtain ⟨z0, e0, _, _⟩ := DataW.trod_int Tryz.underlying3 f0
  obtain ⟨z1, e1, _, _⟩ := DataW.trod_int Tryz.underlying3 f1
  obtain ⟨z2, e2, _, _⟩ := DataW.trod_int Tryz.underlying3 f2
  obtain ⟨z3, e3, _, _⟩ := DataW.trod_int Tryz.underlying3 f3
  obtain ⟨n0, n1, n2, n3, n4, n5, n6, n7, n8, n9, n10, n11, n12, n13, n14, n15, e4⟩ := id16 f4
  obtain ⟨ao, len, cap, e5⟩ : ∃ ao len cap, (cs.toList.drop 20).take 1 = [Value.slice ao len cap] := by
    rcases DataW.trod_slice Tryz.underlying37 f5 with ⟨e, _⟩ | ⟨a, len, cap, _, _, _, _, e, _⟩
    · exact ⟨none, 0, 0, e⟩
    · exact ⟨some a, len, cap, e⟩
  refine ⟨z0, z1, z2, z3, ao, len, cap, n0, n1, n2, n3, n4, n5, n6, n7, n8, n9, n10, n11, n12, n13, n14, n15, ?_⟩
  have : cs.toList = [.int .i64 z0, .int .i64 z1, .int .i64 z2, .int .i64 z3, .int .u8 n0, .int .u8 n1, .int .u8 n2, .int .u8 n3, .int .u8 n4, .int .u8 n5, .int .u8 n6, .int .u8 n7, .int .u8 n8, .int .u8 n9, .int .u8 n10, .int .u8 n11, .int .u8 n12, .int .u8 n13, .int .u8 n14, .int .u8 n15, .slice ao len cap] := by
    rw [cut21 cs.toList hl, e0, e1, e2, e3, e4, e5]
    rfl
  congr 1
  exact Array.toList_inj.1 this
end
theorem worldNil_any (z0 z1 z2 z3 : Int) (ao : Option Addr) (len cap : Nat) (n0 n1 n2 n3 n4 n5 n6 n7 n8 n9 n10 n11 n12 n13 n14 n15 : Int) (a b : Int) (w : World) : Calls Tryz.prog 8 #[.agg #[.int .i64 z0, .int .i64 z1, .int .i64 z2, .int .i64 z3, .int .u8 n0, .int .u8 n1, .int .u8 n2, .int .u8 n3, .int .u8 n4, .int .u8 n5, .int .u8 n6, .int .u8 n7, .int .u8 n8, .int .u8 n9, .int .u8 n10, .int .u8 n11, .int .u8 n12, .int .u8 n13, .int .u8 n14, .int .u8 n15, .slice ao len cap], .int .i64 a, .int .i64 b] w fun e w' => e = .returned (.bool true) ∧ Below w.heap.size w w' := by
  have hM : EX.MemoOK Tryz.prog LM := EX.orM_ok mc11_ok fixed_ok
  have hi : ∀ (r : EX.Env) k n, EX.VR r (.int k n) (.int k n) := fun r k n => (EX.VR.closed 3 _ _ rfl).2 rfl
  cases ao with
  | none => exact run_true hM (r := fun _ _ => False) (runs_true z0 z1 z2 z3 none len cap n0 n1 n2 n3 n4 n5 n6 n7 n8 n9 n10 n11 n12 n13 n14 n15 a b) (fun _ _ _ h => h.elim) (fun _ _ h => h.elim) (VRs.cons (EX.VR.agg (VRs.cons (hi _ _ _) (VRs.cons (hi _ _ _) (VRs.cons (hi _ _ _) (VRs.cons (hi _ _ _) (VRs.cons (hi _ _ _) (VRs.cons (hi _ _ _) (VRs.cons (hi _ _ _) (VRs.cons (hi _ _ _) (VRs.cons (hi _ _ _) (VRs.cons (hi _ _ _) (VRs.cons (hi _ _ _) (VRs.cons (hi _ _ _) (VRs.cons (hi _ _ _) (VRs.cons (hi _ _ _) (VRs.cons (hi _ _ _) (VRs.cons (hi _ _ _) (VRs.cons (hi _ _ _) (VRs.cons (hi _ _ _) (VRs.cons (hi _ _ _) (VRs.cons (hi _ _ _) (VRs.cons ((EX.VR.closed 3 _ _ rfl).2 rfl) VRs.nil)))))))))))))))))))))) (VRs.cons (hi _ _ _) (VRs.cons (hi _ _ _) VRs.nil)))
  | some q =>
    refine run_true hM (r := fun b c => b = 0 ∧ c = q.block) (runs_true z0 z1 z2 z3 (some { q with block := 0 }) len cap n0 n1 n2 n3 n4 n5 n6 n7 n8 n9 n10 n11 n12 n13 n14 n15 a b) (fun _ _ _ h k => h.2.trans k.2.symm) (fun _ _ h => h.1) (VRs.cons (EX.VR.agg (VRs.cons (hi _ _ _) (VRs.cons (hi _ _ _) (VRs.cons (hi _ _ _) (VRs.cons (hi _ _ _) (VRs.cons (hi _ _ _) (VRs.cons (hi _ _ _) (VRs.cons (hi _ _ _) (VRs.cons (hi _ _ _) (VRs.cons (hi _ _ _) (VRs.cons (hi _ _ _) (VRs.cons (hi _ _ _) (VRs.cons (hi _ _ _) (VRs.cons (hi _ _ _) (VRs.cons (hi _ _ _) (VRs.cons (hi _ _ _) (VRs.cons (hi _ _ _) (VRs.cons (hi _ _ _) (VRs.cons (hi _ _ _) (VRs.cons (hi _ _ _) (VRs.cons (hi _ _ _) (VRs.cons ?_ VRs.nil)))))))))))))))))))))) (VRs.cons (hi _ _ _) (VRs.cons (hi _ _ _) VRs.nil)))
    exact ((EX.VRe _).2.2.2.2.2.2.2.2.1 _ _ _ _).2 ⟨q, cap, ⟨rfl, rfl⟩, ⟨fun _ => rfl, Nat.le_refl _, fun _ => .inl rfl⟩, .inr ⟨0, ⟨rfl, rfl⟩, .inl ⟨rfl, rfl⟩, rfl, rfl⟩, rfl⟩
set_option maxRecDepth 100000 in
theorem worldNil_lifted (os : Os) (started : os.Started) (H : Type) (enc : TypeId × Value → H) :
    ReturnsInHanded {} Tryz.checked os 8 .any (Rows.worldNilSpec.pre6 enc Tryz.prog Tryz.f8 Rows.worldNilRow.domain false) (Rows.worldNilSpec.post enc Tryz.prog Tryz.f8 false true false false) := by
  refine returnsInHanded_of_change_sized (C := Tryz.checked) own started (by kernel_rfl) Tryz.func8
    (ChangeSpec.witness6 (enc := enc) (C := Tryz.checked) false ⟨#[], #[.agg #[.int .i64 0, .int .i64 0, .int .i64 0, .int .i64 0, .int .u8 0, .int .u8 0, .int .u8 0, .int .u8 0, .int .u8 0, .int .u8 0, .int .u8 0, .int .u8 0, .int .u8 0, .int .u8 0, .int .u8 0, .int .u8 0, .int .u8 0, .int .u8 0, .int .u8 0, .int .u8 0, .slice none 0 0], .int .i64 0, .int .i64 0], []⟩ 8 (by kernel_rfl) (by kernel_rfl) (by kernel_rfl) (by kernel_rfl)) ?_
  intro W base args ds gs before hval0 hW hcnd hsz0 _
  have hval : ∀ (j : Nat) t v, Tryz.f8.params[j]? = some t → args[j]? = some v → Value.okWide Tryz.prog W .any base t v := hval0
  have hW' := hW
  obtain ⟨p, q, hA0, hV, rfl, hfz, hnd⟩ := hW
  have hA : DataW.TrodAll enc Tryz.prog W 0 (fun _ => true) true Tryz.f8.params.toList args.toList ds p := hA0
  rw [Tryz.params8] at hA hval
  obtain ⟨v0, v1, v2, d0, d1, d2, q0, q1, q2, rfl, rfl, rfl, h0, h1, h2⟩ := trodAll_three hA
  obtain ⟨rfl, rfl⟩ := trodVars_none hV
  clear hA0 hval0
  simp only [List.append_nil] at hW'
  have hlt0 : ∀ x ∈ q0, x.block < W.heap.size := fun x hx => by simpa using hW'.lt x (by simp [hx])
  have hlt1 : ∀ x ∈ q1, x.block < W.heap.size := fun x hx => by simpa using hW'.lt x (by simp [hx])
  have hlt2 : ∀ x ∈ q2, x.block < W.heap.size := fun x hx => by simpa using hW'.lt x (by simp [hx])
  have fin : ∀ (e : Ending) (W' : World), (e = .returned (.bool true) ∧ Below W.heap.size W W') → ∃ v, e = .returned v ∧ Rows.worldNilSpec.post enc Tryz.prog Tryz.f8 false true false false W #[v0, v1, v2] v W' := by
    rintro e W' ⟨rfl, hb⟩
    refine ⟨_, rfl, _, _, _, [], q0 ++ (q1 ++ q2), [], hW', ?_, ?_, rfl, hb.frame _, fun h => by cases h⟩
    · exact trodAll_mk1 (shut_bool Tryz.underlying4 true)
    · exact trodAll_mk3 (Below.trod laidOut (by kernel_rfl) (of_decide_eq_true (by kernel_rfl)) h0 hb hlt0) (Below.trod laidOut (by kernel_rfl) (of_decide_eq_true (by kernel_rfl)) h1 hb hlt1) (Below.trod laidOut (by kernel_rfl) (of_decide_eq_true (by kernel_rfl)) h2 hb hlt2)
  obtain ⟨z0, z1, z2, z3, ao, len, cap, n0, n1, n2, n3, n4, n5, n6, n7, n8, n9, n10, n11, n12, n13, n14, n15, rfl⟩ := open_op (hval 0 39 v0 rfl rfl) h0
  obtain ⟨x1, rfl, rfl, rfl, wx1⟩ := open_int Tryz.underlying3 (hval 1 3 v1 rfl rfl) h1
  obtain ⟨x2, rfl, rfl, rfl, wx2⟩ := open_int Tryz.underlying3 (hval 2 3 v2 rfl rfl) h2
  exact (worldNil_any z0 z1 z2 z3 ao len cap n0 n1 n2 n3 n4 n5 n6 n7 n8 n9 n10 n11 n12 n13 n14 n15 x1 x2 W).mono fin
theorem worldNil_holds : Rows.WorldNilSaid :=
  OpenClaim.holds_of_wide 8 Tryz.f8 rfl rfl rfl rfl rfl rfl rfl ⟨rfl, rfl, rfl, rfl, rfl⟩ rfl rfl rfl rfl rfl (by as_aux_lemma => kernel_rfl) Tryz.func8 joined
    (of_decide_eq_true (by kernel_rfl)) (by unfold Func.isWrapper; first | (rw [if_pos (by decide +kernel)]; kernel_rfl) | (rw [if_neg (by decide +kernel)]; exact ⟨rfl, rfl⟩))
    (fun os started H enc _ => worldNil_lifted os started H enc)
#print axioms worldNil_holds
end Go.Proofs.YtadpefhaibkbjaaGreat
