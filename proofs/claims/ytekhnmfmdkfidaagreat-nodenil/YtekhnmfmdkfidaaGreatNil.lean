/- For every number, every row of bytes and every identity the law that a nil node refuses all returns true, and the arguments stay as they were. -/
import Derived.Test.YtekhnmfmdkfidaaGreatRows
import Derived.Test.YtekhnmfmdkfidaaGreatR1
import Derived.Test.YtekhnmfmdkfidaaGreatR2
import Derived.Test.YtekhnmfmdkfidaaGreatR4
import Derived.ProofKit
import Derived.OpenShut
import Derived.Deep.CondSized
namespace Go.Proofs.YtekhnmfmdkfidaaGreat
open Go.ChangeShapes Go.WideShapes Go.ChangeAt Go.RowKit
theorem own : ownKnob Tryz.prog.godebug = none := by kernel_rfl
theorem cells23 : Tryz.prog.cellsOf 23 = 16 := by kernel_rfl
theorem cells5 : Tryz.prog.cellsOf 5 = 1 := by kernel_rfl
section
variable {H : Type} {enc : TypeId × Value → H} {w : World} {base : Nat} {spare : Nat → Bool} {held : Bool}
set_option maxRecDepth 100000 in
/-- Sixteen bytes. -/
theorem id16 {fuel : Nat} {l : List Value} {x : DataW H × List MemPlace} (h : DataW.trod enc Tryz.prog w base spare held fuel 23 l = some x) : ∃ n0 n1 n2 n3 n4 n5 n6 n7 n8 n9 n10 n11 n12 n13 n14 n15 : Int, l = [.int .u8 n0, .int .u8 n1, .int .u8 n2, .int .u8 n3, .int .u8 n4, .int .u8 n5, .int .u8 n6, .int .u8 n7, .int .u8 n8, .int .u8 n9, .int .u8 n10, .int .u8 n11, .int .u8 n12, .int .u8 n13, .int .u8 n14, .int .u8 n15] := by
  obtain ⟨xs, m, _, _, hl, hx, he⟩ := DataW.trod_array Tryz.underlying23 h
  rw [cells23] at hl
  have key : ∀ i, i < 16 → ∃ n : Int, l[i]? = some (.int .u8 n) := fun i hi => by
    have h1 := he i hi
    rw [List.getElem?_eq_getElem (by omega)] at h1
    obtain ⟨n, h2, _, h3⟩ := DataW.trod_int Tryz.underlying5 h1
    rw [cells5, Nat.mul_one] at h2
    refine ⟨n, ?_⟩
    have h4 : (List.take 1 (List.drop i l))[0]? = some (.int .u8 n) := by rw [h2]; rfl
    rw [List.getElem?_take] at h4
    simpa using h4
  match l, hl, key with
  | [a0, a1, a2, a3, a4, a5, a6, a7, a8, a9, a10, a11, a12, a13, a14, a15], _, key =>
    obtain ⟨n0, e0⟩ := key 0 (by decide)
    have e0 : a0 = .int .u8 n0 := by simpa using e0
    obtain ⟨n1, e1⟩ := key 1 (by decide)
    have e1 : a1 = .int .u8 n1 := by simpa using e1
    obtain ⟨n2, e2⟩ := key 2 (by decide)
    have e2 : a2 = .int .u8 n2 := by simpa using e2
    obtain ⟨n3, e3⟩ := key 3 (by decide)
    have e3 : a3 = .int .u8 n3 := by simpa using e3
    obtain ⟨n4, e4⟩ := key 4 (by decide)
    have e4 : a4 = .int .u8 n4 := by simpa using e4
    obtain ⟨n5, e5⟩ := key 5 (by decide)
    have e5 : a5 = .int .u8 n5 := by simpa using e5
    obtain ⟨n6, e6⟩ := key 6 (by decide)
    have e6 : a6 = .int .u8 n6 := by simpa using e6
    obtain ⟨n7, e7⟩ := key 7 (by decide)
    have e7 : a7 = .int .u8 n7 := by simpa using e7
    obtain ⟨n8, e8⟩ := key 8 (by decide)
    have e8 : a8 = .int .u8 n8 := by simpa using e8
    obtain ⟨n9, e9⟩ := key 9 (by decide)
    have e9 : a9 = .int .u8 n9 := by simpa using e9
    obtain ⟨n10, e10⟩ := key 10 (by decide)
    have e10 : a10 = .int .u8 n10 := by simpa using e10
    obtain ⟨n11, e11⟩ := key 11 (by decide)
    have e11 : a11 = .int .u8 n11 := by simpa using e11
    obtain ⟨n12, e12⟩ := key 12 (by decide)
    have e12 : a12 = .int .u8 n12 := by simpa using e12
    obtain ⟨n13, e13⟩ := key 13 (by decide)
    have e13 : a13 = .int .u8 n13 := by simpa using e13
    obtain ⟨n14, e14⟩ := key 14 (by decide)
    have e14 : a14 = .int .u8 n14 := by simpa using e14
    obtain ⟨n15, e15⟩ := key 15 (by decide)
    have e15 : a15 = .int .u8 n15 := by simpa using e15
    exact ⟨n0, n1, n2, n3, n4, n5, n6, n7, n8, n9, n10, n11, n12, n13, n14, n15, by rw [e0, e1, e2, e3, e4, e5, e6, e7, e8, e9, e10, e11, e12, e13, e14, e15]⟩
set_option maxRecDepth 100000 in
theorem open_id16 {r : Reach} {b0 : Nat} {v : Value} {d : DataW H} {ps : List MemPlace} (hval : Value.okWide Tryz.prog w r b0 23 v) (hd : DataW.Trod enc Tryz.prog w base spare held 23 v d ps) : ∃ n0 n1 n2 n3 n4 n5 n6 n7 n8 n9 n10 n11 n12 n13 n14 n15 : Int, v = .agg #[.int .u8 n0, .int .u8 n1, .int .u8 n2, .int .u8 n3, .int .u8 n4, .int .u8 n5, .int .u8 n6, .int .u8 n7, .int .u8 n8, .int .u8 n9, .int .u8 n10, .int .u8 n11, .int .u8 n12, .int .u8 n13, .int .u8 n14, .int .u8 n15] := by
  have hu := Tryz.underlying23
  simp only [Value.okWide, hu] at hval
  obtain ⟨cs, rfl, _, _⟩ := hval
  obtain ⟨fuel, hf⟩ := hd
  obtain ⟨n0, n1, n2, n3, n4, n5, n6, n7, n8, n9, n10, n11, n12, n13, n14, n15, hh⟩ := id16 hf
  refine ⟨n0, n1, n2, n3, n4, n5, n6, n7, n8, n9, n10, n11, n12, n13, n14, n15, ?_⟩
  have : cs.toList = [.int .u8 n0, .int .u8 n1, .int .u8 n2, .int .u8 n3, .int .u8 n4, .int .u8 n5, .int .u8 n6, .int .u8 n7, .int .u8 n8, .int .u8 n9, .int .u8 n10, .int .u8 n11, .int .u8 n12, .int .u8 n13, .int .u8 n14, .int .u8 n15] := hh
  obtain ⟨l⟩ := cs
  have e : l = [.int .u8 n0, .int .u8 n1, .int .u8 n2, .int .u8 n3, .int .u8 n4, .int .u8 n5, .int .u8 n6, .int .u8 n7, .int .u8 n8, .int .u8 n9, .int .u8 n10, .int .u8 n11, .int .u8 n12, .int .u8 n13, .int .u8 n14, .int .u8 n15] := this
  rw [e]
end
theorem nodeNil_any (z : Int) (ao : Option Addr) (len cap : Nat) (n0 n1 n2 n3 n4 n5 n6 n7 n8 n9 n10 n11 n12 n13 n14 n15 : Int) (w : World) : Calls Tryz.prog 7 #[.int .i64 z, .slice ao len cap, .agg #[.int .u8 n0, .int .u8 n1, .int .u8 n2, .int .u8 n3, .int .u8 n4, .int .u8 n5, .int .u8 n6, .int .u8 n7, .int .u8 n8, .int .u8 n9, .int .u8 n10, .int .u8 n11, .int .u8 n12, .int .u8 n13, .int .u8 n14, .int .u8 n15]] w fun e w' => e = .returned (.bool true) ∧ Below w.heap.size w w' := by
  have hi : ∀ (r : EX.Env) k n, EX.VR r (.int k n) (.int k n) := fun r k n => (EX.VR.closed 3 _ _ rfl).2 rfl
  have hid : ∀ r : EX.Env, EX.VR r (.agg #[.int .u8 n0, .int .u8 n1, .int .u8 n2, .int .u8 n3, .int .u8 n4, .int .u8 n5, .int .u8 n6, .int .u8 n7, .int .u8 n8, .int .u8 n9, .int .u8 n10, .int .u8 n11, .int .u8 n12, .int .u8 n13, .int .u8 n14, .int .u8 n15]) (.agg #[.int .u8 n0, .int .u8 n1, .int .u8 n2, .int .u8 n3, .int .u8 n4, .int .u8 n5, .int .u8 n6, .int .u8 n7, .int .u8 n8, .int .u8 n9, .int .u8 n10, .int .u8 n11, .int .u8 n12, .int .u8 n13, .int .u8 n14, .int .u8 n15]) := fun r => (EX.VR.closed 3 _ _ rfl).2 rfl
  cases ao with
  | none => exact run_true (r := fun _ _ => False) (nil_run z none len cap n0 n1 n2 n3 n4 n5 n6 n7 n8 n9 n10 n11 n12 n13 n14 n15) (fun _ _ _ h => h.elim) (fun _ _ h => h.elim) ⟨_, _, hi _ _ _, ⟨_, _, (EX.VR.closed 3 _ _ rfl).2 rfl, ⟨_, _, hid _, rfl, rfl⟩, rfl⟩, rfl⟩
  | some a =>
    refine run_true (r := fun b c => b = 0 ∧ c = a.block) (nil_run z (some { a with block := 0 }) len cap n0 n1 n2 n3 n4 n5 n6 n7 n8 n9 n10 n11 n12 n13 n14 n15) (fun _ _ _ h k => h.2.trans k.2.symm) (fun _ _ h => h.1) ⟨_, _, hi _ _ _, ⟨_, _, ?_, ⟨_, _, hid _, rfl, rfl⟩, rfl⟩, rfl⟩
    exact ((EX.VRe _).2.2.2.2.2.2.2.2.1 _ _ _ _).2 ⟨a.block, cap, a, ⟨rfl, rfl⟩, fun _ => rfl, ⟨Nat.le_refl _, fun h => by cases h⟩, rfl, .inr rfl, rfl⟩
set_option maxRecDepth 100000 in
theorem nodeNil_lifted (os : Os) (started : os.Started) (H : Type) (enc : TypeId × Value → H) :
    ReturnsInHanded {} Tryz.checked os 7 .any (Rows.nodeNilSpec.pre6 enc Tryz.prog Tryz.f7 Rows.nodeNilRow.domain false) (Rows.nodeNilSpec.post enc Tryz.prog Tryz.f7 false true false false) := by
  refine returnsInHanded_of_change_sized (C := Tryz.checked) own started (by kernel_rfl) Tryz.func7
    (ChangeSpec.witness6 (enc := enc) (C := Tryz.checked) false ⟨#[], #[.int .i64 0, .slice none 0 0, .agg #[.int .u8 0, .int .u8 0, .int .u8 0, .int .u8 0, .int .u8 0, .int .u8 0, .int .u8 0, .int .u8 0, .int .u8 0, .int .u8 0, .int .u8 0, .int .u8 0, .int .u8 0, .int .u8 0, .int .u8 0, .int .u8 0]], []⟩ 8 (by kernel_rfl) (by kernel_rfl) (by kernel_rfl) (by kernel_rfl)) ?_
  intro W base args ds gs before hval0 hW hcnd hsz0 _
  have hval : ∀ (j : Nat) t v, Tryz.f7.params[j]? = some t → args[j]? = some v → Value.okWide Tryz.prog W .any base t v := hval0
  have hW' := hW
  obtain ⟨p, q, hA0, hV, rfl, hfz, hnd⟩ := hW
  have hA : DataW.TrodAll enc Tryz.prog W 0 (fun _ => true) true Tryz.f7.params.toList args.toList ds p := hA0
  rw [Tryz.params7] at hA hval
  obtain ⟨v0, v1, v2, d0, d1, d2, q0, q1, q2, rfl, rfl, rfl, h0, h1, h2⟩ := trodAll_three hA
  obtain ⟨rfl, rfl⟩ := trodVars_none hV
  clear hA0 hval0
  simp only [List.append_nil] at hW'
  have hlt0 : ∀ x ∈ q0, x.block < W.heap.size := fun x hx => by simpa using hW'.lt x (by simp [hx])
  have hlt1 : ∀ x ∈ q1, x.block < W.heap.size := fun x hx => by simpa using hW'.lt x (by simp [hx])
  have hlt2 : ∀ x ∈ q2, x.block < W.heap.size := fun x hx => by simpa using hW'.lt x (by simp [hx])
  have fin : ∀ (e : Ending) (W' : World), (e = .returned (.bool true) ∧ Below W.heap.size W W') → ∃ v, e = .returned v ∧ Rows.nodeNilSpec.post enc Tryz.prog Tryz.f7 false true false false W #[v0, v1, v2] v W' := by
    rintro e W' ⟨rfl, hb⟩
    refine ⟨_, rfl, _, _, _, [], q0 ++ (q1 ++ q2), [], hW', ?_, ?_, rfl, hb.frame _, fun h => by cases h⟩
    · exact trodAll_mk1 (shut_bool Tryz.underlying4 true)
    · exact trodAll_mk3 (Below.trod laidOut (by kernel_rfl) (of_decide_eq_true (by kernel_rfl)) h0 hb hlt0) (Below.trod laidOut (by kernel_rfl) (of_decide_eq_true (by kernel_rfl)) h1 hb hlt1) (Below.trod laidOut (by kernel_rfl) (of_decide_eq_true (by kernel_rfl)) h2 hb hlt2)
  obtain ⟨x0, rfl, rfl, rfl, wx0⟩ := open_int Tryz.underlying3 (hval 0 3 v0 rfl rfl) h0
  obtain ⟨ao, len, cap, rfl⟩ := okWide_slice Tryz.underlying41 (hval 1 41 v1 rfl rfl)
  obtain ⟨n0, n1, n2, n3, n4, n5, n6, n7, n8, n9, n10, n11, n12, n13, n14, n15, rfl⟩ := open_id16 (hval 2 23 v2 rfl rfl) h2
  exact (nodeNil_any x0 ao len cap n0 n1 n2 n3 n4 n5 n6 n7 n8 n9 n10 n11 n12 n13 n14 n15 W).mono fin
theorem nodeNil_holds : Rows.NodeNilSaid :=
  OpenClaim.holds_of_wide 7 Tryz.f7 rfl rfl rfl rfl rfl rfl rfl ⟨rfl, rfl, rfl, rfl, rfl⟩ rfl rfl rfl rfl rfl (by as_aux_lemma => kernel_rfl) Tryz.func7 joined
    (of_decide_eq_true (by kernel_rfl)) (by unfold Func.isWrapper; first | (rw [if_pos (by decide +kernel)]; kernel_rfl) | (rw [if_neg (by decide +kernel)]; exact ⟨rfl, rfl⟩))
    (fun os started H enc _ => nodeNil_lifted os started H enc)
#print axioms nodeNil_holds
end Go.Proofs.YtekhnmfmdkfidaaGreat
