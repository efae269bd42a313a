/- A frame that was read is laid in the bytes that it was read from; FrameOne. -/
import Derived.Test.YthmcnlmphikicabZH1
import Derived.Test.YthmcnlmphikicabZR8
import Derived.Test.YthmcnlmphikicabZG6
import Derived.Test.YthmcnlmphikicabZFr2
import Derived.Test.YthmcnlmphikicabZJ2
namespace Go.Proofs.Ythmcnlmphikicab
open Go.RowKit
/-! ### No error is nought -/
structure NZ {β : Type} (r : Except Nat β) : Prop where
  out : ∀ x, r = .error x → x ≠ 0
theorem NZ.ok {β : Type} (b : β) : NZ (.ok b : Except Nat β) := ⟨fun _ h => by cases h⟩
theorem NZ.bind {α β : Type} {r : Except Nat (α × Nat)} {f : α → Nat → Except Nat (β × Nat)} (h : NZ r) (hf : ∀ a q, NZ (f a q)) : NZ (thenR r f) := by
  cases r with
  | error e => exact ⟨fun x hx => by cases hx; exact h.out _ rfl⟩
  | ok p => exact hf p.1 p.2
theorem bodyL_len (k : Nat) (h1 : 1 ≤ k) (h2 : k ≤ 12) (f : Fr) (d : FD) (ht : d.tr.length ≤ 64) (hi : d.ids.length ≤ 16) (ho : ok16 d.ids) (hv : d.val.length ≤ 64) (hx : d.tx.length ≤ 4096) : (bodyL k f d).length ≤ 1000000 := by
  rcases is12 h1 h2 with rfl | rfl | rfl | rfl | rfl | rfl | rfl | rfl | rfl | rfl | rfl | rfl
  · have z0 := sessL_len f.fi f.fn
    have z1 := sessL_len f.ti f.tn
    have z2 := idL_len f.a
    simp only [bodyL, List.flatten_cons, List.flatten_nil, List.length_append, List.length_nil]
    omega
  · have z0 := sessL_len f.fi f.fn
    have z1 := sessL_len f.ti f.tn
    have z2 := n1_len f.n
    have z3 := t1_len d.tx
    simp only [bodyL, List.flatten_cons, List.flatten_nil, List.length_append, List.length_nil]
    omega
  · have z0 := sessL_len f.fi f.fn
    have z1 := sessL_len f.ti f.tn
    have z2 := n1_len f.n
    simp only [bodyL, List.flatten_cons, List.flatten_nil, List.length_append, List.length_nil]
    omega
  · have z0 := pathL_len f.pw f.pn
    have z1 := idL_len f.a
    have z2 := idL_len f.b
    have z3 := trailL_len d.tr
    simp only [bodyL, List.flatten_cons, List.flatten_nil, List.length_append, List.length_nil]
    omega
  · have z0 := pathL_len f.pw f.pn
    simp only [bodyL]
    omega
  · have z0 := pathL_len f.pw f.pn
    have z1 := flagL_len f.toA
    simp only [bodyL, List.flatten_cons, List.flatten_nil, List.length_append, List.length_nil]
    omega
  · have z0 := pathL_len f.pw f.pn
    have z1 := flagL_len f.toA
    have z2 := idsL_len d.ids ho
    simp only [bodyL, List.flatten_cons, List.flatten_nil, List.length_append, List.length_nil]
    omega
  · have z0 := idL_len f.a
    have z1 := idL_len f.b
    have z2 := n1_len f.op
    have z3 := pathL_len f.pw f.pn
    have z4 := flagL_len f.toA
    have z5 := trailL_len d.tr
    simp only [bodyL, List.flatten_cons, List.flatten_nil, List.length_append, List.length_nil]
    omega
  · have z0 := idL_len f.a
    have z1 := n1_len f.n
    simp only [bodyL, List.flatten_cons, List.flatten_nil, List.length_append, List.length_nil]
    omega
  · have z0 := idL_len f.a
    have z1 := idL_len f.b
    have z2 := n3_len f.n f.op f.ttl
    have z3 := itemL_len f.key f.vn f.vw d.val
    have z4 := t1_len d.tx
    simp only [bodyL, List.flatten_cons, List.flatten_nil, List.length_append, List.length_nil]
    omega
  · have z0 := pathL_len f.pw f.pn
    have z1 := flagL_len f.toA
    have z2 := itemL_len f.key f.vn f.vw d.val
    simp only [bodyL, List.flatten_cons, List.flatten_nil, List.length_append, List.length_nil]
    omega
  · have z0 := pathL_len f.pw f.pn
    have z1 := flagL_len f.toA
    have z2 := idL_len f.key
    have z3 := verL_len f.vn f.vw
    simp only [bodyL, List.flatten_cons, List.flatten_nil, List.length_append, List.length_nil]
    omega
end Go.Proofs.Ythmcnlmphikicab
namespace Go.Proofs.Ythmcnlmphikicab
open Go.ChangeShapes Go.WideShapes Go.ChangeAt Go.RowKit
theorem cellsI_len : ∀ {l : List (List Nat)}, ok16 l → (cellsI l).length = l.length * 16
  | [], _ => rfl
  | x :: l, h => by
    have h1 := (h x List.mem_cons_self).1
    have h2 := cellsI_len (l := l) fun y hy => h y (List.mem_cons_of_mem _ hy)
    unfold cellsI at *
    rw [List.flatMap_cons, List.length_append, h2, List.length_cons, bL, List.length_map, h1]
    omega
theorem ck2 : Try.prog.cellsOf 2 = 1 := by kernel_rfl
theorem ck3 : Try.prog.cellsOf 3 = 1 := by kernel_rfl
theorem ck4 : Try.prog.cellsOf 4 = 1 := by kernel_rfl
theorem ck25 : Try.prog.cellsOf 29 = 17 := by kernel_rfl
theorem ck27 : Try.prog.cellsOf 31 = 2 := by kernel_rfl
theorem ck28 : Try.prog.cellsOf 32 = 1 := by kernel_rfl
theorem ck29 : Try.prog.cellsOf 33 = 1 := by kernel_rfl
theorem ck31 : Try.prog.cellsOf 35 = 17 := by kernel_rfl
theorem ck32 : Try.prog.cellsOf 36 = 1 := by kernel_rfl
theorem ck34 : Try.prog.cellsOf 38 = 34 := by kernel_rfl
theorem ck36 : Try.prog.cellsOf 40 = 95 := by kernel_rfl
theorem bk3 : Try.prog.bytesOf 3 = 8 := by kernel_rfl
theorem bk23 : Try.prog.bytesOf 27 = 16 := by kernel_rfl
theorem subSeg (cs : List Value) (off size o m : Nat) (h : o + m ≤ size) : (((cs.drop off).take size).drop o).take m = (cs.drop (off + o)).take m := by
  rw [List.drop_take, List.take_take, List.drop_drop]
  congr 1
  omega
theorem nextSeg {cs l : List Value} {off n b : Nat} (h : (cs.drop off).take n = l) (hb : off + n = b) : cs.drop off = l ++ cs.drop b := by
  rw [← h, ← hb, ← List.drop_drop, List.take_append_drop]
theorem idA_list (n : Nat) : (idA n).toList = bL (idL (byt n)) := by
  simp [idA, bL, idL, List.ofFn_succ]
theorem byt_ok (n : Nat) : okI (byt n) := fun i => byt_lt n i
section
variable {H : Type} {enc : TypeId × Value → H} {w : World} {base : Nat} {spare : Nat → Bool} {held : Bool}
theorem int_seg {t : TypeId} {fuel : Nat} {l : List Value} {x : DataW H × List MemPlace} (hu : Try.prog.underlying t = some (.int .i64)) (h : DataW.trod enc Try.prog w base spare held fuel t l = some x) : ∃ z : Int, l = [.int .i64 z] ∧ z < 9223372036854775808 := by
  obtain ⟨z, e, _, wf⟩ := DataW.trod_int hu h
  refine ⟨z, e, ?_⟩
  have e1 : IntKind.i64.min = -9223372036854775808 := rfl
  have e2 : IntKind.i64.max = 9223372036854775807 := rfl
  simp [Lit.wf, e1, e2] at wf
  omega
theorem id_seg {fuel : Nat} {l : List Value} {x : DataW H × List MemPlace} (h : DataW.trod enc Try.prog w base spare held fuel 27 l = some x) : ∃ y : Nat → Nat, l = bL (idL y) ∧ okI y := by
  obtain ⟨n, _, e⟩ := id_of_trod h
  exact ⟨byt n, by rw [e, idA_list], byt_ok n⟩
end
end Go.Proofs.Ythmcnlmphikicab
namespace Go.Proofs.Ythmcnlmphikicab
open Go.RowKit
theorem same_of {f g : Fr} {df dg : FD} (h : sameB f g df dg = true) : (idL f.pw = idL g.pw ∧ f.pn = g.pn) ∧ f.toA = g.toA ∧ idL f.a = idL g.a ∧ idL f.b = idL g.b ∧ f.n = g.n ∧ (f.fi = g.fi ∧ f.fn = g.fn) ∧ (f.ti = g.ti ∧ f.tn = g.tn) ∧ f.op = g.op ∧ f.ttl = g.ttl ∧ df.tr = dg.tr ∧ df.ids = dg.ids ∧ df.tx = dg.tx ∧ idL f.key = idL g.key ∧ (f.vn = g.vn ∧ idL f.vw = idL g.vw) ∧ df.val = dg.val := by
  simpa only [sameB, Bool.and_eq_true, decide_eq_true_eq] using h
theorem layok_of (k : Nat) (h1 : 1 ≤ k) (h2 : k ≤ 12) (f : Fr) (d : FD) (w : World) (HW : FrW w f d) (HR : FrR f) (hr : rightB (bare k f) (bareD k d) (ownB k f) = true) (hs : sameB f (bare k f) d (bareD k d) = true) : LayOK k f d ∧ d.tx.length ≤ 4096 := by
  obtain ⟨N, L, O⟩ := (rightB_iff _ _ _).1 hr
  obtain ⟨⟨_, e_pn⟩, _, _, _, e_n, ⟨e_fi, e_fn⟩, ⟨e_ti, e_tn⟩, _, _, e_tr, e_ids, e_tx, _, ⟨e_vn, _⟩, e_val⟩ := same_of hs
  have HB := HW.bare k h1 h2
  have l_tr := xc_len1 HB.tr
  have l_val := xc_len1 HB.val
  have l_ids : (bareD k d).ids.length ≤ 16 := by
    have h3 := HB.ids.len
    rw [cellsI_len HB.oids] at h3
    have h4 := L.ids
    omega
  have l_tx := xc_len1 HW.tx
  have htx : d.tx.length ≤ 4096 := by
    rcases is12 h1 h2 with rfl | rfl | rfl | rfl | rfl | rfl | rfl | rfl | rfl | rfl | rfl | rfl <;>
      first
      | (rw [e_tx]; simp [bareD]; done)
      | (have h5 := ownB2 O; omega)
      | (have h5 : f.tx.n ≤ 64 := by
          simp only [ownB, Bool.and_eq_true, decide_eq_true_eq] at O
          omega
         omega)
  refine ⟨⟨⟨by rw [e_pn]; exact N.pn, HR.pn⟩, ⟨by rw [e_n]; exact N.n, HR.n⟩, ⟨by rw [e_fi]; exact N.fi, HR.fi⟩, ⟨by rw [e_fn]; exact N.fn, HR.fn⟩, ⟨by rw [e_ti]; exact N.ti, HR.ti⟩, ⟨by rw [e_tn]; exact N.tn, HR.tn⟩, ⟨by rw [e_vn]; exact N.vn, HR.vn⟩, by rw [e_tr, ← l_tr]; exact L.tr, by rw [e_tr]; exact L.tok, by rw [e_ids]; exact l_ids, fun x hx => (HW.oids x hx).1, by rw [e_val, ← l_val]; exact L.val, ?_⟩, htx⟩
  rcases is12 h1 h2 with rfl | rfl | rfl | rfl | rfl | rfl | rfl | rfl | rfl | rfl | rfl | rfl <;> try trivial
  · simpa only [ownB, Bool.and_eq_true, decide_eq_true_eq] using O
  · simp only [ownB, Bool.and_eq_true, decide_eq_true_eq] at O
    exact ⟨O.1, O.2.1, O.2.2.1, O.2.2.2.1, by omega⟩
end Go.Proofs.Ythmcnlmphikicab
namespace Go.Proofs.Ythmcnlmphikicab
open Go.RowKit
def Laid (w : World) (f : Fr) (d : FD) : Prop :=
  ∃ k : Nat, 1 ≤ k ∧ k ≤ 12 ∧ f.kind = (k : Int) ∧ sameB f (bare k f) d (bareD k d) = true ∧ LayOK k f d ∧ d.tx.length ≤ 4096 ∧ (frameL k f d).length ≤ 1000009 ∧ 0 < (frameL k f d).length ∧
    ∀ w1, Gro w w1 → Calls Try.prog 11 #[.agg (frA f)] w1 fun e w' => ∃ ao cap, e = .returned (.tuple #[.slice ao (frameL k f d).length cap, .int .i64 0]) ∧ OB w' 5 .u8 w1.heap.size ao cap (frameL k f d) ∧ Gro w1 w'
def Refused (w : World) (f : Fr) : Prop := ∀ w1, Gro w w1 → Calls Try.prog 11 #[.agg (frA f)] w1 fun e w' => e = .returned (.tuple #[.slice none 0 0, .int .i64 1]) ∧ Gro w1 w'
theorem enc_way (w : World) (f : Fr) (d : FD) (HW : FrW w f d) (hl : Lens d) (HR : FrR f) : Refused w f ∨ Laid w f d := by
  by_cases hk : 1 ≤ f.kind ∧ f.kind ≤ 12
  · obtain ⟨k, hkk⟩ : ∃ k : Nat, f.kind = (k : Int) := ⟨f.kind.toNat, by omega⟩
    have h1 : 1 ≤ k := by omega
    have h2 : k ≤ 12 := by omega
    cases hr : rightB (bare k f) (bareD k d) (ownB k f) with
    | false => exact .inl fun w1 G => encode_right k h1 h2 f hkk d w1 (HW.gro G) hl hr
    | true =>
      cases hs : sameB f (bare k f) d (bareD k d) with
      | false => exact .inl fun w1 G => encode_only k h1 h2 f hkk d w1 (HW.gro G) hl hr hs
      | true =>
        obtain ⟨hL, htx⟩ := layok_of k h1 h2 f d w HW HR hr hs
        have hbl := bodyL_len k h1 h2 f d hL.tr hL.ids HW.oids hL.val htx
        have hn := numL_le k
        have hn1 := numL_len k
        have hfl : (frameL k f d).length = (numL k).length + (bodyL k f d).length := by simp [frameL]
        exact .inr ⟨k, h1, h2, hkk, hs, hL, htx, by omega, by omega, fun w1 G => encode_ok k h1 h2 f hkk d w1 (HW.gro G) hl HR hr hs hbl _ (Nat.le_refl _)⟩
  · exact .inl fun w1 _ => encode_none f hk w1
end Go.Proofs.Ythmcnlmphikicab
