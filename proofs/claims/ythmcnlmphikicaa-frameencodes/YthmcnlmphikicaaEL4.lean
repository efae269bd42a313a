/- The document's Bare and Right are the program's. -/
import Derived.Test.YthmcnlmphikicaaEL2
import Derived.Test.YthmcnlmphikicaaEL3
namespace Go.Proofs.Ythmcnlmphikicaa
open Go.RowKit
theorem trN_take (l : List Int) : ∀ j, j ≤ l.length → trN l j = (l.take j).all fun x => !noPl x
  | 0, _ => by simp [trN]
  | j + 1, h => by
    have e : l.take (j + 1) = l.take j ++ [l.getD j 0] := by
      rw [List.take_add_one, List.getD_eq_getElem?_getD, List.getElem?_eq_getElem (show j < l.length by omega)]
      rfl
    rw [trN, trN_take l j (by omega), e, List.all_append]
    congr 1
    simp only [List.all_cons, List.all_nil, Bool.and_true, noPl]
    rw [Bool.eq_iff_iff]
    simp
    omega
theorem trN_trOK (l : List Int) : trN l l.length = trOK l := by
  rw [trN_take l _ (Nat.le_refl _), List.take_length]
  rfl
theorem okc_f (f : Fr) (d : FD) : okc f d 102 = (decide (0 ≤ f.fi) && decide (0 ≤ f.fn)) := rfl
theorem okc_t (f : Fr) (d : FD) : okc f d 116 = (decide (0 ≤ f.ti) && decide (0 ≤ f.tn)) := rfl
theorem okc_n (f : Fr) (d : FD) : okc f d 110 = (decide (0 ≤ f.n)) := rfl
theorem okc_p (f : Fr) (d : FD) : okc f d 112 = (decide (0 ≤ f.pn)) := rfl
theorem okc_r (f : Fr) (d : FD) : okc f d 114 = (decide (((f.tr.n : Nat) : Int) ≤ 64) && trN d.tr d.tr.length) := rfl
theorem okc_s (f : Fr) (d : FD) : okc f d 115 = (decide (((f.ids.n : Nat) : Int) ≤ 16)) := rfl
theorem okc_i (f : Fr) (d : FD) : okc f d 105 = (decide (0 ≤ f.vn) && decide (((f.val.n : Nat) : Int) ≤ 64)) := rfl
theorem okc_k (f : Fr) (d : FD) : okc f d 107 = (decide (0 ≤ f.vn)) := rfl
theorem okc_l (f : Fr) (d : FD) : okc f d 108 = (decide (0 ≤ f.op) && decide (f.op ≤ 3)) := rfl
theorem okc_o (f : Fr) (d : FD) : okc f d 111 = (decide (1 ≤ f.op) && decide (f.op ≤ 4)) := rfl
theorem okc_w (f : Fr) (d : FD) : okc f d 119 = (decide (0 ≤ f.ttl) && decide (f.ttl ≤ 64)) := rfl
theorem okc_x (f : Fr) (d : FD) : okc f d 120 = (decide (((f.tx.n : Nat) : Int) ≤ 4096)) := rfl
theorem okc_y (f : Fr) (d : FD) : okc f d 121 = (decide (((f.tx.n : Nat) : Int) ≤ 64)) := rfl
theorem okc_a (f : Fr) (d : FD) : okc f d 97 = true := rfl
theorem okc_b (f : Fr) (d : FD) : okc f d 98 = true := rfl
theorem okc_d (f : Fr) (d : FD) : okc f d 100 = true := rfl
theorem right_eq (k : Nat) (h1 : 1 ≤ k) (h2 : k ≤ 12) (f : Fr) (d : FD) (s1 s2 s3 s4 : Sl) (e1 : s1.n = f.tr.n) (e2 : s2.n = f.ids.n) (e3 : s3.n = f.val.n) (e4 : s4.n = f.tx.n) : rightB (bare k { f with tr := s1, ids := s2, val := s3, tx := s4 }) (bareD k d) (ownB k { f with tr := s1, ids := s2, val := s3, tx := s4 }) = okF f d (formL (k : Int)) (formL (k : Int)).length := by
  have ht := trN_trOK d.tr
  rcases is12 h1 h2 with rfl | rfl | rfl | rfl | rfl | rfl | rfl | rfl | rfl | rfl | rfl | rfl
  · have hq : (bareD 1 d).tr = [] := rfl
    show rightB _ _ _ = okF f d [102, 116, 97] 3
    simp only [okF, List.getD_cons_zero, List.getD_cons_succ, okc_f, okc_t, okc_a, rightB, numB, listB, ownB, bare, hq, Sl.nil]
    generalize trOK d.tr = q
    rw [Bool.eq_iff_iff]
    cases q <;> simp [trOK] <;> omega
  · have hq : (bareD 2 d).tr = [] := rfl
    show rightB _ _ _ = okF f d [102, 116, 110, 120] 4
    simp only [okF, List.getD_cons_zero, List.getD_cons_succ, okc_f, okc_t, okc_n, okc_x, rightB, numB, listB, ownB, bare, hq, e4, Sl.nil]
    generalize trOK d.tr = q
    rw [Bool.eq_iff_iff]
    cases q <;> simp [trOK] <;> omega
  · have hq : (bareD 3 d).tr = [] := rfl
    show rightB _ _ _ = okF f d [102, 116, 110] 3
    simp only [okF, List.getD_cons_zero, List.getD_cons_succ, okc_f, okc_t, okc_n, rightB, numB, listB, ownB, bare, hq, Sl.nil]
    generalize trOK d.tr = q
    rw [Bool.eq_iff_iff]
    cases q <;> simp [trOK] <;> omega
  · have hq : (bareD 4 d).tr = d.tr := rfl
    show rightB _ _ _ = okF f d [112, 97, 98, 114] 4
    simp only [okF, List.getD_cons_zero, List.getD_cons_succ, okc_p, okc_a, okc_b, okc_r, rightB, numB, listB, ownB, bare, hq, e1, ht, Sl.nil]
    generalize trOK d.tr = q
    rw [Bool.eq_iff_iff]
    cases q <;> simp <;> omega
  · have hq : (bareD 5 d).tr = [] := rfl
    show rightB _ _ _ = okF f d [112] 1
    simp only [okF, List.getD_cons_zero, okc_p, rightB, numB, listB, ownB, bare, hq, Sl.nil]
    generalize trOK d.tr = q
    rw [Bool.eq_iff_iff]
    cases q <;> simp [trOK] <;> omega
  · have hq : (bareD 6 d).tr = [] := rfl
    show rightB _ _ _ = okF f d [112, 100] 2
    simp only [okF, List.getD_cons_zero, List.getD_cons_succ, okc_p, okc_d, rightB, numB, listB, ownB, bare, hq, Sl.nil]
    generalize trOK d.tr = q
    rw [Bool.eq_iff_iff]
    cases q <;> simp [trOK] <;> omega
  · have hq : (bareD 7 d).tr = [] := rfl
    show rightB _ _ _ = okF f d [112, 100, 115] 3
    simp only [okF, List.getD_cons_zero, List.getD_cons_succ, okc_p, okc_d, okc_s, rightB, numB, listB, ownB, bare, hq, e2, Sl.nil]
    generalize trOK d.tr = q
    rw [Bool.eq_iff_iff]
    cases q <;> simp [trOK] <;> omega
  · have hq : (bareD 8 d).tr = d.tr := rfl
    show rightB _ _ _ = okF f d [97, 98, 108, 112, 100, 114] 6
    simp only [okF, List.getD_cons_zero, List.getD_cons_succ, okc_a, okc_b, okc_l, okc_p, okc_d, okc_r, rightB, numB, listB, ownB, bare, hq, e1, ht, Sl.nil]
    generalize trOK d.tr = q
    rw [Bool.eq_iff_iff]
    cases q <;> simp <;> omega
  · have hq : (bareD 9 d).tr = [] := rfl
    show rightB _ _ _ = okF f d [97, 110] 2
    simp only [okF, List.getD_cons_zero, List.getD_cons_succ, okc_a, okc_n, rightB, numB, listB, ownB, bare, hq, Sl.nil]
    generalize trOK d.tr = q
    rw [Bool.eq_iff_iff]
    cases q <;> simp [trOK] <;> omega
  · have hq : (bareD 10 d).tr = [] := rfl
    show rightB _ _ _ = okF f d [97, 98, 110, 111, 119, 105, 121] 7
    simp only [okF, List.getD_cons_zero, List.getD_cons_succ, okc_a, okc_b, okc_n, okc_o, okc_w, okc_i, okc_y, rightB, numB, listB, ownB, bare, hq, e3, e4, Sl.nil]
    generalize trOK d.tr = q
    rw [Bool.eq_iff_iff]
    cases q <;> simp [trOK] <;> omega
  · have hq : (bareD 11 d).tr = [] := rfl
    show rightB _ _ _ = okF f d [112, 100, 105] 3
    simp only [okF, List.getD_cons_zero, List.getD_cons_succ, okc_p, okc_d, okc_i, rightB, numB, listB, ownB, bare, hq, e3, Sl.nil]
    generalize trOK d.tr = q
    rw [Bool.eq_iff_iff]
    cases q <;> simp [trOK] <;> omega
  · have hq : (bareD 12 d).tr = [] := rfl
    show rightB _ _ _ = okF f d [112, 100, 107] 3
    simp only [okF, List.getD_cons_zero, List.getD_cons_succ, okc_p, okc_d, okc_k, rightB, numB, listB, ownB, bare, hq, Sl.nil]
    generalize trOK d.tr = q
    rw [Bool.eq_iff_iff]
    cases q <;> simp [trOK] <;> omega
theorem part_F (k : Nat) (h1 : 1 ≤ k) (h2 : k ≤ 12) (f : Fr) : EqF (partF f (formL (k : Int)) (formL (k : Int)).length) (bare k f) := by
  rcases is12 h1 h2 with rfl | rfl | rfl | rfl | rfl | rfl | rfl | rfl | rfl | rfl | rfl | rfl <;> exact ⟨rfl, rfl, rfl, rfl, rfl, rfl, rfl, rfl, rfl, rfl, rfl, rfl, rfl, rfl, rfl⟩
theorem part_D (k : Nat) (h1 : 1 ≤ k) (h2 : k ≤ 12) (d : FD) : partD d (formL (k : Int)) (formL (k : Int)).length = bareD k d := by
  rcases is12 h1 h2 with rfl | rfl | rfl | rfl | rfl | rfl | rfl | rfl | rfl | rfl | rfl | rfl <;> rfl
theorem form_in (k : Nat) (h1 : 1 ≤ k) (h2 : k ≤ 12) : formL (k : Int) ≠ [63] := by
  rcases is12 h1 h2 with rfl | rfl | rfl | rfl | rfl | rfl | rfl | rfl | rfl | rfl | rfl | rfl <;> decide
theorem EqF.symm {f g : Fr} (a : EqF f g) : EqF g f := ⟨a.pw.symm, a.pn.symm, a.toA.symm, a.a.symm, a.b.symm, a.n.symm, a.fi.symm, a.fn.symm, a.ti.symm, a.tn.symm, a.key.symm, a.vn.symm, a.vw.symm, a.op.symm, a.ttl.symm⟩
theorem bare_k (k : Nat) (h1 : 1 ≤ k) (h2 : k ≤ 12) (f : Fr) (hk : f.kind = (k : Int)) (d : FD) (w : World) (HF : FrW w f d) (HS : FrS f) : Calls Try.prog 17 #[.agg (frA f)] w fun e w' => ∃ g : Fr, e = .returned (.tuple #[.agg (frA g), .bool true]) ∧ Gro w w' ∧ EqF g (bare k f) ∧ g.kind = (k : Int) ∧ FrO w' w.heap.size g (bareD k d) :=
  (bare_d f d w HF HS).mono fun e w' h => by
    rw [hk] at h
    obtain ⟨g, he, G, hE, hg, HO⟩ := h.2 (form_in k h1 h2)
    rw [part_D k h1 h2] at HO
    exact ⟨g, he, G, hE.trans (part_F k h1 h2 f), hg.trans hk, HO⟩
theorem bare_no (f : Fr) (hk : ¬ (1 ≤ f.kind ∧ f.kind ≤ 12)) (d : FD) (w : World) (HF : FrW w f d) (HS : FrS f) : Calls Try.prog 17 #[.agg (frA f)] w fun e w' => e = .returned (.tuple #[.agg (c36 0 zF 0 false zF zF 0 0 0 0 0 Sl.nil Sl.nil zF 0 zF Sl.nil 0 0 Sl.nil), .bool false]) ∧ Gro w w' :=
  (bare_d f d w HF HS).mono fun _e _w' h => h.1 ((formL_is f.kind).resolve_left hk)
theorem bare_eqf (k : Nat) (h1 : 1 ≤ k) (h2 : k ≤ 12) (f : Fr) (s1 s2 s3 s4 : Sl) : EqF (bare k { f with tr := s1, ids := s2, val := s3, tx := s4 }) (bare k f) := by
  rcases is12 h1 h2 with rfl | rfl | rfl | rfl | rfl | rfl | rfl | rfl | rfl | rfl | rfl | rfl <;> exact ⟨rfl, rfl, rfl, rfl, rfl, rfl, rfl, rfl, rfl, rfl, rfl, rfl, rfl, rfl, rfl⟩
end Go.Proofs.Ythmcnlmphikicaa
