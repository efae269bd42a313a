/- What insertion and merging in place come to; candidates in order, and the first one of each identity. No program. -/
import Derived.Test.YtfabgonoonanfaaEG3
namespace Go.Proofs.Ytfabgonoonanfaa
open Go.RowKit
section
variable {α : Type} (z : α) {lt : α → α → Bool}
def isd (lt : α → α → Bool) (l : List α) (a i : Nat) : List α := l.take a ++ (srt lt (sub l a i) ++ l.drop i)
def mgd (lt : α → α → Bool) (l : List α) (a m b : Nat) : List α := l.take a ++ (mrg lt (sub l a m) (sub l m b) ++ l.drop b)
theorem isd_app (A X Z : List α) {a i : Nat} (ha : a = A.length) (hi : i = A.length + X.length) : isd lt (A ++ (X ++ Z)) a i = A ++ (srt lt X ++ Z) := by
  unfold isd
  have e2 : (A ++ (X ++ Z)).drop i = Z := by rw [hi, ← List.append_assoc A, ← List.length_append, List.drop_left]
  rw [sub_app A X Z ha hi, e2, ha, List.take_left]
theorem mgd_app (A X Y Z : List α) {a m b : Nat} (ha : a = A.length) (hm : m = A.length + X.length) (hb : b = A.length + X.length + Y.length) : mgd lt (A ++ (X ++ (Y ++ Z))) a m b = A ++ (mrg lt X Y ++ Z) := by
  unfold mgd
  have e : A ++ (X ++ (Y ++ Z)) = (A ++ X) ++ (Y ++ Z) := by simp
  have e1 : sub (A ++ (X ++ (Y ++ Z))) m b = Y := by rw [e, sub_app (A ++ X) Y Z (by rw [List.length_append]; exact hm) (by rw [List.length_append]; exact hb)]
  have e2 : (A ++ (X ++ (Y ++ Z))).drop b = Z := by rw [hb, ← List.append_assoc A, ← List.append_assoc, ← List.length_append, ← List.length_append, List.drop_left]
  rw [e1, e2, sub_app A X (Y ++ Z) ha hm, ha, List.take_left]
theorem sub_len {l : List α} {a b : Nat} (_h : a ≤ b) (hb : b ≤ l.length) : (sub l a b).length = b - a := by
  unfold sub
  rw [List.length_take, List.length_drop]
  omega
theorem isd_len {l : List α} {a i : Nat} (h : a ≤ i) (hi : i ≤ l.length) : (isd lt l a i).length = l.length := by
  unfold isd
  rw [List.length_append, List.length_append, srt_len, sub_len h hi, List.length_take, List.length_drop]
  omega
theorem mgd_len {l : List α} {a m b : Nat} (h : a ≤ m) (hm : m ≤ b) (hb : b ≤ l.length) : (mgd lt l a m b).length = l.length := by
  unfold mgd
  rw [List.length_append, List.length_append, mrg_len, sub_len h (by omega), sub_len hm hb, List.length_take, List.length_drop]
  omega
theorem sub_self (l : List α) (a : Nat) : sub l a a = [] := by
  unfold sub
  rw [Nat.sub_self, List.take_zero]
theorem isd_self (l : List α) (a : Nat) : isd lt l a a = l := by
  unfold isd
  rw [sub_self]
  exact List.take_append_drop a l
theorem isd_one {l : List α} {a : Nat} (h : a < l.length) : isd lt l a (a + 1) = l := by
  obtain ⟨A, B, rfl, hA⟩ := cut_at l a (by omega)
  rw [List.length_append] at h
  obtain ⟨X, Z, rfl, hX⟩ := cut_at B 1 (by omega)
  rw [isd_app A X Z hA.symm (by omega)]
  obtain ⟨x, rfl⟩ := List.length_eq_one_iff.1 hX
  rfl
theorem getD_of_mem {l : List α} {x : α} (h : x ∈ l) : ∃ t, t < l.length ∧ l.getD t z = x := by
  obtain ⟨t, ht, e⟩ := List.mem_iff_getElem.1 h
  exact ⟨t, ht, by rw [List.getD_eq_getElem?_getD, List.getElem?_eq_getElem ht, e]; rfl⟩
theorem getD_left {A B : List α} {n : Nat} (h : n < A.length) : (A ++ B).getD n z = A.getD n z := by rw [List.getD_eq_getElem?_getD, List.getElem?_append_left h, List.getD_eq_getElem?_getD]
theorem getD_mid (A X Z : List α) {n t : Nat} (hn : n = A.length + t) (ht : t < X.length) : (A ++ (X ++ Z)).getD n z = X.getD t z := by rw [hn, getD_app, getD_left z ht]
theorem getD_in {l : List α} {t : Nat} (h : t < l.length) : l.getD t z ∈ l := by
  rw [List.getD_eq_getElem?_getD, List.getElem?_eq_getElem h]
  exact List.getElem_mem h
theorem Sd.le {l : List α} (h : Sd lt l) {i j : Nat} (hij : i < j) (hj : j < l.length) : lt (l.getD j z) (l.getD i z) = false := by
  have := List.pairwise_iff_getElem.1 h i j (by omega) hj hij
  rw [List.getD_eq_getElem?_getD, List.getD_eq_getElem?_getD, List.getElem?_eq_getElem hj, List.getElem?_eq_getElem (by omega : i < l.length)]
  exact this
/-- What stands ahead of one that isn't greater, and what stands behind one that is. -/
theorem Sd.pre_of (sw : SW lt) {P : List α} (h : Sd lt P) {x : α} (hl : P = [] ∨ lt x (P.getD (P.length - 1) z) = false) : ∀ p ∈ P, lt x p = false := fun p hp => by
  obtain ⟨t, ht, rfl⟩ := getD_of_mem z hp
  rcases hl with rfl | hl
  · cases hp
  by_cases e : t = P.length - 1
  · rw [e]; exact hl
  · exact sw.ntr x _ _ hl (h.le z (by omega) (by omega))
theorem Sd.suf_of (sw : SW lt) {Q : List α} (h : Sd lt Q) {x : α} (hl : Q = [] ∨ lt x (Q.getD 0 z) = true) : ∀ q ∈ Q, lt x q = true := fun q hq => by
  obtain ⟨t, ht, rfl⟩ := getD_of_mem z hq
  rcases hl with rfl | hl
  · cases hq
  by_cases e : t = 0
  · rw [e]; exact hl
  · exact sw.lt_le hl (h.le z (by omega) ht)
theorem Sd.pre_lt (sw : SW lt) {P : List α} (h : Sd lt P) {x : α} (hl : P = [] ∨ lt (P.getD (P.length - 1) z) x = true) : ∀ p ∈ P, lt p x = true := fun p hp => by
  obtain ⟨t, ht, rfl⟩ := getD_of_mem z hp
  rcases hl with rfl | hl
  · cases hp
  by_cases e : t = P.length - 1
  · rw [e]; exact hl
  · exact sw.le_lt (h.le z (by omega) (by omega)) hl
theorem Sd.suf_le (sw : SW lt) {Q : List α} (h : Sd lt Q) {x : α} (hl : Q = [] ∨ lt (Q.getD 0 z) x = false) : ∀ q ∈ Q, lt q x = false := fun q hq => by
  obtain ⟨t, ht, rfl⟩ := getD_of_mem z hq
  rcases hl with rfl | hl
  · cases hq
  by_cases e : t = 0
  · rw [e]; exact hl
  · exact sw.ntr _ _ x (h.le z (by omega) ht) hl
/-- One more is put in. -/
theorem isd_step (sw : SW lt) {l : List α} {a i k : Nat} (hai : a ≤ i) (hi : i < l.length) (hk : k ≤ i - a) (h1 : ∀ t, t < k → lt (l.getD i z) ((isd lt l a i).getD (i - 1 - t) z) = true) (h2 : k = i - a ∨ lt (l.getD i z) ((isd lt l a i).getD (i - 1 - k) z) = false) : mvl z (isd lt l a i) i k = isd lt l a (i + 1) := by
  obtain ⟨A, B, rfl, hA⟩ := cut_at l a (by omega)
  rw [List.length_append] at hi
  obtain ⟨X, C, rfl, hX⟩ := cut_at B (i - a) (by omega)
  rw [List.length_append] at hi
  obtain ⟨X1, Z, rfl, hX1⟩ := cut_at C 1 (by omega)
  obtain ⟨x, rfl⟩ := List.length_eq_one_iff.1 hX1
  have ex : (A ++ (X ++ ([x] ++ Z))).getD i z = x := by
    rw [← List.append_assoc, getD_mid z (A ++ X) [x] Z (t := 0) (by rw [List.length_append]; omega) (by simp)]
    rfl
  rw [ex] at h1 h2
  have e1 : isd lt (A ++ (X ++ ([x] ++ Z))) a i = A ++ (srt lt X ++ ([x] ++ Z)) := isd_app A X _ hA.symm (by omega)
  have e2 : isd lt (A ++ (X ++ ([x] ++ Z))) a (i + 1) = A ++ (ins lt x (srt lt X) ++ Z) := by
    have e : A ++ (X ++ ([x] ++ Z)) = A ++ ((X ++ [x]) ++ Z) := by simp
    rw [e, isd_app A (X ++ [x]) Z hA.symm (by rw [List.length_append, List.length_singleton]; omega), srt_snoc]
  rw [e1] at h1 h2
  rw [e1, e2]
  have hs := Sd.srt sw X
  have hl : (srt lt X).length = i - a := by rw [srt_len]; exact hX
  generalize srt lt X = S at h1 h2 hs hl
  obtain ⟨S1, S2, rfl, hS1⟩ := cut_at S (i - a - k) (by omega)
  rw [List.length_append] at hl
  have hs' := List.pairwise_append.1 hs
  have eA : A ++ ((S1 ++ S2) ++ ([x] ++ Z)) = (A ++ S1) ++ (S2 ++ x :: Z) := by simp
  have q1 : ∀ p ∈ S1, lt x p = false := by
    refine Sd.pre_of z sw hs'.1 ?_
    rcases h2 with h2 | h2
    · exact .inl (List.length_eq_zero_iff.1 (by omega))
    · by_cases c : S1.length = 0
      · exact .inl (List.length_eq_zero_iff.1 c)
      · refine .inr ?_
        have eB : A ++ ((S1 ++ S2) ++ ([x] ++ Z)) = A ++ (S1 ++ (S2 ++ ([x] ++ Z))) := by simp
        rwa [eB, getD_mid z A S1 _ (t := S1.length - 1) (by omega) (by omega)] at h2
  have q2 : ∀ q ∈ S2, lt x q = true := fun q hq => by
    obtain ⟨t, ht, rfl⟩ := getD_of_mem z hq
    have := h1 (k - 1 - t) (by omega)
    have eB : A ++ ((S1 ++ S2) ++ ([x] ++ Z)) = (A ++ S1) ++ (S2 ++ ([x] ++ Z)) := by simp
    rwa [eB, getD_mid z (A ++ S1) S2 _ (t := t) (by rw [List.length_append]; omega) ht] at this
  rw [eA, mvl_app z k (A ++ S1) S2 Z x i (by omega) (by rw [List.length_append]; omega), ins_at q1 q2]
  simp
/-- The first of two halves is a single one, or the second. -/
theorem mgd_left (sw : SW lt) {l : List α} {a b i : Nat} (hi1 : a + 1 ≤ i) (hi2 : i ≤ b) (hb : b ≤ l.length) (hs : Sd lt (sub l (a + 1) b)) (h1 : i = a + 1 ∨ lt (l.getD (i - 1) z) (l.getD a z) = true) (h2 : i = b ∨ lt (l.getD i z) (l.getD a z) = false) : mvr z l a (i - 1 - a) = mgd lt l a (a + 1) b := by
  obtain ⟨A, B, rfl, hA⟩ := cut_at l a (by omega)
  rw [List.length_append] at hb
  obtain ⟨X, C, rfl, hX⟩ := cut_at B 1 (by omega)
  obtain ⟨x, rfl⟩ := List.length_eq_one_iff.1 hX
  rw [List.length_append] at hb
  obtain ⟨Y1, E, rfl, hY1⟩ := cut_at C (i - (a + 1)) (by omega)
  rw [List.length_append] at hb
  obtain ⟨Y2, Z, rfl, hY2⟩ := cut_at E (b - i) (by omega)
  have e0 : A ++ ([x] ++ (Y1 ++ (Y2 ++ Z))) = (A ++ [x]) ++ ((Y1 ++ Y2) ++ Z) := by simp
  have lx : (A ++ [x]).length = a + 1 := by rw [List.length_append, hX, hA]
  have ex : (A ++ ([x] ++ (Y1 ++ (Y2 ++ Z)))).getD a z = x := by rw [getD_mid z A [x] _ (t := 0) (by omega) (by simp)]; rfl
  rw [e0, sub_app (A ++ [x]) (Y1 ++ Y2) Z lx.symm (by rw [lx, List.length_append]; omega)] at hs
  rw [ex] at h1 h2
  have hs' := List.pairwise_append.1 hs
  have q1 : ∀ y ∈ Y1, lt y x = true := by
    refine Sd.pre_lt z sw hs'.1 ?_
    by_cases c : Y1.length = 0
    · exact .inl (List.length_eq_zero_iff.1 c)
    · rcases h1 with h1 | h1
      · exact absurd h1 (by omega)
      · refine .inr ?_
        have eB : A ++ ([x] ++ (Y1 ++ (Y2 ++ Z))) = (A ++ [x]) ++ (Y1 ++ (Y2 ++ Z)) := by simp
        rwa [eB, getD_mid z (A ++ [x]) Y1 _ (t := Y1.length - 1) (by omega) (by omega)] at h1
  have q2 : ∀ y ∈ Y2, lt y x = false := by
    refine Sd.suf_le z sw hs'.2.1 ?_
    by_cases c : Y2.length = 0
    · exact .inl (List.length_eq_zero_iff.1 c)
    · rcases h2 with h2 | h2
      · exact absurd h2 (by omega)
      · refine .inr ?_
        have eB : A ++ ([x] ++ (Y1 ++ (Y2 ++ Z))) = ((A ++ [x]) ++ Y1) ++ (Y2 ++ Z) := by simp
        rwa [eB, getD_mid z ((A ++ [x]) ++ Y1) Y2 _ (t := 0) (by rw [List.length_append]; omega) (by omega)] at h2
  have e1 : A ++ ([x] ++ (Y1 ++ (Y2 ++ Z))) = A ++ x :: (Y1 ++ (Y2 ++ Z)) := rfl
  have e2 : A ++ ([x] ++ (Y1 ++ (Y2 ++ Z))) = A ++ ([x] ++ ((Y1 ++ Y2) ++ Z)) := by simp
  have e3 : mrg lt [x] (Y1 ++ Y2) = Y1 ++ (x :: Y2) := by
    have := mrg_split (X1 := []) (X2 := [x]) hs (by simp) (fun y hy w hw => by rw [List.mem_singleton.1 hw]; exact q1 y hy)
    rw [List.nil_append] at this
    rw [this, mrg_sorted Y1 [] hs'.1, mrg_sorted Y2 [x] (List.pairwise_cons.2 ⟨q2, hs'.2.1⟩)]
    rfl
  rw [e1, mvr_app z _ A Y1 (Y2 ++ Z) x a (by omega) hA.symm, ← e1, e2, mgd_app A [x] (Y1 ++ Y2) Z hA.symm (by rw [hX, hA]) (by rw [hX, hA, List.length_append]; omega), e3]
  simp
theorem mgd_right (sw : SW lt) {l : List α} {a m i : Nat} (hi1 : a ≤ i) (hi2 : i ≤ m) (hb : m + 1 ≤ l.length) (hs : Sd lt (sub l a m)) (h1 : i = a ∨ lt (l.getD m z) (l.getD (i - 1) z) = false) (h2 : i = m ∨ lt (l.getD m z) (l.getD i z) = true) : mvl z l m (m - i) = mgd lt l a m (m + 1) := by
  obtain ⟨A, B, rfl, hA⟩ := cut_at l a (by omega)
  rw [List.length_append] at hb
  obtain ⟨X1, C, rfl, hX1⟩ := cut_at B (i - a) (by omega)
  rw [List.length_append] at hb
  obtain ⟨X2, E, rfl, hX2⟩ := cut_at C (m - i) (by omega)
  rw [List.length_append] at hb
  obtain ⟨Y, Z, rfl, hY⟩ := cut_at E 1 (by omega)
  obtain ⟨y, rfl⟩ := List.length_eq_one_iff.1 hY
  have e0 : A ++ (X1 ++ (X2 ++ ([y] ++ Z))) = A ++ ((X1 ++ X2) ++ ([y] ++ Z)) := by simp
  have lx : (X1 ++ X2).length = m - a := by rw [List.length_append]; omega
  have ey : (A ++ (X1 ++ (X2 ++ ([y] ++ Z)))).getD m z = y := by
    rw [e0, ← List.append_assoc, getD_mid z (A ++ (X1 ++ X2)) [y] Z (t := 0) (by rw [List.length_append, lx]; omega) (by simp)]
    rfl
  rw [e0, sub_app A (X1 ++ X2) ([y] ++ Z) hA.symm (by omega)] at hs
  rw [ey] at h1 h2
  have hs' := List.pairwise_append.1 hs
  have q1 : ∀ p ∈ X1, lt y p = false := by
    refine Sd.pre_of z sw hs'.1 ?_
    by_cases c : X1.length = 0
    · exact .inl (List.length_eq_zero_iff.1 c)
    · rcases h1 with h1 | h1
      · exact absurd h1 (by omega)
      · refine .inr ?_
        rwa [getD_mid z A X1 _ (t := X1.length - 1) (by omega) (by omega)] at h1
  have q2 : ∀ q ∈ X2, lt y q = true := by
    refine Sd.suf_of z sw hs'.2.1 ?_
    by_cases c : X2.length = 0
    · exact .inl (List.length_eq_zero_iff.1 c)
    · rcases h2 with h2 | h2
      · exact absurd h2 (by omega)
      · refine .inr ?_
        rwa [← List.append_assoc, getD_mid z (A ++ X1) X2 _ (t := 0) (by rw [List.length_append]; omega) (by omega)] at h2
  have e1 : A ++ (X1 ++ (X2 ++ ([y] ++ Z))) = (A ++ X1) ++ (X2 ++ y :: Z) := by simp
  rw [e1, mvl_app z _ (A ++ X1) X2 Z y m (by omega) (by rw [List.length_append]; omega), ← e1, e0, mgd_app A (X1 ++ X2) [y] Z hA.symm (by omega) (by rw [lx, hY]; omega), mrg_one, ins_at q1 q2]
  simp
/-- Both halves are cut, turned, merged. -/
def sy1 (l : List α) (m s e : Nat) : List α := if s < m ∧ m < e then tgt l m (m - s) (e - m) else l
def sy2 (lt : α → α → Bool) (l : List α) (a s d : Nat) : List α := if a < s ∧ s < d then mgd lt l a s d else l
theorem sy_all (sw : SW lt) {l : List α} {a m b s e d : Nat} (h1 : a ≤ s) (h2 : s ≤ m) (h3 : m ≤ e) (h4 : e ≤ b) (hb : b ≤ l.length) (hd : d + m = s + e) (sX : Sd lt (sub l a m)) (sY : Sd lt (sub l m b))
    (c1 : s = a ∨ e = b ∨ lt (l.getD e z) (l.getD (s - 1) z) = false) (c2 : s = m ∨ e = m ∨ lt (l.getD (e - 1) z) (l.getD s z) = true) :
    (Sd lt (sub (sy1 l m s e) a s) ∧ Sd lt (sub (sy1 l m s e) s d)) ∧ (Sd lt (sub (sy2 lt (sy1 l m s e) a s d) d e) ∧ Sd lt (sub (sy2 lt (sy1 l m s e) a s d) e b)) ∧ sy2 lt (sy2 lt (sy1 l m s e) a s d) d e b = mgd lt l a m b := by
  obtain ⟨A, B, rfl, hA⟩ := cut_at l a (by omega)
  rw [List.length_append] at hb
  obtain ⟨X1, C, rfl, hX1⟩ := cut_at B (s - a) (by omega)
  rw [List.length_append] at hb
  obtain ⟨X2, E, rfl, hX2⟩ := cut_at C (m - s) (by omega)
  rw [List.length_append] at hb
  obtain ⟨Y1, F, rfl, hY1⟩ := cut_at E (e - m) (by omega)
  rw [List.length_append] at hb
  obtain ⟨Y2, Z, rfl, hY2⟩ := cut_at F (b - e) (by omega)
  have eX : A ++ (X1 ++ (X2 ++ (Y1 ++ (Y2 ++ Z)))) = A ++ ((X1 ++ X2) ++ (Y1 ++ (Y2 ++ Z))) := by simp
  have eY : A ++ (X1 ++ (X2 ++ (Y1 ++ (Y2 ++ Z)))) = (A ++ (X1 ++ X2)) ++ ((Y1 ++ Y2) ++ Z) := by simp
  have lX : (X1 ++ X2).length = m - a := by rw [List.length_append]; omega
  have lY : (Y1 ++ Y2).length = b - m := by rw [List.length_append]; omega
  have lAX : (A ++ (X1 ++ X2)).length = m := by rw [List.length_append]; omega
  rw [eX, sub_app A (X1 ++ X2) _ hA.symm (by omega)] at sX
  rw [eY, sub_app (A ++ (X1 ++ X2)) (Y1 ++ Y2) Z lAX.symm (by omega)] at sY
  have sX' := List.pairwise_append.1 sX
  have sY' := List.pairwise_append.1 sY
  have q1 : ∀ y ∈ Y2, ∀ x ∈ X1, lt y x = false := by
    intro y hy x hx
    have n1 : X1.length ≠ 0 := fun c => by rw [List.length_eq_zero_iff.1 c] at hx; cases hx
    have n2 : Y2.length ≠ 0 := fun c => by rw [List.length_eq_zero_iff.1 c] at hy; cases hy
    have c1' : lt (Y2.getD 0 z) (X1.getD (X1.length - 1) z) = false := by
      rcases c1 with c | c | c
      · exact absurd c (by omega)
      · exact absurd c (by omega)
      · have g1 : (A ++ (X1 ++ (X2 ++ (Y1 ++ (Y2 ++ Z))))).getD e z = Y2.getD 0 z := by
          have : A ++ (X1 ++ (X2 ++ (Y1 ++ (Y2 ++ Z)))) = ((A ++ (X1 ++ X2)) ++ Y1) ++ (Y2 ++ Z) := by simp
          rw [this, getD_mid z _ Y2 Z (t := 0) (by rw [List.length_append]; omega) (by omega)]
        have g2 : (A ++ (X1 ++ (X2 ++ (Y1 ++ (Y2 ++ Z))))).getD (s - 1) z = X1.getD (X1.length - 1) z := getD_mid z A X1 _ (by omega) (by omega)
        rwa [g1, g2] at c
    have k1 := Sd.pre_of z sw sX'.1 (x := Y2.getD 0 z) (.inr c1') x hx
    exact Sd.suf_le z sw sY'.2.1 (x := x) (.inr k1) y hy
  have q2 : ∀ y ∈ Y1, ∀ x ∈ X2, lt y x = true := by
    intro y hy x hx
    have n1 : X2.length ≠ 0 := fun c => by rw [List.length_eq_zero_iff.1 c] at hx; cases hx
    have n2 : Y1.length ≠ 0 := fun c => by rw [List.length_eq_zero_iff.1 c] at hy; cases hy
    have c2' : lt (Y1.getD (Y1.length - 1) z) (X2.getD 0 z) = true := by
      rcases c2 with c | c | c
      · exact absurd c (by omega)
      · exact absurd c (by omega)
      · have g1 : (A ++ (X1 ++ (X2 ++ (Y1 ++ (Y2 ++ Z))))).getD (e - 1) z = Y1.getD (Y1.length - 1) z := by
          have : A ++ (X1 ++ (X2 ++ (Y1 ++ (Y2 ++ Z)))) = (A ++ (X1 ++ X2)) ++ (Y1 ++ (Y2 ++ Z)) := by simp
          rw [this, getD_mid z _ Y1 _ (t := Y1.length - 1) (by omega) (by omega)]
        have g2 : (A ++ (X1 ++ (X2 ++ (Y1 ++ (Y2 ++ Z))))).getD s z = X2.getD 0 z := by
          rw [← List.append_assoc, getD_mid z (A ++ X1) X2 _ (t := 0) (by rw [List.length_append]; omega) (by omega)]
        rwa [g1, g2] at c
    have k1 := Sd.suf_of z sw sX'.2.1 (x := Y1.getD (Y1.length - 1) z) (.inr c2') x hx
    exact Sd.pre_lt z sw sY'.1 (x := x) (.inr k1) y hy
  have f1 : sy1 (A ++ (X1 ++ (X2 ++ (Y1 ++ (Y2 ++ Z))))) m s e = A ++ (X1 ++ (Y1 ++ (X2 ++ (Y2 ++ Z)))) := by
    unfold sy1
    split
    · rw [← List.append_assoc, tgt_app (A ++ X1) X2 Y1 (Y2 ++ Z) (by rw [List.length_append]; omega) (by omega) (by omega)]
      simp
    · rename_i c
      by_cases c' : s < m
      · have : Y1 = [] := List.length_eq_zero_iff.1 (by omega)
        rw [this]; simp
      · have : X2 = [] := List.length_eq_zero_iff.1 (by omega)
        rw [this]; simp
  have f2 : sy2 lt (A ++ (X1 ++ (Y1 ++ (X2 ++ (Y2 ++ Z))))) a s d = A ++ (mrg lt X1 Y1 ++ (X2 ++ (Y2 ++ Z))) := by
    unfold sy2
    split
    · exact mgd_app A X1 Y1 (X2 ++ (Y2 ++ Z)) hA.symm (by omega) (by omega)
    · by_cases c' : a < s
      · have : Y1 = [] := List.length_eq_zero_iff.1 (by omega)
        rw [this, mrg_nil]; simp
      · have : X1 = [] := List.length_eq_zero_iff.1 (by omega)
        rw [this, mrg_sorted Y1 [] sY'.1]; simp
  have lM : (A ++ mrg lt X1 Y1).length = d := by rw [List.length_append, mrg_len]; omega
  rw [f1, f2]
  refine ⟨⟨?_, ?_⟩, ⟨?_, ?_⟩, ?_⟩
  · rw [sub_app A X1 _ hA.symm (by omega)]; exact sX'.1
  · rw [← List.append_assoc, sub_app (A ++ X1) Y1 _ (by rw [List.length_append]; omega) (by rw [List.length_append]; omega)]; exact sY'.1
  · rw [← List.append_assoc, sub_app (A ++ mrg lt X1 Y1) X2 _ lM.symm (by omega)]; exact sX'.2.1
  · rw [← List.append_assoc, ← List.append_assoc, sub_app ((A ++ mrg lt X1 Y1) ++ X2) Y2 _ (by rw [List.length_append]; omega) (by rw [List.length_append]; omega)]; exact sY'.2.1
  · have e3 : A ++ (mrg lt X1 Y1 ++ (X2 ++ (Y2 ++ Z))) = (A ++ mrg lt X1 Y1) ++ (X2 ++ (Y2 ++ Z)) := by simp
    have f3 : sy2 lt ((A ++ mrg lt X1 Y1) ++ (X2 ++ (Y2 ++ Z))) d e b = (A ++ mrg lt X1 Y1) ++ (mrg lt X2 Y2 ++ Z) := by
      unfold sy2
      split
      · exact mgd_app (A ++ mrg lt X1 Y1) X2 Y2 Z lM.symm (by omega) (by omega)
      · by_cases c' : d < e
        · have : Y2 = [] := List.length_eq_zero_iff.1 (by omega)
          rw [this, mrg_nil]; simp
        · have : X2 = [] := List.length_eq_zero_iff.1 (by omega)
          rw [this, mrg_sorted Y2 [] sY'.2.1]; simp
    have e4 : A ++ (X1 ++ (X2 ++ (Y1 ++ (Y2 ++ Z)))) = A ++ ((X1 ++ X2) ++ ((Y1 ++ Y2) ++ Z)) := by simp
    rw [e3, f3, e4, mgd_app A (X1 ++ X2) (Y1 ++ Y2) Z hA.symm (by omega) (by omega), mrg_split sY q1 q2]
    simp
/-- Twenty at a time, at most forty. -/
def chk (lt : α → α → Bool) (l : List α) (k : Nat) : List α := if k = 0 then l else if k = 1 then isd lt l 0 20 else isd lt (isd lt l 0 20) 20 40
def fst2 (lt : α → α → Bool) (l : List α) : List α := srt lt (l.take 20) ++ srt lt (l.drop 20)
theorem isd_0 {l : List α} : isd lt l 0 l.length = srt lt l := by
  have := isd_app (lt := lt) [] l [] (a := 0) (i := l.length) rfl (by simp)
  simpa using this
theorem fst2_le {l : List α} (h : l.length ≤ 20) : fst2 lt l = srt lt l := by
  unfold fst2
  rw [List.take_of_length_le h, List.drop_of_length_le h]
  exact List.append_nil _
theorem isd_20 {l : List α} (_h : 20 ≤ l.length) : isd lt l 0 20 = srt lt (l.take 20) ++ l.drop 20 := by
  unfold isd sub
  rfl
theorem isd_two {l : List α} (h : 20 ≤ l.length) : isd lt (isd lt l 0 20) 20 l.length = fst2 lt l := by
  have h1 : (srt lt (l.take 20)).length = 20 := by rw [srt_len, List.length_take]; omega
  have := isd_app (lt := lt) (srt lt (l.take 20)) (l.drop 20) [] (a := 20) (i := l.length) h1.symm (by rw [h1, List.length_drop]; omega)
  rw [List.append_nil, List.append_nil] at this
  rw [isd_20 h, this]
  rfl
theorem chk_next {l : List α} {k : Nat} (hk : k ≤ 1) (h : 20 * k + 20 ≤ l.length) : isd lt (chk lt l k) (20 * k) (20 * k + 20) = chk lt l (k + 1) := by
  rcases (by omega : k = 0 ∨ k = 1) with rfl | rfl <;> rfl
theorem chk_len {l : List α} {k : Nat} (hk : k ≤ 2) (h : 20 * k ≤ l.length) : (chk lt l k).length = l.length := by
  rcases (by omega : k = 0 ∨ k = 1 ∨ k = 2) with rfl | rfl | rfl
  · rfl
  · exact isd_len (by omega) (by omega)
  · show (isd lt (isd lt l 0 20) 20 40).length = _
    rw [isd_len (by omega) (by rw [isd_len (by omega) (by omega)]; omega), isd_len (by omega) (by omega)]
theorem chk_end {l : List α} {k : Nat} (hk : k ≤ 2) (h : 20 * k ≤ l.length) (h2 : l.length < 20 * k + 20) (h40 : l.length ≤ 40) : isd lt (chk lt l k) (20 * k) l.length = fst2 lt l := by
  rcases (by omega : k = 0 ∨ k = 1 ∨ k = 2) with rfl | rfl | rfl
  · rw [fst2_le (by omega)]; exact isd_0
  · exact isd_two (by omega)
  · have e : l.length = 40 := by omega
    have := isd_two (lt := lt) (l := l) (by omega)
    rw [e] at this ⊢
    show isd lt (isd lt (isd lt l 0 20) 20 40) 40 40 = _
    rw [this, isd_self]
theorem fst2_len {l : List α} : (fst2 lt l).length = l.length := by
  unfold fst2
  rw [List.length_append, srt_len, srt_len, List.length_take, List.length_drop]
  omega
theorem fst2_sd (sw : SW lt) {l : List α} (h : 20 < l.length) : Sd lt (sub (fst2 lt l) 0 20) ∧ Sd lt (sub (fst2 lt l) 20 l.length) ∧ mgd lt (fst2 lt l) 0 20 l.length = srt lt l := by
  have h1 : (srt lt (l.take 20)).length = 20 := by rw [srt_len, List.length_take]; omega
  have h2 : (srt lt (l.drop 20)).length = l.length - 20 := by rw [srt_len, List.length_drop]
  have e : fst2 lt l = [] ++ (srt lt (l.take 20) ++ (srt lt (l.drop 20) ++ [])) := by simp [fst2]
  have e' : fst2 lt l = srt lt (l.take 20) ++ (srt lt (l.drop 20) ++ []) := by simp [fst2]
  refine ⟨?_, ?_, ?_⟩
  · rw [e, sub_app [] (srt lt (l.take 20)) _ (a := 0) (b := 20) rfl (by rw [h1]; rfl)]; exact Sd.srt sw _
  · rw [e', sub_app (srt lt (l.take 20)) (srt lt (l.drop 20)) [] h1.symm (by omega)]; exact Sd.srt sw _
  · rw [e, mgd_app [] (srt lt (l.take 20)) (srt lt (l.drop 20)) [] (a := 0) (m := 20) (b := l.length) rfl (by rw [h1]; rfl) (by rw [h1, h2, List.length_nil]; omega), srt_app sw, List.take_append_drop]
    simp
end
/-! ### Candidates in order -/
def ltC (a b : Cd) : Bool := decide (a.id < b.id) || (decide (a.id = b.id) && ahd a b)
theorem ltC_iff {a b : Cd} : ltC a b = true ↔ a.id < b.id ∨ (a.id = b.id ∧ (a.leg < b.leg ∨ (a.leg = b.leg ∧ ((a.leg = 1 ∧ ky a.p < ky b.p) ∨ (a.leg ≠ 1 ∧ a.n < b.n))))) := by
  unfold ltC
  rw [Bool.or_eq_true, Bool.and_eq_true, decide_eq_true_eq, decide_eq_true_eq, ahd_iff]
theorem sw_C : SW ltC := ⟨fun a b h => by
    rw [Bool.eq_false_iff, ne_eq, ltC_iff]
    rw [ltC_iff] at h
    omega, fun a b c h k => by
    rw [Bool.eq_false_iff, ne_eq, ltC_iff] at h k ⊢
    omega⟩
theorem ltC_id {a b : Cd} (h : ltC b a = false) : a.id ≤ b.id := by
  rw [Bool.eq_false_iff, ne_eq, ltC_iff] at h
  omega
theorem ltC_same {a b : Cd} (h : a.id = b.id) : ltC a b = ahd a b := by
  unfold ltC
  rw [decide_eq_false (by omega), decide_eq_true h]
  rfl
def fnd (x : Nat) (S : List Cd) : Option Cd := S.find? fun c => decide (c.id = x)
theorem fnd_ins {x : Nat} {S : List Cd} (hS : Sd ltC S) (c : Cd) : fnd x (ins ltC c S) = bstS x (fnd x S) c := by
  obtain ⟨A, B, h1, h2, h3, h4⟩ := hS.split sw_C c
  rw [h4, h1]
  unfold fnd bstS
  rw [List.find?_append, List.find?_append, List.find?_cons]
  by_cases e : c.id = x
  · rw [decide_eq_true e, if_pos e]
    cases f : A.find? fun c => decide (c.id = x) with
    | some b =>
      have hb : b.id = x := by simpa using List.find?_some f
      have := h2 b (List.mem_of_find?_eq_some f)
      rw [ltC_same (e.trans hb.symm)] at this
      simp [this]
    | none =>
      cases g : B.find? fun c => decide (c.id = x) with
      | none => simp
      | some b =>
        have hb : b.id = x := by simpa using List.find?_some g
        have := h3 b (List.mem_of_find?_eq_some g)
        rw [ltC_same (e.trans hb.symm)] at this
        simp [this]
  · rw [decide_eq_false e, if_neg e]
theorem fnd_srt (x : Nat) (n : Nat) : ∀ l : List Cd, l.length = n → fnd x (srt ltC l) = bstC x l := by
  induction n with
  | zero => intro l h; rw [List.length_eq_zero_iff.1 h]; rfl
  | succ n ih =>
    intro l h
    obtain ⟨m, c, rfl, hm⟩ := snocZ h
    rw [srt_snoc, fnd_ins (Sd.srt sw_C m), ih m hm, bstC_step]
/-- The first one of each identity of a sorted list. -/
def cpC (S : List Cd) : Nat → List Cd
  | 0 => []
  | e + 1 => if 0 < e ∧ (S.getD e zC).id = (S.getD (e - 1) zC).id then cpC S e else cpC S e ++ [S.getD e zC]
theorem cpC_eq {S : List Cd} {e : Nat} (h0 : 0 < e) (h : (S.getD e zC).id = (S.getD (e - 1) zC).id) : cpC S (e + 1) = cpC S e := by rw [cpC, if_pos ⟨h0, h⟩]
theorem cpC_ne {S : List Cd} {e : Nat} (h : (S.getD e zC).id ≠ (S.getD (e - 1) zC).id) : cpC S (e + 1) = cpC S e ++ [S.getD e zC] := by rw [cpC, if_neg fun c => h c.2]
theorem cpC_1 (S : List Cd) : cpC S 1 = [S.getD 0 zC] := by rw [cpC, if_neg fun c => absurd c.1 (by omega)]; rfl
theorem snoc_take {S : List Cd} {e : Nat} (he : e < S.length) : S.take (e + 1) = S.take e ++ [S.getD e zC] := by
  have hg : S.getD e zC = S[e] := by simp [List.getD_eq_getElem?_getD, he]
  rw [List.take_add_one, List.getElem?_eq_getElem he, Option.toList_some, hg]
theorem fnd_snoc (x : Nat) (S : List Cd) (c : Cd) : fnd x (S ++ [c]) = (fnd x S).or (if c.id = x then some c else none) := by
  unfold fnd
  rw [List.find?_append, List.find?_cons]
  by_cases e : c.id = x
  · rw [decide_eq_true e, if_pos e]
  · rw [decide_eq_false e, if_neg e]; rfl
theorem cpC_spec {S : List Cd} (hS : Sd ltC S) : ∀ e, e ≤ S.length → ((cpC S e).map (·.id)).Pairwise (· < ·) ∧ (∀ x, (∃ c ∈ cpC S e, c.id = x) ↔ ∃ c ∈ S.take e, c.id = x) ∧ (∀ c ∈ cpC S e, fnd c.id (S.take e) = some c) ∧ (0 < e → ∃ c ∈ cpC S e, c.id = (S.getD (e - 1) zC).id)
  | 0, _ => ⟨List.Pairwise.nil, fun x => by simp [cpC], fun c (hc : c ∈ []) => (by cases hc), fun h => absurd h (by omega)⟩
  | e + 1, he => by
    obtain ⟨h1, h2, h3, h4⟩ := cpC_spec hS e (by omega)
    have ht := snoc_take (S := S) (e := e) (by omega)
    by_cases c : 0 < e ∧ (S.getD e zC).id = (S.getD (e - 1) zC).id
    · rw [cpC, if_pos c]
      obtain ⟨b, hb, hbi⟩ := h4 c.1
      refine ⟨h1, fun x => ?_, fun d hd => ?_, fun _ => ⟨b, hb, by rw [Nat.add_sub_cancel, c.2]; exact hbi⟩⟩
      · rw [h2, ht]
        constructor
        · rintro ⟨d, hd, e⟩
          exact ⟨d, List.mem_append_left _ hd, e⟩
        · rintro ⟨d, hd, e⟩
          rcases List.mem_append.1 hd with hd | hd
          · exact ⟨d, hd, e⟩
          · rw [List.mem_singleton.1 hd] at e
            obtain ⟨f, hf, hfi⟩ := (h2 x).1 ⟨b, hb, by rw [hbi, ← c.2]; exact e⟩
            exact ⟨f, hf, hfi⟩
      · rw [ht, fnd_snoc, h3 d hd]; rfl
    · rw [cpC, if_neg c]
      have hn : ∀ d ∈ cpC S e, d.id < (S.getD e zC).id := by
        intro d hd
        have e0 : 0 < e := by
          rcases Nat.eq_zero_or_pos e with rfl | h
          · cases hd
          · exact h
        have k1 : (S.getD (e - 1) zC).id < (S.getD e zC).id := by
          have := ltC_id (hS.le zC (i := e - 1) (j := e) (by omega) (by omega))
          have : (S.getD e zC).id ≠ (S.getD (e - 1) zC).id := fun h => c ⟨e0, h⟩
          omega
        obtain ⟨f, hf, hfi⟩ := (h2 d.id).1 ⟨d, hd, rfl⟩
        obtain ⟨t, ht', rfl⟩ := getD_of_mem zC hf
        rw [List.length_take] at ht'
        have e5 : (S.take e).getD t zC = S.getD t zC := by rw [List.getD_eq_getElem?_getD, List.getElem?_take, if_pos (by omega), List.getD_eq_getElem?_getD]
        rw [e5] at hfi
        rw [← hfi]
        by_cases q : t = e - 1
        · rw [q]; exact k1
        · have := ltC_id (hS.le zC (i := t) (j := e - 1) (by omega) (by omega))
          omega
      refine ⟨?_, fun x => ?_, fun d hd => ?_, fun _ => ⟨_, List.mem_append_right _ (List.mem_singleton.2 rfl), by rw [Nat.add_sub_cancel]⟩⟩
      · rw [List.map_append]
        refine List.pairwise_append.2 ⟨h1, by simp, fun i hi j hj => ?_⟩
        obtain ⟨d, hd, rfl⟩ := List.mem_map.1 hi
        simp only [List.map_cons, List.map_nil, List.mem_singleton] at hj
        rw [hj]
        exact hn d hd
      · rw [ht]
        constructor
        · rintro ⟨d, hd, e⟩
          rcases List.mem_append.1 hd with hd | hd
          · obtain ⟨f, hf, hfi⟩ := (h2 x).1 ⟨d, hd, e⟩
            exact ⟨f, List.mem_append_left _ hf, hfi⟩
          · exact ⟨d, List.mem_append_right _ hd, e⟩
        · rintro ⟨d, hd, e⟩
          rcases List.mem_append.1 hd with hd | hd
          · obtain ⟨f, hf, hfi⟩ := (h2 x).2 ⟨d, hd, e⟩
            exact ⟨f, List.mem_append_left _ hf, hfi⟩
          · exact ⟨d, List.mem_append_right _ hd, e⟩
      · rw [ht, fnd_snoc]
        rcases List.mem_append.1 hd with hd | hd
        · rw [h3 d hd]; rfl
        · rw [List.mem_singleton.1 hd, if_pos rfl]
          cases f : fnd (S.getD e zC).id (S.take e) with
          | none => rfl
          | some b =>
            have hb : b.id = (S.getD e zC).id := by simpa using List.find?_some f
            obtain ⟨g, hg, hgi⟩ := (h2 (S.getD e zC).id).2 ⟨b, List.mem_of_find?_eq_some f, hb⟩
            have := hn g hg
            omega
/-- What is found of those that are wanted. -/
theorem cp_ask {s : Nat} {fr : List Nat} {l : List Cd} {half : Int} (hf : All fr) (hl : ∀ c ∈ l, c.ok) : cpC (srt ltC (l.filter fun c => decide (c.id ∈ askI s fr l half))) (l.filter fun c => decide (c.id ∈ askI s fr l half)).length = askC s fr l half := by
  have hM := askI_ris (s := s) (half := half) hf hl
  have hm : ∀ x ∈ askI s fr l half, ∃ c ∈ l, c.id = x := fun x hx => (askI_mem hf hl hx).2.2.2
  have ha : All (askI s fr l half) := fun x hx => want_all (all_all hf hl) half x (askI_mem hf hl hx).1
  have ek : ∀ x, x < top → kc 0 x = x := fun x hx => kc_0 hx
  unfold askC
  generalize askI s fr l half = M at hM hm ha ⊢
  generalize hF : l.filter (fun c => decide (c.id ∈ M)) = F
  have hFm : ∀ c, c ∈ F ↔ c ∈ l ∧ c.id ∈ M := fun c => by rw [← hF, List.mem_filter, decide_eq_true_eq]
  obtain ⟨h1, h2, h3, _⟩ := cpC_spec (Sd.srt sw_C F) F.length (by rw [srt_len]; exact Nat.le_refl _)
  rw [List.take_of_length_le (by rw [srt_len]; exact Nat.le_refl _)] at h2 h3
  have hids : (cpC (srt ltC F) F.length).map (·.id) = M := by
    refine (Risi.uniq (k := kc 0) ?_ hM fun x => ?_)
    · have hin : ∀ i ∈ (cpC (srt ltC F) F.length).map (·.id), i < top := fun i hi => by
        obtain ⟨c, hc, rfl⟩ := List.mem_map.1 hi
        obtain ⟨d, hd, e⟩ := (h2 c.id).1 ⟨c, hc, rfl⟩
        rw [← e]
        exact ha _ ((hFm d).1 (srt_mem.1 hd)).2
      exact List.Pairwise.imp_of_mem (fun {a b} ha hb h => by rw [ek a (hin a ha), ek b (hin b hb)]; exact h) h1
    · rw [List.mem_map, h2]
      constructor
      · rintro ⟨c, hc, e⟩
        rw [← e]
        exact ((hFm c).1 (srt_mem.1 hc)).2
      · intro hx
        obtain ⟨c, hc, e⟩ := hm x hx
        exact ⟨c, srt_mem.2 ((hFm c).2 ⟨hc, e ▸ hx⟩), e⟩
  have hall : cpC (srt ltC F) F.length = ((cpC (srt ltC F) F.length).map (·.id)).map fun x => (fnd x (srt ltC F)).getD zC := by
    rw [List.map_map]
    refine ((List.map_congr_left fun c hc => ?_).trans (List.map_id _)).symm
    simp [h3 c hc]
  rw [hall, hids]
  refine List.map_congr_left fun x hx => ?_
  rw [fnd_srt x _ F rfl]
  congr 1
  rw [← hF]
  unfold bstC
  rw [List.foldl_filter]
  congr 1
  funext o c
  unfold bstS
  by_cases e : c.id = x
  · rw [if_pos e, decide_eq_true (by rw [e]; exact hx)]; rfl
  · rw [if_neg e]
    split <;> rfl
end Go.Proofs.Ytfabgonoonanfaa
