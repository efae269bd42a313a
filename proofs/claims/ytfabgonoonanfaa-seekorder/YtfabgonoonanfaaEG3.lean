/- Stable sorting in place: what its steps make of a list; of a sorted list the first one of each identity. No program. -/
import Derived.Test.YtfabgonoonanfaaEG2
namespace Go.Proofs.Ytfabgonoonanfaa
open Go.RowKit
/-! ### Orders, sorted lists -/
structure SW {α : Type} (lt : α → α → Bool) : Prop where
  asy : ∀ a b, lt a b = true → lt b a = false
  ntr : ∀ a b c, lt a b = false → lt b c = false → lt a c = false
section
variable {α : Type} {lt : α → α → Bool}
theorem SW.lt_le (h : SW lt) {a b c : α} (h1 : lt a b = true) (h2 : lt c b = false) : lt a c = true := by
  cases e : lt a c
  · exact absurd (h.ntr a c b e h2) (by rw [h1]; decide)
  · rfl
theorem SW.le_lt (h : SW lt) {a b c : α} (h1 : lt b a = false) (h2 : lt b c = true) : lt a c = true := by
  cases e : lt a c
  · exact absurd (h.ntr b a c h1 e) (by rw [h2]; decide)
  · rfl
theorem SW.trans (h : SW lt) {a b c : α} (h1 : lt a b = true) (h2 : lt b c = true) : lt a c = true := h.lt_le h1 (h.asy b c h2)
def Sd (lt : α → α → Bool) (l : List α) : Prop := l.Pairwise fun x y => lt y x = false
def ins (lt : α → α → Bool) (x : α) (S : List α) : List α := S.takeWhile (fun y => !lt x y) ++ x :: S.dropWhile (fun y => !lt x y)
def mrg (lt : α → α → Bool) (X Y : List α) : List α := Y.foldl (fun S y => ins lt y S) X
def srt (lt : α → α → Bool) (l : List α) : List α := mrg lt [] l
theorem ins_pre {x : α} {P Q : List α} (h : ∀ p ∈ P, lt x p = false) : ins lt x (P ++ Q) = P ++ ins lt x Q := by
  have hp : ∀ p ∈ P, (!lt x p) = true := fun p hp => by rw [h p hp]; rfl
  unfold ins
  rw [List.takeWhile_append_of_pos hp, List.dropWhile_append_of_pos hp, List.append_assoc]
theorem ins_head {x : α} {Q : List α} (h : ∀ q ∈ Q, lt x q = true) : ins lt x Q = x :: Q := by
  cases Q with
  | nil => rfl
  | cons q Q =>
    unfold ins
    rw [List.takeWhile_cons, List.dropWhile_cons, h q (by simp)]
    simp
theorem ins_at {x : α} {P Q : List α} (h : ∀ p ∈ P, lt x p = false) (k : ∀ q ∈ Q, lt x q = true) : ins lt x (P ++ Q) = P ++ x :: Q := by rw [ins_pre h, ins_head k]
theorem ins_end {x : α} {P : List α} (h : ∀ p ∈ P, lt x p = false) : ins lt x P = P ++ [x] := by
  have := ins_at (Q := []) h (by simp)
  rwa [List.append_nil] at this
theorem ins_suf {x : α} {Q : List α} (k : ∀ q ∈ Q, lt x q = true) : ∀ P : List α, ins lt x (P ++ Q) = ins lt x P ++ Q
  | [] => by rw [List.nil_append, ins_head k]; rfl
  | p :: P => by
    have ih := ins_suf k P
    unfold ins at ih ⊢
    rw [List.cons_append, List.takeWhile_cons, List.dropWhile_cons, List.takeWhile_cons, List.dropWhile_cons]
    cases lt x p
    · simp only [Bool.not_false, if_true, List.cons_append, ih]
    · simp
theorem Sd.split (h : SW lt) (x : α) {S : List α} (hS : Sd lt S) : ∃ A B, S = A ++ B ∧ (∀ a ∈ A, lt x a = false) ∧ (∀ b ∈ B, lt x b = true) ∧ ins lt x S = A ++ x :: B := by
  induction S with
  | nil => exact ⟨[], [], rfl, by simp, by simp, rfl⟩
  | cons y S ih =>
    have hS' := List.pairwise_cons.1 hS
    cases e : lt x y
    · obtain ⟨A, B, h1, h2, h3, h4⟩ := ih hS'.2
      have h2' : ∀ a ∈ y :: A, lt x a = false := fun a ha => by
        rcases List.mem_cons.1 ha with rfl | ha
        · exact e
        · exact h2 a ha
      exact ⟨y :: A, B, by rw [h1]; rfl, h2', h3, by rw [h1, ← List.cons_append, ins_at h2' h3]⟩
    · have k : ∀ b ∈ y :: S, lt x b = true := fun b hb => by
        rcases List.mem_cons.1 hb with rfl | hb
        · exact e
        · exact h.lt_le e (hS'.1 b hb)
      exact ⟨[], y :: S, rfl, by simp, k, by rw [ins_head k]; rfl⟩
theorem ins_perm (x : α) (S : List α) : (ins lt x S).Perm (x :: S) := by
  unfold ins
  refine List.perm_middle.trans ?_
  rw [List.takeWhile_append_dropWhile]
theorem ins_mem {x y : α} {S : List α} : y ∈ ins lt x S ↔ y = x ∨ y ∈ S := by rw [(ins_perm x S).mem_iff, List.mem_cons]
theorem Sd.ins (h : SW lt) (x : α) {S : List α} (hS : Sd lt S) : Sd lt (ins lt x S) := by
  obtain ⟨A, B, h1, h2, h3, h4⟩ := hS.split h x
  rw [h4]
  rw [h1] at hS
  have hS' := List.pairwise_append.1 hS
  refine List.pairwise_append.2 ⟨hS'.1, List.pairwise_cons.2 ⟨fun b hb => h.asy x b (h3 b hb), hS'.2.1⟩, fun a ha b hb => ?_⟩
  rcases List.mem_cons.1 hb with rfl | hb
  · exact h2 a ha
  · exact hS'.2.2 a ha b hb
theorem mrg_nil (X : List α) : mrg lt X [] = X := rfl
theorem mrg_app (X Y Z : List α) : mrg lt X (Y ++ Z) = mrg lt (mrg lt X Y) Z := List.foldl_append ..
theorem mrg_cons (X Y : List α) (y : α) : mrg lt X (y :: Y) = mrg lt (ins lt y X) Y := rfl
theorem mrg_one (X : List α) (y : α) : mrg lt X [y] = ins lt y X := rfl
theorem mrg_perm : ∀ (Y X : List α), (mrg lt X Y).Perm (X ++ Y)
  | [], X => by rw [List.append_nil]; exact .refl _
  | y :: Y, X => ((mrg_perm Y (ins lt y X)).trans ((ins_perm y X).append_right Y)).trans List.perm_middle.symm
theorem mrg_len (X Y : List α) : (mrg lt X Y).length = X.length + Y.length := by rw [(mrg_perm Y X).length_eq, List.length_append]
theorem srt_len (l : List α) : (srt lt l).length = l.length := by unfold srt; rw [mrg_len, List.length_nil, Nat.zero_add]
theorem srt_mem {l : List α} {x : α} : x ∈ srt lt l ↔ x ∈ l := by unfold srt; rw [(mrg_perm l []).mem_iff, List.nil_append]
theorem Sd.mrg (h : SW lt) : ∀ (Y : List α) {X : List α}, Sd lt X → Sd lt (mrg lt X Y)
  | [], _, hX => hX
  | y :: Y, _, hX => Sd.mrg h Y (hX.ins h y)
theorem Sd.srt (h : SW lt) (l : List α) : Sd lt (srt lt l) := Sd.mrg h l List.Pairwise.nil
theorem mrg_sorted : ∀ (Y X : List α), Sd lt (X ++ Y) → mrg lt X Y = X ++ Y
  | [], X, _ => by rw [List.append_nil]; rfl
  | y :: Y, X, h => by
    have h' := List.pairwise_append.1 h
    rw [mrg_cons, ins_end fun p hp => h'.2.2 p hp y (by simp), mrg_sorted Y (X ++ [y]) (by rw [List.append_assoc]; exact h), List.append_assoc]
    rfl
theorem mrg_suf : ∀ (Y X Q : List α), (∀ y ∈ Y, ∀ q ∈ Q, lt y q = true) → mrg lt (X ++ Q) Y = mrg lt X Y ++ Q
  | [], _, _, _ => rfl
  | y :: Y, X, Q, h => by
    rw [mrg_cons, mrg_cons, ins_suf (h y (by simp)), mrg_suf Y _ _ fun z hz => h z (List.mem_cons_of_mem _ hz)]
theorem mrg_pre : ∀ (Y P X : List α), (∀ y ∈ Y, ∀ p ∈ P, lt y p = false) → mrg lt (P ++ X) Y = P ++ mrg lt X Y
  | [], _, _, _ => rfl
  | y :: Y, P, X, h => by
    rw [mrg_cons, mrg_cons, ins_pre (h y (by simp)), mrg_pre Y _ _ fun z hz => h z (List.mem_cons_of_mem _ hz)]
/-- Where both are cut alike, each half is merged alone. -/
theorem mrg_split {X1 X2 Y1 Y2 : List α} (hY : Sd lt (Y1 ++ Y2)) (h1 : ∀ y ∈ Y2, ∀ x ∈ X1, lt y x = false) (h2 : ∀ y ∈ Y1, ∀ x ∈ X2, lt y x = true) : mrg lt (X1 ++ X2) (Y1 ++ Y2) = mrg lt X1 Y1 ++ mrg lt X2 Y2 := by
  rw [mrg_app, mrg_suf _ _ _ h2, mrg_pre]
  intro y hy p hp
  rcases List.mem_append.1 ((mrg_perm Y1 X1).mem_iff.1 hp) with hp | hp
  · exact h1 y hy p hp
  · exact (List.pairwise_append.1 hY).2.2 p hp y hy
theorem ins_comm (h : SW lt) {y t : α} (hyt : lt y t = true) {U : List α} (hU : Sd lt U) : ins lt t (ins lt y U) = ins lt y (ins lt t U) := by
  obtain ⟨A, B, h1, h2, h3, h4⟩ := hU.split h y
  have k1 : ∀ a ∈ A, lt t a = false := fun a ha => by
    cases e : lt t a
    · rfl
    · exact absurd (h.trans hyt e) (by rw [h2 a ha]; decide)
  have k2 : ∀ p ∈ A ++ [y], lt t p = false := fun p hp => by
    rcases List.mem_append.1 hp with hp | hp
    · exact k1 p hp
    · rw [List.mem_singleton.1 hp]; exact h.asy y t hyt
  rw [h4, h1, show A ++ y :: B = (A ++ [y]) ++ B by simp, ins_pre k2, ins_pre k1, ins_pre h2, ins_head (Q := ins lt t B)]
  · simp
  · intro q hq
    rcases ins_mem.1 hq with rfl | hq
    · exact hyt
    · exact h3 q hq
theorem mrg_late (h : SW lt) {y : α} : ∀ (T U : List α), (∀ t ∈ T, lt y t = true) → Sd lt U → mrg lt (ins lt y U) T = ins lt y (mrg lt U T)
  | [], _, _, _ => rfl
  | t :: T, U, ht, hU => by
    rw [mrg_cons, mrg_cons, ins_comm h (ht t (by simp)) hU, mrg_late h T _ (fun z hz => ht z (List.mem_cons_of_mem _ hz)) (hU.ins h t)]
theorem mrg_ins (h : SW lt) {S T : List α} (hS : Sd lt S) (hT : Sd lt T) (y : α) : mrg lt S (ins lt y T) = ins lt y (mrg lt S T) := by
  obtain ⟨A, B, h1, h2, h3, h4⟩ := hT.split h y
  rw [h4, h1, mrg_app, mrg_app, mrg_cons, mrg_late h B _ h3 (Sd.mrg h A hS)]
theorem srt_snoc (l : List α) (x : α) : srt lt (l ++ [x]) = ins lt x (srt lt l) := by unfold srt; rw [mrg_app, mrg_one]
theorem mrg_srt (h : SW lt) {S : List α} (hS : Sd lt S) (n : Nat) : ∀ Y : List α, Y.length = n → mrg lt S (srt lt Y) = mrg lt S Y := by
  induction n with
  | zero => intro Y hY; rw [List.length_eq_zero_iff.1 hY]; rfl
  | succ n ih =>
    intro Y hY
    have hne : Y ≠ [] := by rintro rfl; cases hY
    have e := (List.dropLast_concat_getLast hne).symm
    rw [e, srt_snoc, mrg_ins h hS (Sd.srt h _), ih _ (by rw [List.length_dropLast, hY]; rfl), mrg_app, mrg_one]
/-- Two sorted halves make the whole sorted. -/
theorem srt_app (h : SW lt) (X Y : List α) : mrg lt (srt lt X) (srt lt Y) = srt lt (X ++ Y) := by
  rw [mrg_srt h (Sd.srt h X) _ Y rfl]
  unfold srt
  rw [mrg_app]
end
/-! ### What is done in place -/
section
variable {α : Type} (z : α)
def swp (l : List α) (p q : Nat) : List α := (l.set p (l.getD q z)).set q (l.getD p z)
def swr (l : List α) (a b : Nat) : Nat → List α
  | 0 => l
  | i + 1 => swp z (swr l a b i) (a + i) (b + i)
def mvr (l : List α) (a : Nat) : Nat → List α
  | 0 => l
  | k + 1 => swp z (mvr l a k) (a + k) (a + k + 1)
def mvl (l : List α) (m : Nat) : Nat → List α
  | 0 => l
  | k + 1 => swp z (mvl l m k) (m - k) (m - k - 1)
def tgt (r : List α) (m i j : Nat) : List α := r.take (m - i) ++ ((r.drop m).take j ++ ((r.drop (m - i)).take i ++ r.drop (m + j)))
def sub (l : List α) (a b : Nat) : List α := (l.drop a).take (b - a)
theorem swp_len (l : List α) (p q : Nat) : (swp z l p q).length = l.length := by simp [swp]
theorem swr_len (l : List α) (a b : Nat) : ∀ i, (swr z l a b i).length = l.length
  | 0 => rfl
  | i + 1 => by rw [swr, swp_len, swr_len l a b i]
theorem mvr_len (l : List α) (a : Nat) : ∀ i, (mvr z l a i).length = l.length
  | 0 => rfl
  | i + 1 => by rw [mvr, swp_len, mvr_len l a i]
theorem mvl_len (l : List α) (a : Nat) : ∀ i, (mvl z l a i).length = l.length
  | 0 => rfl
  | i + 1 => by rw [mvl, swp_len, mvl_len l a i]
theorem getD_app (A B : List α) (n : Nat) : (A ++ B).getD (A.length + n) z = B.getD n z := by
  rw [List.getD_eq_getElem?_getD, List.getElem?_append_right (by omega), Nat.add_sub_cancel_left, List.getD_eq_getElem?_getD]
theorem set_app (A B : List α) (n : Nat) (x : α) : (A ++ B).set (A.length + n) x = A ++ B.set n x := by
  rw [List.set_append_right _ _ (by omega), Nat.add_sub_cancel_left]
theorem swp_app (A M Z : List α) (x y : α) {p q : Nat} (hp : p = A.length) (hq : q = A.length + (M.length + 1)) : swp z (A ++ x :: (M ++ y :: Z)) p q = A ++ y :: (M ++ x :: Z) := by
  subst hp hq
  unfold swp
  have e1 : (A ++ x :: (M ++ y :: Z)).getD A.length z = x := by simp
  have e2 : (A ++ x :: (M ++ y :: Z)).getD (A.length + (M.length + 1)) z = y := by
    rw [getD_app, List.getD_cons_succ]
    simp
  rw [e1, e2]
  have e3 : (A ++ x :: (M ++ y :: Z)).set A.length y = A ++ y :: (M ++ y :: Z) := by simp
  rw [e3, set_app, List.set_cons_succ]
  have e4 : (M ++ y :: Z).set M.length x = M ++ x :: Z := by simp
  rw [e4]
theorem swp_appL (A Z : List α) (x y : α) {p q : Nat} (hp : p = A.length + 1) (hq : q = A.length) : swp z (A ++ x :: y :: Z) p q = A ++ y :: x :: Z := by
  subst hp hq
  unfold swp
  have e1 : (A ++ x :: y :: Z).getD A.length z = x := by simp
  have e2 : (A ++ x :: y :: Z).getD (A.length + 1) z = y := by rw [getD_app]; rfl
  rw [e1, e2, set_app, List.set_cons_succ, List.set_cons_zero]
  simp
theorem snocZ {l : List α} {n : Nat} (h : l.length = n + 1) : ∃ m x, l = m ++ [x] ∧ m.length = n := by
  have hne : l ≠ [] := by rintro rfl; cases h
  exact ⟨_, _, (List.dropLast_concat_getLast hne).symm, by rw [List.length_dropLast, h]; rfl⟩
theorem swr_app : ∀ (n : Nat) (A X M Y Z : List α) (a b : Nat), X.length = n → Y.length = n → a = A.length → b = A.length + (n + M.length) → swr z (A ++ (X ++ (M ++ (Y ++ Z)))) a b n = A ++ (Y ++ (M ++ (X ++ Z)))
  | 0, A, X, M, Y, Z, a, b, hX, hY, ha, hb => by rw [List.length_eq_zero_iff.1 hX, List.length_eq_zero_iff.1 hY]; rfl
  | n + 1, A, X, M, Y, Z, a, b, hX, hY, ha, hb => by
    obtain ⟨X', x, rfl, hX'⟩ := snocZ hX
    obtain ⟨Y', y, rfl, hY'⟩ := snocZ hY
    have e : A ++ ((X' ++ [x]) ++ (M ++ ((Y' ++ [y]) ++ Z))) = A ++ (X' ++ ((x :: M) ++ (Y' ++ (y :: Z)))) := by simp
    rw [e, swr, swr_app n A X' (x :: M) Y' (y :: Z) a b hX' hY' ha (by rw [List.length_cons]; omega)]
    have e2 : A ++ (Y' ++ ((x :: M) ++ (X' ++ (y :: Z)))) = (A ++ Y') ++ x :: ((M ++ X') ++ y :: Z) := by simp
    rw [e2, swp_app z (A ++ Y') (M ++ X') Z x y (by rw [List.length_append]; omega) (by simp only [List.length_append]; omega)]
    simp
theorem mvr_app : ∀ (n : Nat) (A Y Z : List α) (x : α) (a : Nat), Y.length = n → a = A.length → mvr z (A ++ x :: (Y ++ Z)) a n = A ++ (Y ++ x :: Z)
  | 0, A, Y, Z, x, a, hY, ha => by rw [List.length_eq_zero_iff.1 hY]; rfl
  | n + 1, A, Y, Z, x, a, hY, ha => by
    obtain ⟨Y', y, rfl, hY'⟩ := snocZ hY
    have e : A ++ x :: ((Y' ++ [y]) ++ Z) = A ++ x :: (Y' ++ (y :: Z)) := by simp
    rw [e, mvr, mvr_app n A Y' (y :: Z) x a hY' ha]
    have e2 : A ++ (Y' ++ x :: (y :: Z)) = (A ++ Y') ++ x :: ([] ++ y :: Z) := by simp
    rw [e2, swp_app z (A ++ Y') [] Z x y (by rw [List.length_append]; omega) (by simp only [List.length_append, List.length_nil]; omega)]
    simp
theorem mvl_app : ∀ (n : Nat) (A X Z : List α) (y : α) (m : Nat), X.length = n → m = A.length + n → mvl z (A ++ (X ++ y :: Z)) m n = A ++ y :: (X ++ Z)
  | 0, A, X, Z, y, m, hX, hm => by rw [List.length_eq_zero_iff.1 hX]; rfl
  | n + 1, A, X, Z, y, m, hX, hm => by
    cases X with
    | nil => cases hX
    | cons x X =>
      have hX' : X.length = n := by simpa using hX
      have e : A ++ ((x :: X) ++ y :: Z) = (A ++ [x]) ++ (X ++ y :: Z) := by simp
      rw [e, mvl, mvl_app n (A ++ [x]) X Z y m hX' (by rw [List.length_append, List.length_singleton]; omega)]
      have e2 : (A ++ [x]) ++ y :: (X ++ Z) = A ++ x :: y :: (X ++ Z) := by simp
      rw [e2, swp_appL z A (X ++ Z) x y (by omega) (by omega)]
      simp
theorem tgt_app (A U V Z : List α) {m i j : Nat} (hm : m = A.length + U.length) (hi : i = U.length) (hj : j = V.length) : tgt (A ++ (U ++ (V ++ Z))) m i j = A ++ (V ++ (U ++ Z)) := by
  subst hm hi hj
  unfold tgt
  have e1 : A.length + U.length - U.length = A.length := by omega
  have e2 : (A ++ (U ++ (V ++ Z))).take A.length = A := List.take_left
  have e3 : (A ++ (U ++ (V ++ Z))).drop A.length = U ++ (V ++ Z) := List.drop_left
  have e4 : (A ++ (U ++ (V ++ Z))).drop (A.length + U.length) = V ++ Z := by rw [← List.append_assoc, ← List.length_append, List.drop_left]
  have e5 : (A ++ (U ++ (V ++ Z))).drop (A.length + U.length + V.length) = Z := by rw [← List.append_assoc, ← List.append_assoc, ← List.length_append, ← List.length_append, List.drop_left]
  rw [e1, e2, e3, e4, e5, List.take_left, List.take_left]
theorem sub_app (A X Z : List α) {a b : Nat} (ha : a = A.length) (hb : b = A.length + X.length) : sub (A ++ (X ++ Z)) a b = X := by
  subst ha hb
  unfold sub
  rw [List.drop_left, Nat.add_sub_cancel_left, List.take_left]
theorem cut_at (l : List α) (n : Nat) (h : n ≤ l.length) : ∃ A B, l = A ++ B ∧ A.length = n := ⟨l.take n, l.drop n, (List.take_append_drop n l).symm, by rw [List.length_take]; omega⟩
theorem tgt_gt {r : List α} {m i j : Nat} (h : j < i) (hi : i ≤ m) (hm : m + j ≤ r.length) : tgt (swr z r (m - i) m j) m (i - j) j = tgt r m i j := by
  obtain ⟨A, r1, rfl, hA⟩ := cut_at r (m - i) (by omega)
  rw [List.length_append] at hm
  obtain ⟨U1, r2, rfl, hU1⟩ := cut_at r1 j (by omega)
  rw [List.length_append] at hm
  obtain ⟨U2, r3, rfl, hU2⟩ := cut_at r2 (i - j) (by omega)
  rw [List.length_append] at hm
  obtain ⟨V, Z, rfl, hV⟩ := cut_at r3 j (by omega)
  rw [swr_app z j A U1 U2 V Z _ _ hU1 hV hA.symm (by omega)]
  have e1 : A ++ (V ++ (U2 ++ (U1 ++ Z))) = (A ++ V) ++ (U2 ++ (U1 ++ Z)) := by simp
  have e2 : A ++ (U1 ++ (U2 ++ (V ++ Z))) = A ++ ((U1 ++ U2) ++ (V ++ Z)) := by simp
  rw [e1, tgt_app (A ++ V) U2 U1 Z (by rw [List.length_append]; omega) (by omega) (by omega), e2, tgt_app A (U1 ++ U2) V Z (by rw [List.length_append]; omega) (by rw [List.length_append]; omega) (by omega)]
  simp
theorem tgt_lt {r : List α} {m i j : Nat} (h : i < j) (hi : i ≤ m) (hm : m + j ≤ r.length) : tgt (swr z r (m - i) (m + j - i) i) m i (j - i) = tgt r m i j := by
  obtain ⟨A, r1, rfl, hA⟩ := cut_at r (m - i) (by omega)
  rw [List.length_append] at hm
  obtain ⟨U, r2, rfl, hU⟩ := cut_at r1 i (by omega)
  rw [List.length_append] at hm
  obtain ⟨V1, r3, rfl, hV1⟩ := cut_at r2 (j - i) (by omega)
  rw [List.length_append] at hm
  obtain ⟨V2, Z, rfl, hV2⟩ := cut_at r3 i (by omega)
  rw [swr_app z i A U V1 V2 Z _ _ hU hV2 hA.symm (by omega)]
  have e2 : A ++ (U ++ (V1 ++ (V2 ++ Z))) = A ++ (U ++ ((V1 ++ V2) ++ Z)) := by simp
  rw [tgt_app A V2 V1 (U ++ Z) (by omega) (by omega) (by omega), e2, tgt_app A U (V1 ++ V2) Z (by omega) (by omega) (by rw [List.length_append]; omega)]
  simp
theorem tgt_eq {r : List α} {m i : Nat} (hi : i ≤ m) (hm : m + i ≤ r.length) : swr z r (m - i) m i = tgt r m i i := by
  obtain ⟨A, r1, rfl, hA⟩ := cut_at r (m - i) (by omega)
  rw [List.length_append] at hm
  obtain ⟨U, r2, rfl, hU⟩ := cut_at r1 i (by omega)
  rw [List.length_append] at hm
  obtain ⟨V, Z, rfl, hV⟩ := cut_at r2 i (by omega)
  have e : A ++ (U ++ (V ++ Z)) = A ++ (U ++ ([] ++ (V ++ Z))) := by simp
  rw [tgt_app A U V Z (by omega) (by omega) (by omega), e, swr_app z i A U [] V Z _ _ hU hV hA.symm (by rw [List.length_nil]; omega)]
  simp
theorem tgt_len {r : List α} {m i j : Nat} (hi : i ≤ m) (hm : m + j ≤ r.length) : (tgt r m i j).length = r.length := by
  unfold tgt
  simp only [List.length_append, List.length_take, List.length_drop]
  omega
end
end Go.Proofs.Ytfabgonoonanfaa
