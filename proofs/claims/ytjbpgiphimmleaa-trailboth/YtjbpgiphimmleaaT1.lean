/- Trails as lists of numbers: rounds taken out, steps, places, how many differ. -/
import Derived.Test.YtjbpgiphimmleaaLaw
namespace Go.Proofs.Ytjbpgiphimmleaa
open Go.RowKit

/-- What is behind the last x of some; all of them, where there is none. -/
def aft (x : Int) : List Int → List Int
  | [] => []
  | y :: r => if x ∈ r then aft x r else if x = y then r else y :: r
theorem aft_len (x : Int) : ∀ r : List Int, (aft x r).length ≤ r.length
  | [] => Nat.le_refl _
  | y :: r => by
    have := aft_len x r
    unfold aft
    split
    · simp only [List.length_cons]; omega
    · split <;> simp
theorem aft_suf (x : Int) : ∀ r : List Int, aft x r <:+ r
  | [] => List.suffix_refl _
  | y :: r => by
    unfold aft
    split
    · exact (aft_suf x r).trans (List.suffix_cons y r)
    · split
      · exact List.suffix_cons y r
      · exact List.suffix_refl _
theorem aft_not (x : Int) : ∀ r : List Int, x ∉ aft x r
  | [] => by simp [aft]
  | y :: r => by
    unfold aft
    split
    · exact aft_not x r
    · rename_i h
      split
      · exact h
      · rename_i h2
        simp [h, h2]
theorem aft_id {x : Int} {r : List Int} (h : x ∉ r) : aft x r = r := by
  cases r with
  | nil => rfl
  | cons y r =>
    simp only [List.mem_cons, not_or] at h
    unfold aft
    rw [if_neg h.2, if_neg h.1]
theorem aft_app {x : Int} {s : List Int} (h : x ∉ s) : ∀ a : List Int, aft x (a ++ x :: s) = s
  | [] => by
    show aft x (x :: s) = s
    unfold aft
    rw [if_neg h, if_pos rfl]
  | y :: a => by
    show aft x (y :: (a ++ x :: s)) = s
    unfold aft
    rw [if_pos (by simp)]
    exact aft_app h a
theorem aft_last (x : Int) : ∀ r : List Int, (x :: aft x r).getLast? = (x :: r).getLast?
  | [] => rfl
  | y :: r => by
    unfold aft
    split
    · rename_i h
      rw [aft_last x r]
      cases r with
      | nil => cases h
      | cons z r => simp [List.getLast?_cons_cons]
    · split
      · rename_i h
        subst h
        rw [List.getLast?_cons_cons]
      · rfl
/-- Without rounds; so many places at most. -/
def erzF : Nat → List Int → List Int
  | 0, _ => []
  | _ + 1, [] => []
  | n + 1, x :: r => x :: erzF n (aft x r)
def erz (l : List Int) : List Int := erzF l.length l
theorem erzF_eq : ∀ (n m : Nat) (l : List Int), l.length ≤ n → l.length ≤ m → erzF n l = erzF m l
  | 0, 0, _, _, _ => rfl
  | 0, m + 1, l, h, _ => by
    have : l = [] := List.eq_nil_of_length_eq_zero (by omega)
    subst this
    rfl
  | n + 1, 0, l, _, h => by
    have : l = [] := List.eq_nil_of_length_eq_zero (by omega)
    subst this
    rfl
  | n + 1, m + 1, [], _, _ => rfl
  | n + 1, m + 1, x :: r, h1, h2 => by
    have := aft_len x r
    simp only [List.length_cons] at h1 h2
    simp only [erzF]
    rw [erzF_eq n m (aft x r) (by omega) (by omega)]
theorem erz_nil : erz [] = [] := rfl
theorem erz_cons (x : Int) (r : List Int) : erz (x :: r) = x :: erz (aft x r) := by
  have := aft_len x r
  unfold erz
  simp only [List.length_cons, erzF]
  rw [erzF_eq r.length (aft x r).length _ this (Nat.le_refl _)]
theorem erz_ind {p : List Int → Prop} (h0 : p []) (h1 : ∀ x r, p (aft x r) → p (x :: r)) : ∀ l, p l := by
  have : ∀ (n : Nat) (l : List Int), l.length ≤ n → p l := by
    intro n
    induction n with
    | zero => intro l hl; rw [List.eq_nil_of_length_eq_zero (by omega : l.length = 0)]; exact h0
    | succ n ih =>
      intro l hl
      cases l with
      | nil => exact h0
      | cons x r =>
        have := aft_len x r
        simp only [List.length_cons] at hl
        exact h1 x r (ih _ (by omega))
  exact fun l => this l.length l (Nat.le_refl _)
theorem erz_mem {y : Int} : ∀ l : List Int, y ∈ erz l → y ∈ l := by
  refine erz_ind (fun h => h) fun x r ih h => ?_
  rw [erz_cons, List.mem_cons] at h
  rcases h with rfl | h
  · simp
  · exact List.mem_cons_of_mem _ ((aft_suf x r).subset (ih h))
theorem erz_nodup : ∀ l : List Int, (erz l).Nodup := by
  refine erz_ind List.nodup_nil fun x r ih => ?_
  rw [erz_cons]
  exact List.nodup_cons.2 ⟨fun h => aft_not x r (erz_mem _ h), ih⟩
theorem erz_id : ∀ l : List Int, l.Nodup → erz l = l
  | [], _ => rfl
  | x :: r, h => by
    obtain ⟨h1, h2⟩ := List.nodup_cons.1 h
    rw [erz_cons, aft_id h1, erz_id r h2]
theorem erz_twice (l : List Int) : erz (erz l) = erz l := erz_id _ (erz_nodup l)
theorem erz_len : ∀ l : List Int, (erz l).length ≤ l.length := by
  refine erz_ind (Nat.le_refl _) fun x r ih => ?_
  have := aft_len x r
  rw [erz_cons]
  simp only [List.length_cons]
  omega
theorem erz_pos {l : List Int} (h : 0 < l.length) : 0 < (erz l).length := by
  cases l with
  | nil => cases h
  | cons x r => rw [erz_cons]; simp
theorem erz_head (l : List Int) : (erz l).getD 0 0 = l.getD 0 0 := by
  cases l with
  | nil => rfl
  | cons x r => rw [erz_cons]; rfl
theorem erz_last : ∀ l : List Int, (erz l).getLast? = l.getLast? := by
  refine erz_ind rfl fun x r ih => ?_
  rw [erz_cons, (aft_last x r).symm]
  cases hs : aft x r with
  | nil => rfl
  | cons y s =>
    rw [hs] at ih
    rw [List.getLast?_cons_cons, ← ih]
    rw [erz_cons, List.getLast?_cons_cons]
theorem lastD_eq (l : List Int) : l.getD (l.length - 1) 0 = (l.getLast?).getD 0 := by
  rw [List.getLast?_eq_getElem?, List.getD_eq_getElem?_getD]
theorem erz_lastD (l : List Int) : (erz l).getD ((erz l).length - 1) 0 = l.getD (l.length - 1) 0 := by
  rw [lastD_eq, lastD_eq, erz_last]
/-- The steps of a trail. -/
def stp (l : List Int) : List (Int × Int) := l.zip l.tail
theorem stp_cc (x y : Int) (r : List Int) : stp (x :: y :: r) = (x, y) :: stp (y :: r) := rfl
theorem stp_len (l : List Int) : (stp l).length = l.length - 1 := by
  simp only [stp, List.length_zip, List.length_tail]
  omega
theorem stp_get {l : List Int} {k : Nat} (h : k + 1 < l.length) : (stp l).getD k (0, 0) = (l.getD k 0, l.getD (k + 1) 0) := by
  have h1 : k < l.length := by omega
  have h2 : (stp l)[k]? = some (l[k], l[k + 1]) := List.getElem?_zip_eq_some.2 ⟨List.getElem?_eq_getElem h1, by rw [List.getElem?_tail]; exact List.getElem?_eq_getElem h⟩
  rw [List.getD_eq_getElem?_getD, h2, List.getD_eq_getElem?_getD, List.getD_eq_getElem?_getD, List.getElem?_eq_getElem h, List.getElem?_eq_getElem h1]
  rfl
theorem stp_mem {l : List Int} {p : Int × Int} : p ∈ stp l ↔ ∃ k, k + 1 < l.length ∧ p = (l.getD k 0, l.getD (k + 1) 0) := by
  constructor
  · intro h
    obtain ⟨k, hk, rfl⟩ := List.mem_iff_getElem.1 h
    have hk' : k + 1 < l.length := by rw [stp_len] at hk; omega
    refine ⟨k, hk', ?_⟩
    rw [← stp_get hk', List.getD_eq_getElem?_getD, List.getElem?_eq_getElem hk]
    rfl
  · rintro ⟨k, hk, rfl⟩
    have hk' : k < (stp l).length := by rw [stp_len]; omega
    rw [← stp_get hk, List.getD_eq_getElem?_getD, List.getElem?_eq_getElem hk']
    exact List.getElem_mem hk'
theorem stp_cons {x : Int} {l : List Int} {p : Int × Int} (h : p ∈ stp l) : p ∈ stp (x :: l) := by
  cases l with
  | nil => cases h
  | cons y r => rw [stp_cc]; exact List.mem_cons_of_mem _ h
theorem stp_suf {s : List Int} {p : Int × Int} (hp : p ∈ stp s) : ∀ l : List Int, s <:+ l → p ∈ stp l
  | [], h => by
    have := List.suffix_nil.1 h
    subst this
    exact hp
  | x :: l, h => by
    rcases List.suffix_cons_iff.1 h with rfl | h
    · exact hp
    · exact stp_cons (stp_suf hp l h)
theorem aft_step {x y : Int} {s : List Int} : ∀ r : List Int, aft x r = y :: s → (x, y) ∈ stp (x :: r)
  | [], h => by cases h
  | z :: r, h => by
    unfold aft at h
    split at h
    · rename_i hx
      have := aft_step r h
      rw [stp_cc]
      refine List.mem_cons_of_mem _ ?_
      cases r with
      | nil => cases hx
      | cons u r =>
        rw [stp_cc, List.mem_cons] at this
        rcases this with e | this
        · have e1 : u = y := by cases e; rfl
          subst e1
          by_cases hxu : x = z
          · subst hxu
            rw [stp_cc]
            exact List.mem_cons_self
          · have hxs : x ∈ u :: r := hx
            have h3 : (x, u) ∈ stp (u :: r) := by
              have key : ∀ (v : Int) (q : List Int), x ∈ v :: q → aft x (v :: q) = u :: s → (x, u) ∈ stp (v :: q) := by
                intro v q
                induction q generalizing v with
                | nil =>
                  intro h1 h2
                  simp only [List.mem_singleton] at h1
                  subst h1
                  simp [aft] at h2
                | cons v2 q ih =>
                  intro h1 h2
                  unfold aft at h2
                  split at h2
                  · rename_i h4
                    exact stp_cons (ih v2 h4 h2)
                  · rename_i h4
                    rcases List.mem_cons.1 h1 with h5 | h5
                    · subst h5
                      rw [if_pos rfl] at h2
                      cases h2
                      rw [stp_cc]
                      exact List.mem_cons_self
                    · exact absurd h5 h4
              exact key u r hxs h
            exact stp_cons h3
        · exact stp_cons this
    · split at h
      · rename_i hx
        subst hx h
        rw [stp_cc, stp_cc]
        exact List.mem_cons_of_mem _ List.mem_cons_self
      · cases h
        rw [stp_cc]
        exact List.mem_cons_self
theorem erz_stp {p : Int × Int} : ∀ l : List Int, p ∈ stp (erz l) → p ∈ stp l := by
  refine erz_ind (fun h => h) fun x r ih h => ?_
  rw [erz_cons] at h
  cases hs : aft x r with
  | nil => rw [hs] at h; cases h
  | cons y s =>
    rw [hs, erz_cons, stp_cc, List.mem_cons] at h
    rcases h with rfl | h
    · exact aft_step r hs
    · rw [← erz_cons, ← hs] at h
      exact stp_suf (ih h) _ ((aft_suf x r).trans (List.suffix_cons x r))
theorem drop_cons {l : List Int} {i : Nat} (hi : i < l.length) : l.drop i = l.getD i 0 :: l.drop (i + 1) := by
  rw [List.drop_eq_getElem_cons hi]
  simp [List.getD_eq_getElem?_getD, hi]
/-- From a place on, by where that place stands last. -/
theorem erz_at {l : List Int} {i k : Nat} (hik : i ≤ k) (hk : k < l.length) (he : l.getD k 0 = l.getD i 0) (hn : ∀ m, k < m → m < l.length → l.getD m 0 ≠ l.getD i 0) : erz (l.drop i) = l.getD i 0 :: erz (l.drop (k + 1)) := by
  have hnot : l.getD i 0 ∉ l.drop (k + 1) := fun h => by
    obtain ⟨m, hm, e⟩ := List.mem_iff_getElem.1 h
    rw [List.length_drop] at hm
    rw [List.getElem_drop] at e
    refine hn (k + 1 + m) (by omega) (by omega) ?_
    rw [← e]
    simp [List.getD_eq_getElem?_getD, show k + 1 + m < l.length by omega]
  rw [drop_cons (show i < l.length by omega), erz_cons]
  congr 2
  by_cases h : i = k
  · subst h
    exact aft_id hnot
  · have e1 : l.drop (i + 1) = (l.drop (i + 1)).take (k - (i + 1)) ++ l.getD i 0 :: l.drop (k + 1) := by
      rw [← he, ← drop_cons hk]
      have := (List.take_append_drop (k - (i + 1)) (l.drop (i + 1))).symm
      rw [List.drop_drop, show i + 1 + (k - (i + 1)) = k by omega] at this
      exact this
    rw [e1]
    exact aft_app hnot _
/-- Where a place stands last among the first k; nought, if nowhere. -/
def lstF (l : List Int) : Nat → Int → Int
  | 0, _ => 0
  | k + 1, x => if x = l.getD k 0 then (k : Int) else lstF l k x
theorem lstF_at {l : List Int} {x : Int} : ∀ (k i : Nat), i < k → l.getD i 0 = x → ∃ j : Nat, lstF l k x = (j : Int) ∧ i ≤ j ∧ j < k ∧ l.getD j 0 = x ∧ ∀ m, j < m → m < k → l.getD m 0 ≠ x
  | 0, _, h, _ => by omega
  | k + 1, i, h, e => by
    unfold lstF
    by_cases hx : x = l.getD k 0
    · rw [if_pos hx]
      exact ⟨k, rfl, by omega, by omega, hx.symm, fun m h1 h2 => by omega⟩
    · rw [if_neg hx]
      have hik : i ≠ k := fun h => hx (by rw [← e, h])
      obtain ⟨j, h1, h2, h3, h4, h5⟩ := lstF_at k i (by omega) e
      refine ⟨j, h1, h2, by omega, h4, fun m hm1 hm2 => ?_⟩
      by_cases hmk : m = k
      · subst hmk
        exact fun e => hx e.symm
      · exact h5 m hm1 (by omega)
theorem lstF_bd (l : List Int) (x : Int) : ∀ k : Nat, 0 ≤ lstF l k x ∧ lstF l k x ≤ k
  | 0 => by simp [lstF]
  | k + 1 => by
    have := lstF_bd l x k
    unfold lstF
    split <;> omega
/-- How many differ. -/
def dcn {α : Type} [DecidableEq α] : List α → Nat
  | [] => 0
  | x :: r => if x ∈ r then dcn r else dcn r + 1
theorem dcn_le {α : Type} [DecidableEq α] : ∀ l : List α, dcn l ≤ l.length
  | [] => Nat.le_refl _
  | x :: r => by
    have := dcn_le r
    unfold dcn
    split <;> simp only [List.length_cons] <;> omega
theorem dcn_nodup {α : Type} [DecidableEq α] : ∀ l : List α, dcn l = l.length ↔ l.Nodup
  | [] => by simp [dcn]
  | x :: r => by
    have h1 := dcn_le r
    have h2 := dcn_nodup r
    unfold dcn
    rw [List.nodup_cons, List.length_cons]
    split
    · rename_i h
      constructor
      · intro h; omega
      · intro h3; exact absurd h h3.1
    · rename_i h
      constructor
      · intro h3; exact ⟨h, h2.1 (by omega)⟩
      · intro h3; have := h2.2 h3.2; omega
theorem dcn_simple (l : List Int) : decide (((dcn l.reverse : Nat) : Int) = ((l.length : Nat) : Int)) = decide l.Nodup := by
  apply decide_eq_decide.2
  have h := dcn_nodup l.reverse
  rw [List.length_reverse, (List.reverse_perm l).nodup_iff] at h
  rw [← h]
  omega
theorem take_rev {l : List Int} {k : Nat} (h : k < l.length) : (l.take (k + 1)).reverse = l.getD k 0 :: (l.take k).reverse := by
  rw [List.take_add_one, List.getElem?_eq_getElem h]
  simp [List.getD_eq_getElem?_getD, h]
/-- Where a place stands first; -1. -/
def plc (l : List Int) (x : Int) : Int := if x ∈ l then ((l.idxOf x : Nat) : Int) else -1
theorem getD_memZ {l : List Int} {j : Nat} (hj : j < l.length) : l.getD j 0 ∈ l := by
  have : l.getD j 0 = l[j] := by simp [List.getD_eq_getElem?_getD, hj]
  rw [this]
  exact List.getElem_mem hj
theorem plc_at {l : List Int} {x : Int} {j : Nat} (hj : j < l.length) (he : l.getD j 0 = x) (hn : ∀ i, i < j → l.getD i 0 ≠ x) : plc l x = (j : Int) := by
  have hm : x ∈ l := he ▸ getD_memZ hj
  have h1 := List.idxOf_lt_length_of_mem hm
  have h2 : l[l.idxOf x] = x := List.getElem_idxOf h1
  have h3 : l.getD (l.idxOf x) 0 = x := by
    rw [List.getD_eq_getElem?_getD, List.getElem?_eq_getElem h1]
    exact h2
  have h4 : ¬ l.idxOf x < j := fun h => hn _ h h3
  have h5 : ¬ j < l.idxOf x := fun h => by
    have h6 := List.not_of_lt_findIdx h
    have h7 : l[j] = x := by
      rw [← he]
      simp [List.getD_eq_getElem?_getD, hj]
    rw [h7] at h6
    simp at h6
  unfold plc
  rw [if_pos hm]
  omega
theorem plc_none {l : List Int} {x : Int} (h : ∀ i, i < l.length → l.getD i 0 ≠ x) : plc l x = -1 := by
  unfold plc
  rw [if_neg]
  intro hm
  obtain ⟨i, hi, rfl⟩ := List.mem_iff_getElem.1 hm
  exact h i hi (by simp [List.getD_eq_getElem?_getD, hi])
theorem plc_bd (l : List Int) (x : Int) : -1 ≤ plc l x ∧ plc l x ≤ l.length := by
  unfold plc
  split
  · have := List.idxOf_le_length (a := x) (l := l)
    omega
  · omega
theorem nodup_plc {l : List Int} (h : ∀ i, i < l.length → plc l (l.getD i 0) = (i : Int)) : l.Nodup := by
  rw [List.nodup_iff_pairwise_ne, List.pairwise_iff_getElem]
  intro i j hi hj hij e
  have h1 := h i hi
  have h2 := h j hj
  have e1 : l.getD i 0 = l.getD j 0 := by simpa [List.getD_eq_getElem?_getD, hi, hj] using e
  rw [e1, h2] at h1
  omega
theorem plc_nodup {l : List Int} (h : l.Nodup) {i : Nat} (hi : i < l.length) : plc l (l.getD i 0) = (i : Int) := by
  refine plc_at hi rfl fun j hj e => ?_
  rw [List.nodup_iff_pairwise_ne, List.pairwise_iff_getElem] at h
  have hj' : j < l.length := by omega
  refine h j i hj' hi hj ?_
  simpa [List.getD_eq_getElem?_getD, hi, hj'] using e
/-- Is each step one of the other's? -/
def jn (t s : List Int) : Bool := decide (∀ p ∈ stp t, p ∈ stp s)
theorem jn_erz (l : List Int) : jn (erz l) l = true := decide_eq_true fun _ hp => erz_stp l hp
theorem jn_of {t s : List Int} (h : ∀ i, i + 1 < t.length → (t.getD i 0, t.getD (i + 1) 0) ∈ stp s) : jn t s = true := decide_eq_true fun p hp => by
  obtain ⟨k, hk, rfl⟩ := stp_mem.1 hp
  exact h k hk
theorem jn_no {t s : List Int} {i : Nat} (hi : i + 1 < t.length) (h : (t.getD i 0, t.getD (i + 1) 0) ∉ stp s) : jn t s = false := decide_eq_false fun h2 => h (h2 _ (stp_mem.2 ⟨i, hi, rfl⟩))
/-- A trail of two. -/
def both (a b : List Int) : List Int := a ++ b.drop 1
theorem both_last {a b : List Int} (hb : 0 < b.length) (h : a.getD (a.length - 1) 0 = b.getD 0 0) : (both a b).getD ((both a b).length - 1) 0 = b.getD (b.length - 1) 0 := by
  cases b with
  | nil => cases hb
  | cons x r =>
    unfold both
    cases r with
    | nil => simpa using h
    | cons y r =>
      rw [lastD_eq, lastD_eq]
      simp only [List.drop_succ_cons, List.drop_zero, List.getLast?_append, List.getLast?_cons_cons]
      rw [List.getLast?_cons]
      rfl
theorem both_head {a b : List Int} (ha : 0 < a.length) : (both a b).getD 0 0 = a.getD 0 0 := by
  cases a with
  | nil => cases ha
  | cons x r => rfl
theorem rev_head (l : List Int) : l.reverse.getD 0 0 = l.getD (l.length - 1) 0 := by
  rw [lastD_eq, List.getD_eq_getElem?_getD, ← List.head?_eq_getElem?, List.head?_reverse]
theorem back_step {l : List Int} {i : Nat} (hi : i < l.length) : (List.replicate (l.length - i) 0 ++ (l.take i).reverse).set (l.length - 1 - i) (l.getD i 0) = List.replicate (l.length - (i + 1)) 0 ++ (l.take (i + 1)).reverse := by
  rw [take_rev hi, show l.length - i = (l.length - (i + 1)) + 1 by omega, show l.length - 1 - i = l.length - (i + 1) by omega, List.replicate_succ', List.append_assoc, List.set_append_right _ _ (by simp)]
  simp
theorem eq_of_getDZ {l m : List Int} (h : l.length = m.length) (ha : ∀ i, i < l.length → l.getD i 0 = m.getD i 0) : l = m := by
  apply List.ext_getElem h
  intro i h1 h2
  have := ha i h1
  simpa [List.getD_eq_getElem?_getD, h1, h2] using this
theorem upto_succ {p : Nat → Prop} {j : Nat} (h : ∀ i, i < j → p i) (hj : p j) : ∀ i, i < j + 1 → p i := fun i hi => by
  by_cases e : i = j
  · exact e ▸ hj
  · exact h i (by omega)
theorem rev_drop {l : List Int} {m : Nat} (h : m < l.length) : (l.drop (m + 1)).reverse ++ [l.getD m 0] = (l.drop m).reverse := by
  rw [drop_cons h, List.reverse_cons]
end Go.Proofs.Ytjbpgiphimmleaa
