/- Lists of identities as numbers: rising by a key, who is wanted of whom, who is next. No program. -/
import Derived.Test.YtfabgonoonanfaaEBase
import Derived.Test.YtfabgonoonanfaaEW6
import Derived.Test.YtfabgonoonanfaaELaw2
namespace Go.Proofs.Ytfabgonoonanfaa
open Go.RowKit
/-- Rising by a key, no two alike. -/
def Risi (k : Nat → Nat) (l : List Nat) : Prop := l.Pairwise fun x y => k x < k y
def Inj (k : Nat → Nat) : Prop := ∀ x y, x < top → y < top → k x = k y → x = y
def All (l : List Nat) : Prop := ∀ x ∈ l, x < top
theorem Risi.nodup {k : Nat → Nat} {l : List Nat} (h : Risi k l) : l.Nodup := by
  rw [List.nodup_iff_pairwise_ne]
  exact List.Pairwise.imp (fun h e => by subst e; exact Nat.lt_irrefl _ h) h
theorem Risi.uniq {k : Nat → Nat} {a b : List Nat} (ha : Risi k a) (hb : Risi k b) (h : ∀ x, x ∈ a ↔ x ∈ b) : a = b :=
  List.Perm.eq_of_pairwise (le := fun x y => k x < k y) (fun _ _ _ _ h1 h2 => absurd h1 (Nat.lt_asymm h2)) ha hb ((List.perm_ext_iff_of_nodup ha.nodup hb.nodup).2 h)
theorem Risi.perm {k k' : Nat → Nat} {a b : List Nat} (ha : Risi k a) (hb : Risi k' b) (h : ∀ x, x ∈ a ↔ x ∈ b) : a.Perm b := (List.perm_ext_iff_of_nodup ha.nodup hb.nodup).2 h
/-- An identity is put at its place. -/
def insK (k : Nat → Nat) (x : Nat) (out : List Nat) : List Nat := out.takeWhile (fun y => decide (k y < k x)) ++ x :: out.dropWhile (fun y => decide (k y < k x))
def linS (k : Nat → Nat) (wo : Nat) (out : List Nat) (x : Nat) : List Nat := if x = wo ∨ x ∈ out then out else insK k x out
/-- Identities by a key, each once, without one. -/
def lin (k : Nat → Nat) (wo : Nat) (l : List Nat) : List Nat := l.foldl (linS k wo) []
theorem insK_cons (k : Nat → Nat) (x y : Nat) (r : List Nat) : insK k x (y :: r) = if k y < k x then y :: insK k x r else x :: y :: r := by
  unfold insK
  by_cases h : k y < k x
  · simp [h]
  · simp [h]
theorem insK_mem (k : Nat → Nat) (x y : Nat) (out : List Nat) : y ∈ insK k x out ↔ y = x ∨ y ∈ out := by
  induction out with
  | nil => simp [insK]
  | cons z r ih =>
    rw [insK_cons]
    split
    · rw [List.mem_cons, ih, List.mem_cons]
      constructor
      · rintro (h | h | h)
        · exact .inr (.inl h)
        · exact .inl h
        · exact .inr (.inr h)
      · rintro (h | h | h)
        · exact .inr (.inl h)
        · exact .inl h
        · exact .inr (.inr h)
    · rw [List.mem_cons]
theorem insK_ris {k : Nat → Nat} (hk : Inj k) {x : Nat} (hx : x < top) {out : List Nat} (ho : All out) (hn : x ∉ out) (h : Risi k out) : Risi k (insK k x out) := by
  induction out with
  | nil => simp [insK, Risi]
  | cons y r ih =>
    unfold Risi at h
    rw [List.pairwise_cons] at h
    rw [insK_cons]
    by_cases hlt : k y < k x
    · rw [if_pos hlt]
      unfold Risi
      rw [List.pairwise_cons]
      refine ⟨fun z hz => ?_, ih (fun z hz => ho z (List.mem_cons_of_mem _ hz)) (fun hm => hn (List.mem_cons_of_mem _ hm)) h.2⟩
      rcases (insK_mem k x z r).1 hz with rfl | hz
      · exact hlt
      · exact h.1 z hz
    · rw [if_neg hlt]
      have hne : k x ≠ k y := fun e => hn (by rw [hk x y hx (ho y List.mem_cons_self) e]; exact List.mem_cons_self)
      have hxy : k x < k y := by omega
      unfold Risi
      rw [List.pairwise_cons, List.pairwise_cons]
      refine ⟨fun z hz => ?_, h⟩
      rcases List.mem_cons.1 hz with rfl | hz
      · exact hxy
      · exact Nat.lt_trans hxy (h.1 z hz)
theorem fold_spec {k : Nat → Nat} (hk : Inj k) (wo : Nat) : ∀ (l out : List Nat), Risi k out → All out → All l → wo ∉ out → Risi k (l.foldl (linS k wo) out) ∧ ∀ y, y ∈ l.foldl (linS k wo) out ↔ y ∈ out ∨ (y ∈ l ∧ y ≠ wo)
  | [], out, h, _, _, _ => ⟨h, fun y => by simp⟩
  | x :: r, out, h, ho, hl, hw => by
    have hx := hl x List.mem_cons_self
    have hr : All r := fun y hy => hl y (List.mem_cons_of_mem _ hy)
    rw [List.foldl_cons]
    unfold linS
    by_cases hc : x = wo ∨ x ∈ out
    · rw [if_pos hc]
      obtain ⟨h1, h2⟩ := fold_spec hk wo r out h ho hr hw
      refine ⟨h1, fun y => ?_⟩
      rw [show List.foldl (fun out x => if x = wo ∨ x ∈ out then out else insK k x out) out r = List.foldl (linS k wo) out r from rfl, h2 y, List.mem_cons]
      constructor
      · rintro (h | ⟨h, h'⟩)
        · exact .inl h
        · exact .inr ⟨.inr h, h'⟩
      · rintro (h | ⟨rfl | h, h'⟩)
        · exact .inl h
        · exact hc.elim (fun e => absurd e h') .inl
        · exact .inr ⟨h, h'⟩
    · rw [if_neg hc]
      have h3 : x ≠ wo := fun e => hc (.inl e)
      have h4 : x ∉ out := fun e => hc (.inr e)
      obtain ⟨h1, h2⟩ := fold_spec hk wo r (insK k x out) (insK_ris hk hx ho h4 h) (fun y hy => ((insK_mem k x y out).1 hy).elim (fun e => e ▸ hx) (ho y)) hr (fun hm => ((insK_mem k x wo out).1 hm).elim (fun e => h3 e.symm) hw)
      refine ⟨h1, fun y => ?_⟩
      rw [show List.foldl (fun out x => if x = wo ∨ x ∈ out then out else insK k x out) (insK k x out) r = List.foldl (linS k wo) (insK k x out) r from rfl, h2 y, insK_mem, List.mem_cons]
      constructor
      · rintro ((rfl | h) | ⟨h, h'⟩)
        · exact .inr ⟨.inl rfl, h3⟩
        · exact .inl h
        · exact .inr ⟨.inr h, h'⟩
      · rintro (h | ⟨rfl | h, h'⟩)
        · exact .inl (.inr h)
        · exact .inl (.inl rfl)
        · exact .inr ⟨h, h'⟩
section
variable {k : Nat → Nat} {wo : Nat} {l : List Nat}
theorem lin_ris (hk : Inj k) (hl : All l) : Risi k (lin k wo l) := (fold_spec hk wo l [] List.Pairwise.nil (fun _ h => by cases h) hl (fun h => by cases h)).1
theorem lin_mem (hk : Inj k) (hl : All l) (y : Nat) : y ∈ lin k wo l ↔ y ∈ l ∧ y ≠ wo := by
  rw [lin, (fold_spec hk wo l [] List.Pairwise.nil (fun _ h => by cases h) hl (fun h => by cases h)).2 y]
  simp
theorem lin_all (hk : Inj k) (hl : All l) : All (lin k wo l) := fun x hx => hl x ((lin_mem hk hl x).1 hx).1
theorem lin_not (hk : Inj k) (hl : All l) : wo ∉ lin k wo l := fun h => ((lin_mem hk hl wo).1 h).2 rfl
/-- There is just one such list. -/
theorem lin_eq (hk : Inj k) (hl : All l) {L : List Nat} (hL : Risi k L) (hm : ∀ x, x ∈ L ↔ x ∈ l ∧ x ≠ wo) : L = lin k wo l :=
  hL.uniq (lin_ris hk hl) fun x => by rw [hm, lin_mem hk hl]
end
/-! ### The two ways -/
theorem subN_if {a b : Nat} (ha : a < top) (hb : b < top) : subN a b = if b ≤ a then a - b else a + top - b := by
  unfold subN
  split
  · rw [Nat.mod_eq_sub_mod (by omega), Nat.mod_eq_of_lt (by omega)]
    omega
  · exact Nat.mod_eq_of_lt (by omega)
/-- How far it is clockwise from one; the other way. -/
def kc (s x : Nat) : Nat := subN x s
def kl (s x : Nat) : Nat := subN s x
theorem kc_if {s x : Nat} (hs : s < top) (hx : x < top) : kc s x = if s ≤ x then x - s else x + top - s := subN_if hx hs
theorem kl_if {s x : Nat} (hs : s < top) (hx : x < top) : kl s x = if x ≤ s then s - x else s + top - x := subN_if hs hx
theorem kc_0 {x : Nat} (hx : x < top) : kc 0 x = x := by rw [kc_if (by decide) hx]; simp
theorem kc_inj {s : Nat} (hs : s < top) : Inj (kc s) := fun x y hx hy h => by
  rw [kc_if hs hx, kc_if hs hy] at h
  split at h <;> split at h <;> omega
theorem kl_iff {s x y : Nat} (hs : s < top) (hx : x < top) (hy : y < top) (nx : x ≠ s) (ny : y ≠ s) : kl s y < kl s x ↔ kc s x < kc s y := by
  rw [kl_if hs hx, kl_if hs hy, kc_if hs hx, kc_if hs hy]
  split <;> split <;> split <;> split <;> omega
theorem top_0i : 0 < top := by decide
/-! ### How many are ahead -/
def cR (s : Nat) (L : List Nat) (x : Nat) : Nat := L.countP fun y => decide (kc s y < kc s x)
def cL (s : Nat) (L : List Nat) (x : Nat) : Nat := L.countP fun y => decide (kl s y < kl s x)
def isW (s : Nat) (L : List Nat) (half : Int) (x : Nat) : Bool := decide ((cR s L x : Int) < half) || decide ((cL s L x : Int) < half)
/-- Who is wanted. -/
def want (s : Nat) (l : List Nat) (half : Int) : List Nat := (lin (kc 0) s l).filter (isW s (lin (kc 0) s l) half)
theorem cnt_idx {k : Nat → Nat} {M : List Nat} (h : Risi k M) (i : Nat) (hi : i < M.length) : M.countP (fun y => decide (k y < k M[i])) = i := by
  have hp := List.pairwise_iff_getElem.1 h
  have e : M = M.take i ++ M.drop i := (List.take_append_drop i M).symm
  have h1 : (M.take i).countP (fun y => decide (k y < k M[i])) = (M.take i).length := List.countP_eq_length.2 fun y hy => by
    obtain ⟨j, hj, rfl⟩ := List.mem_iff_getElem.1 hy
    rw [List.length_take] at hj
    rw [List.getElem_take]
    exact decide_eq_true (hp j i (by omega) hi (by omega))
  have h2 : (M.drop i).countP (fun y => decide (k y < k M[i])) = 0 := List.countP_eq_zero.2 fun y hy => by
    obtain ⟨j, hj, rfl⟩ := List.mem_iff_getElem.1 hy
    rw [List.length_drop] at hj
    rw [List.getElem_drop]
    simp only [decide_eq_true_eq, Nat.not_lt]
    by_cases hj0 : j = 0
    · subst hj0; exact Nat.le_refl _
    · exact Nat.le_of_lt (hp i (i + j) hi (by omega) (by omega))
  rw [List.length_take] at h1
  have h3 : M.countP (fun y => decide (k y < k M[i])) = (M.take i ++ M.drop i).countP (fun y => decide (k y < k M[i])) := by rw [← e]
  rw [h3, List.countP_append, h1, h2]
  omega
theorem cnt_above {k : Nat → Nat} {M : List Nat} (h : Risi k M) (i : Nat) (hi : i < M.length) : M.countP (fun y => decide (k M[i] < k y)) = M.length - 1 - i := by
  have hp := List.pairwise_iff_getElem.1 h
  have e : M = M.take (i + 1) ++ M.drop (i + 1) := (List.take_append_drop (i + 1) M).symm
  have h1 : (M.take (i + 1)).countP (fun y => decide (k M[i] < k y)) = 0 := List.countP_eq_zero.2 fun y hy => by
    obtain ⟨j, hj, rfl⟩ := List.mem_iff_getElem.1 hy
    rw [List.length_take] at hj
    rw [List.getElem_take]
    simp only [decide_eq_true_eq, Nat.not_lt]
    by_cases hj0 : j = i
    · subst hj0; exact Nat.le_refl _
    · exact Nat.le_of_lt (hp j i (by omega) hi (by omega))
  have h2 : (M.drop (i + 1)).countP (fun y => decide (k M[i] < k y)) = (M.drop (i + 1)).length := List.countP_eq_length.2 fun y hy => by
    obtain ⟨j, hj, rfl⟩ := List.mem_iff_getElem.1 hy
    rw [List.length_drop] at hj
    rw [List.getElem_drop]
    exact decide_eq_true (hp i (i + 1 + j) hi (by omega) (by omega))
  rw [List.length_drop] at h2
  have h3 : M.countP (fun y => decide (k M[i] < k y)) = (M.take (i + 1) ++ M.drop (i + 1)).countP (fun y => decide (k M[i] < k y)) := by rw [← e]
  rw [h3, List.countP_append, h1, h2]
  omega
section
variable {s : Nat} {M : List Nat}
theorem cL_above (hs : s < top) (hM : All M) (hn : s ∉ M) {x : Nat} (hx : x ∈ M) : cL s M x = M.countP fun y => decide (kc s x < kc s y) :=
  List.countP_congr fun y hy => by
    rw [decide_eq_true_eq, decide_eq_true_eq]
    exact kl_iff hs (hM x hx) (hM y hy) (fun e => hn (e ▸ hx)) (fun e => hn (e ▸ hy))
theorem cR_idx (h : Risi (kc s) M) (i : Nat) (hi : i < M.length) : cR s M M[i] = i := cnt_idx h i hi
theorem cL_idx (hs : s < top) (hM : All M) (hn : s ∉ M) (h : Risi (kc s) M) (i : Nat) (hi : i < M.length) : cL s M M[i] = M.length - 1 - i := by
  rw [cL_above hs hM hn (List.getElem_mem hi)]
  exact cnt_above h i hi
theorem isW_perm {L : List Nat} (h : M.Perm L) (half : Int) (x : Nat) : isW s M half x = isW s L half x := by
  unfold isW cR cL
  rw [h.countP_eq, h.countP_eq]
/-- What the program gathers. -/
def nearK (M : List Nat) (half : Int) : Nat → List Nat
  | 0 => []
  | i + 1 => nearK M half i ++ if (min (i : Int) ((M.length : Int) - 1 - i)) < half then [M.getD i 0] else []
theorem nearK_eq (hs : s < top) (hM : All M) (hn : s ∉ M) (h : Risi (kc s) M) (half : Int) : ∀ i, i ≤ M.length → nearK M half i = (M.take i).filter (isW s M half)
  | 0, _ => by simp [nearK]
  | i + 1, hi => by
    have hi' : i < M.length := hi
    rw [nearK, nearK_eq hs hM hn h half i (by omega), List.take_add_one, List.getElem?_eq_getElem hi', Option.toList_some, List.filter_append]
    congr 1
    have hg : M.getD i 0 = M[i] := by simp [List.getD_eq_getElem?_getD, hi']
    have hw : isW s M half M[i] = decide ((min (i : Int) ((M.length : Int) - 1 - i)) < half) := by
      unfold isW
      rw [cR_idx h i hi', cL_idx hs hM hn h i hi', Bool.eq_iff_iff]
      simp only [Bool.or_eq_true, decide_eq_true_eq]
      omega
    rw [hg]
    by_cases hc : (min (i : Int) ((M.length : Int) - 1 - i)) < half
    · rw [if_pos hc, List.filter_cons_of_pos (by rw [hw]; exact decide_eq_true hc), List.filter_nil]
    · rw [if_neg hc, List.filter_cons_of_neg (by rw [hw]; simpa using hc), List.filter_nil]
end
section
variable {s : Nat} {l : List Nat}
theorem want_mem (hl : All l) (half : Int) (x : Nat) : x ∈ want s l half ↔ (x ∈ l ∧ x ≠ s) ∧ isW s (lin (kc 0) s l) half x = true := by
  rw [want, List.mem_filter, lin_mem (kc_inj top_0i) hl]
theorem want_ris (hl : All l) (half : Int) : Risi (kc 0) (want s l half) := List.Pairwise.filter _ (lin_ris (kc_inj top_0i) hl)
theorem want_all (hl : All l) (half : Int) : All (want s l half) := fun x hx => hl x ((want_mem hl half x).1 hx).1.1
theorem met_perm (hs : s < top) (hl : All l) : (lin (kc s) s l).Perm (lin (kc 0) s l) :=
  (lin_ris (kc_inj hs) hl).perm (lin_ris (kc_inj top_0i) hl) fun x => by rw [lin_mem (kc_inj hs) hl, lin_mem (kc_inj top_0i) hl]
/-- What the program answers is who is wanted. -/
theorem want_eq (hs : s < top) (hl : All l) (half : Int) : lin (kc 0) s (nearK (lin (kc s) s l) half (lin (kc s) s l).length) = want s l half := by
  have hi := kc_inj hs
  have hM := lin_all (wo := s) hi hl
  rw [nearK_eq hs hM (lin_not hi hl) (lin_ris hi hl) half _ (Nat.le_refl _), List.take_length]
  refine (lin_eq (kc_inj top_0i) (fun x hx => hM x (List.mem_filter.1 hx).1) (want_ris hl half) fun x => ?_).symm
  rw [want_mem hl, List.mem_filter, lin_mem hi hl, isW_perm (met_perm hs hl)]
  constructor
  · rintro ⟨⟨h1, h2⟩, h3⟩
    exact ⟨⟨⟨h1, h2⟩, h3⟩, h2⟩
  · rintro ⟨⟨⟨h1, h2⟩, h3⟩, _⟩
    exact ⟨⟨h1, h2⟩, h3⟩
end
end Go.Proofs.Ytfabgonoonanfaa
