/- Enough; all around; whoever comes. No program. -/
import Derived.Test.YtkckjkimjeakcabI2
namespace Go.Proofs.Ytkckjkimjeakcab
open Go.RowKit

theorem isW_mono {s : Nat} {M L : List Nat} (h : ∀ p : Nat → Bool, M.countP p ≤ L.countP p) {half : Int} {x : Nat} (hx : isW s L half x = true) : isW s M half x = true := by
  unfold isW cR cL at *
  rw [Bool.or_eq_true, decide_eq_true_eq, decide_eq_true_eq] at *
  have h1 := h fun y => decide (kc s y < kc s x)
  have h2 := h fun y => decide (kl s y < kl s x)
  omega
theorem enough_same {s : Nat} {l : List Nat} (hl : All l) (half : Int) : want s (want s l half) half = want s l half := by
  have hw := want_all (s := s) hl half
  have e : lin (kc 0) s (want s l half) = want s l half := (lin_eq (kc_inj top_0) hw (want_ris hl half) (fun x => ⟨fun h => ⟨h, fun e => want_not hl half (e ▸ h)⟩, fun h => h.1⟩)).symm
  rw [show want s (want s l half) half = (lin (kc 0) s (want s l half)).filter (isW s (lin (kc 0) s (want s l half)) half) from rfl, e]
  refine List.filter_eq_self.2 fun x hx => ?_
  exact isW_mono (L := lin (kc 0) s l) (fun p => List.Sublist.countP_le List.filter_sublist) ((want_mem hl half x).1 hx).2
/-- Whoever is among the first ones keeps its place where they all are kept. -/
theorem cnt_keep {k : Nat → Nat} {M : List Nat} (hM : Ris k M) (S : Nat → Bool) (h : Nat) (hS : ∀ z ∈ M, M.countP (fun y => decide (k y < k z)) < h → S z = true) {y : Nat} (hy : y ∈ M) (hc : (M.filter S).countP (fun z => decide (k z < k y)) < h) : M.countP (fun z => decide (k z < k y)) < h := by
  obtain ⟨i, hi, rfl⟩ := List.mem_iff_getElem.1 hy
  rw [cnt_idx hM i hi]
  apply Classical.byContradiction
  intro hn
  have hp := List.pairwise_iff_getElem.1 hM
  have h1 : (M.take h).countP (fun z => decide (k z < k M[i]) && S z) = (M.take h).length := List.countP_eq_length.2 fun z hz => by
    obtain ⟨j, hj, rfl⟩ := List.mem_iff_getElem.1 hz
    rw [List.length_take] at hj
    rw [List.getElem_take, Bool.and_eq_true]
    exact ⟨decide_eq_true (hp j i (by omega) hi (by omega)), hS _ (List.getElem_mem _) (by rw [cnt_idx hM j (by omega)]; omega)⟩
  have h2 : (M.take h).countP (fun z => decide (k z < k M[i]) && S z) ≤ M.countP (fun z => decide (k z < k M[i]) && S z) := List.Sublist.countP_le (List.take_sublist h M)
  rw [List.countP_filter] at hc
  rw [List.length_take] at h1
  omega
section
variable {x b : Nat} {l : List Nat}
/-- A part of a list by its key is what of the whole is in the part. -/
theorem lin_part {k : Nat → Nat} (hk : Inj k) {wo : Nat} {l' : List Nat} (hl : All l) (hs : ∀ y ∈ l', y ∈ l) : lin k wo l' = (lin k wo l).filter fun y => decide (y ∈ l') :=
  (lin_eq hk (fun y hy => hl y (hs y hy)) (List.Pairwise.filter _ (lin_ris hk hl)) fun y => by
    rw [List.mem_filter, lin_mem hk hl, decide_eq_true_eq]
    exact ⟨fun h => ⟨h.2, h.1.2⟩, fun h => ⟨⟨hs y h.1, h.2⟩, h.1⟩⟩).symm
theorem key_perm {k k' : Nat → Nat} (hk : Inj k) (hk' : Inj k') {wo : Nat} (hl : All l) : (lin k wo l).Perm (lin k' wo l) :=
  (lin_ris hk hl).perm (lin_ris hk' hl) fun y => by rw [lin_mem hk hl, lin_mem hk' hl]
theorem next_kc {y z : Nat} (hx : x < top) (hb : b < top) (hy : y < top) (hz : z < top) (h1 : kc x b ≤ kc x y) (h2 : kc x b ≤ kc x z) : (kc b y < kc b z ↔ kc x y < kc x z) := by
  rw [show kc b y = fr top (kc x b) (kc x y) from fr_kc hx hy hb, show kc b z = fr top (kc x b) (kc x z) from fr_kc hx hz hb]
  have a1 := fr_fact top (kc x b) (kc x y)
  have a2 := fr_fact top (kc x b) (kc x z)
  omega
theorem enough_next (hx : x < top) (hl : All l) (hxl : x ∉ l) (hb : nxt x l = some b) (half : Int) : want x (want b l half ++ [b]) half = want x l half := by
  obtain ⟨⟨b1, b2⟩, b3⟩ := nxt_spec hx hl hb
  have h0 := kc_inj top_0
  have htb := hl b b1
  have hne : ∀ z ∈ l, z ≠ x := fun z hz e => hxl (e ▸ hz)
  have hsub : ∀ y ∈ want b l half ++ [b], y ∈ l := fun y hy => by
    rcases List.mem_append.1 hy with hy | hy
    · exact ((want_mem hl half y).1 hy).1.1
    · rw [List.mem_singleton.1 hy]; exact b1
  have hl' : All (want b l half ++ [b]) := fun y hy => hl y (hsub y hy)
  have hpart := fun (k : Nat → Nat) (hk : Inj k) => lin_part (wo := x) hk hl hsub
  have hLb : lin (kc 0) b l = (lin (kc 0) x l).filter fun y => decide (y ≠ b) :=
    (lin_eq h0 hl (List.Pairwise.filter _ (lin_ris h0 hl)) fun y => by
      rw [List.mem_filter, lin_mem h0 hl, decide_eq_true_eq]
      exact ⟨fun h => ⟨h.1.1, h.2⟩, fun h => ⟨⟨h.1, hne y h.1⟩, h.2⟩⟩).symm
  have keep : ∀ z ∈ l, isW x (lin (kc 0) x l) half z = true → z ∈ want b l half ++ [b] := fun z hz hw => by
    by_cases hzb : z = b
    · rw [hzb]; exact List.mem_append_right _ List.mem_cons_self
    · refine List.mem_append_left _ ((want_mem hl half z).2 ⟨⟨hz, hzb⟩, ?_⟩)
      have c1 : cR b (lin (kc 0) b l) z ≤ cR x (lin (kc 0) x l) z := by
        unfold cR
        refine Nat.le_trans (List.countP_mono_left (q := fun y => decide (kc x y < kc x z)) fun y hy h => ?_) (by rw [hLb]; exact List.Sublist.countP_le List.filter_sublist)
        have hy' := ((lin_mem h0 hl y).1 hy).1
        rw [decide_eq_true_eq] at *
        exact (next_kc hx htb (hl y hy') (hl z hz) (b3 y hy' (hne y hy')) (b3 z hz (hne z hz))).1 h
      have c2 : cL b (lin (kc 0) b l) z ≤ cL x (lin (kc 0) x l) z := by
        unfold cL
        refine Nat.le_trans (List.countP_mono_left (q := fun y => decide (kl x y < kl x z)) fun y hy h => ?_) (by rw [hLb]; exact List.Sublist.countP_le List.filter_sublist)
        have hy' := (lin_mem h0 hl y).1 hy
        rw [decide_eq_true_eq] at *
        refine (kl_iff hx (hl z hz) (hl y hy'.1) (hne z hz) (hne y hy'.1)).2 ((next_kc hx htb (hl z hz) (hl y hy'.1) (b3 z hz (hne z hz)) (b3 y hy'.1 (hne y hy'.1))).1 ?_)
        exact (kl_iff htb (hl z hz) (hl y hy'.1) hzb hy'.2).1 h
      unfold isW at *
      rw [Bool.or_eq_true, decide_eq_true_eq, decide_eq_true_eq] at *
      omega
  refine (want_ris hl' half).uniq (want_ris hl half) fun y => ?_
  rw [want_mem hl', want_mem hl]
  constructor
  · rintro ⟨⟨h1, h2⟩, h3⟩
    have hyl := hsub y h1
    refine ⟨⟨hyl, h2⟩, ?_⟩
    unfold isW at h3
    rw [Bool.or_eq_true, decide_eq_true_eq, decide_eq_true_eq] at h3
    have side : ∀ (k : Nat → Nat) (hk : Inj k), (∀ z ∈ lin k x l, ((lin k x l).countP (fun y => decide (k y < k z)) : Int) < half → isW x (lin (kc 0) x l) half z = true) → ((lin (kc 0) x (want b l half ++ [b])).countP (fun z => decide (k z < k y)) : Int) < half → ((lin (kc 0) x l).countP (fun z => decide (k z < k y)) : Int) < half := by
      intro k hk hz hc
      rw [(key_perm h0 hk hl).countP_eq]
      rw [(key_perm h0 hk hl').countP_eq, hpart k hk] at hc
      have hp : 0 ≤ half := by omega
      have := cnt_keep (lin_ris (wo := x) hk hl) (fun y => decide (y ∈ want b l half ++ [b])) half.toNat (fun z hzm hzc => decide_eq_true (keep z ((lin_mem hk hl z).1 hzm).1 (hz z hzm (by omega)))) ((lin_mem hk hl y).2 ⟨hyl, h2⟩) (by omega)
      omega
    unfold isW
    rw [Bool.or_eq_true, decide_eq_true_eq, decide_eq_true_eq]
    rcases h3 with h3 | h3
    · refine .inl (side (kc x) (kc_inj hx) (fun z _ hc => ?_) h3)
      rw [(key_perm (kc_inj hx) h0 hl).countP_eq] at hc
      unfold isW
      rw [Bool.or_eq_true, decide_eq_true_eq, decide_eq_true_eq]
      exact .inl hc
    · refine .inr (side (kl x) (kl_inj hx) (fun z _ hc => ?_) h3)
      rw [(key_perm (kl_inj hx) h0 hl).countP_eq] at hc
      unfold isW
      rw [Bool.or_eq_true, decide_eq_true_eq, decide_eq_true_eq]
      exact .inr hc
  · rintro ⟨⟨h1, h2⟩, h3⟩
    refine ⟨⟨keep y h1 h3, h2⟩, isW_mono (L := lin (kc 0) x l) (fun p => ?_) h3⟩
    rw [hpart (kc 0) h0]
    exact List.Sublist.countP_le List.filter_sublist
end

/-! ### All around -/
section
variable {f : Nat} {l C : List Nat}
theorem kc_from {a x d : Nat} (ha : a < top) (hx : x < top) (hd : d < top) : kc d x = fr top (kc a d) (kc a x) := fr_kc ha hx hd
theorem round_ris (hf : f < top) (hl : All l) : Ris (kc f) (f :: lin (kc f) f l) := by
  unfold Ris
  rw [List.pairwise_cons]
  refine ⟨fun z hz => ?_, lin_ris (kc_inj hf) hl⟩
  have hz' := (lin_mem (kc_inj hf) hl z).1 hz
  have k0 : kc f f = 0 := by rw [kc_if hf hf]; simp
  have : kc f z ≠ kc f f := fun e => hz'.2 (kc_inj hf z f (hl z hz'.1) hf e)
  omega
theorem round_mem (hfl : f ∈ l) (hl : All l) (z : Nat) : z ∈ f :: lin (kc f) f l ↔ z ∈ l := by
  rw [List.mem_cons, lin_mem (kc_inj (hl f hfl)) hl]
  constructor
  · rintro (rfl | h)
    · exact hfl
    · exact h.1
  · intro h
    by_cases e : z = f
    · exact .inl e
    · exact .inr ⟨h, e⟩
theorem round_step (hf : f < top) (hl : All l) (hC : Ris (kc f) C) (hm : ∀ z, z ∈ C ↔ z ∈ l) (j : Nat) (hj : j + 1 < C.length) : nxt C[j] l = some C[j + 1] := by
  have hp := List.pairwise_iff_getElem.1 hC
  have hal : ∀ i (hi : i < C.length), C[i] < top := fun i hi => hl _ ((hm _).1 (List.getElem_mem hi))
  have hlt := hp j (j + 1) (by omega) hj (by omega)
  refine nxt_of (hal j (by omega)) hl ((hm _).1 (List.getElem_mem hj)) (fun e => by rw [e] at hlt; exact Nat.lt_irrefl _ hlt) fun z hz hne => ?_
  obtain ⟨i, hi, rfl⟩ := List.mem_iff_getElem.1 ((hm z).2 hz)
  rw [kc_from hf (hal _ hj) (hal j (by omega)), kc_from hf (hal i hi) (hal j (by omega))]
  have t1 : kc f C[j + 1] < top := subN_lt _ _
  have t2 : kc f C[i] < top := subN_lt _ _
  have t3 : kc f C[j] < top := subN_lt _ _
  have a1 := fr_fact top (kc f C[j]) (kc f C[j + 1])
  have a2 := fr_fact top (kc f C[j]) (kc f C[i])
  have hij : i ≠ j := fun e => hne (by subst e; rfl)
  rcases Nat.lt_or_gt_of_ne hij with h | h
  · have := hp i j hi (by omega) h
    omega
  · have : kc f C[j + 1] ≤ kc f C[i] := by
      by_cases e : i = j + 1
      · subst e; exact Nat.le_refl _
      · exact Nat.le_of_lt (hp (j + 1) i hj hi (by omega))
    omega
theorem round_back (hf : f < top) (hl : All l) (hC : Ris (kc f) (f :: C)) (hm : ∀ z, z ∈ f :: C ↔ z ∈ l) (h0 : 0 < C.length) : nxt ((f :: C)[C.length]'(by simp)) l = some f := by
  have hp := List.pairwise_iff_getElem.1 hC
  have hal : ∀ i (hi : i < (f :: C).length), (f :: C)[i] < top := fun i hi => hl _ ((hm _).1 (List.getElem_mem hi))
  have hlt := hp 0 C.length (by simp) (by simp) h0
  have k0 : kc f f = 0 := by rw [kc_if hf hf]; simp
  have e0 : (f :: C)[0]'(by simp) = f := rfl
  rw [e0] at hlt
  refine nxt_of (hal _ (by simp)) hl ((hm f).1 List.mem_cons_self) (fun e => by rw [← e] at hlt; exact Nat.lt_irrefl _ hlt) fun z hz hne => ?_
  obtain ⟨i, hi, rfl⟩ := List.mem_iff_getElem.1 ((hm z).2 hz)
  rw [kc_from hf hf (hal _ (by simp)), kc_from hf (hal i hi) (hal _ (by simp)), k0]
  have t2 : kc f (f :: C)[i] < top := subN_lt _ _
  have a1 := fr_fact top (kc f ((f :: C)[C.length]'(by simp))) 0
  have a2 := fr_fact top (kc f ((f :: C)[C.length]'(by simp))) (kc f (f :: C)[i])
  have hij : i ≠ C.length := fun e => hne (by subst e; rfl)
  have hil : i < C.length := by simp at hi; omega
  have := hp i C.length hi (by simp) hil
  omega
end

/-! ### Whoever comes -/
theorem countP_or (p q : Nat → Bool) : ∀ l : List Nat, l.countP (fun x => p x || q x) ≤ l.countP p + l.countP q
  | [] => by simp
  | x :: r => by
    have := countP_or p q r
    rw [List.countP_cons, List.countP_cons, List.countP_cons]
    cases p x <;> cases q x <;> simp <;> omega
theorem cnt_map {k : Nat → Nat} {M : List Nat} (h : Ris k M) : M.map (fun x => M.countP fun y => decide (k y < k x)) = List.range M.length := by
  apply List.ext_getElem
  · simp
  · intro i h1 h2
    rw [List.getElem_map, List.getElem_range]
    exact cnt_idx h i (by simpa using h1)
/-- At most one has so many ahead of it. -/
theorem cnt_one {k : Nat → Nat} {M : List Nat} (h : Ris k M) (n : Nat) : M.countP (fun x => decide (M.countP (fun y => decide (k y < k x)) = n)) ≤ 1 := by
  have e : M.countP (fun x => decide (M.countP (fun y => decide (k y < k x)) = n)) = (M.map (fun x => M.countP fun y => decide (k y < k x))).countP (fun i => decide (i = n)) := by
    rw [List.countP_map]
    rfl
  rw [e, cnt_map h]
  have : (List.range M.length).countP (fun i => decide (i = n)) = (List.range M.length).count n := by
    unfold List.count
    refine List.countP_congr fun i _ => ?_
    simp
  rw [this, List.count_range]
  split <;> omega
section
variable {s m : Nat} {l : List Nat}
theorem grow_sub (k : Nat → Nat) (hk : Inj k) (hl : All l) (hm : m < top) : lin k s l = (lin k s (l ++ [m])).filter fun y => decide (y ∈ l) :=
  lin_part hk (fun y hy => (List.mem_append.1 hy).elim (hl y) (fun h => by rw [List.mem_singleton.1 h]; exact hm)) fun y hy => List.mem_append_left _ hy
theorem grow_old (hl : All l) (hm : m < top) {half : Int} {x : Nat} (hx : x ∈ want s (l ++ [m]) half) (hne : x ≠ m) : x ∈ want s l half := by
  have hl' : All (l ++ [m]) := fun y hy => (List.mem_append.1 hy).elim (hl y) (fun h => by rw [List.mem_singleton.1 h]; exact hm)
  obtain ⟨⟨h1, h2⟩, h3⟩ := (want_mem hl' half x).1 hx
  have h4 : x ∈ l := (List.mem_append.1 h1).elim id fun h => absurd (List.mem_singleton.1 h) hne
  refine (want_mem hl half x).2 ⟨⟨h4, h2⟩, isW_mono (fun p => ?_) h3⟩
  rw [grow_sub (kc 0) (kc_inj top_0) hl hm]
  exact List.Sublist.countP_le List.filter_sublist
theorem grow_cnt (hl : All l) (hm : m < top) (p : Nat → Bool) : (lin (kc 0) s (l ++ [m])).countP p ≤ (lin (kc 0) s l).countP p + 1 := by
  have h0 := kc_inj top_0
  have hl' : All (l ++ [m]) := fun y hy => (List.mem_append.1 hy).elim (hl y) (fun h => by rw [List.mem_singleton.1 h]; exact hm)
  rw [lin_snoc]
  unfold linS
  split
  · omega
  · have : (insK (kc 0) m (lin (kc 0) s l)).Perm (m :: lin (kc 0) s l) := by
      unfold insK
      refine List.perm_middle.trans ?_
      rw [List.takeWhile_append_dropWhile]
    rw [this.countP_eq, List.countP_cons]
    split <;> omega
/-- At most one is pushed away on each side. -/
theorem grow_gone (hs : s < top) (hl : All l) (hm : m < top) (half : Int) : (want s l half).countP (fun x => !decide (x ∈ want s (l ++ [m]) half)) ≤ 2 := by
  have h0 := kc_inj top_0
  have hl' : All (l ++ [m]) := fun y hy => (List.mem_append.1 hy).elim (hl y) (fun h => by rw [List.mem_singleton.1 h]; exact hm)
  have hb : ∀ (k : Nat → Nat) (hk : Inj k) (n : Nat), (lin (kc 0) s l).countP (fun x => decide ((lin (kc 0) s l).countP (fun y => decide (k y < k x)) = n)) ≤ 1 := fun k hk n => by
    have hp := key_perm (wo := s) h0 hk hl
    rw [hp.countP_eq]
    refine Nat.le_trans (Nat.le_of_eq ?_) (cnt_one (lin_ris (wo := s) hk hl) n)
    refine List.countP_congr fun x _ => ?_
    rw [hp.countP_eq]
  have h1 := hb (kc s) (kc_inj hs) (half - 1).toNat
  have h2 := hb (kl s) (kl_inj hs) (half - 1).toNat
  have h3 := countP_or (fun x => decide ((lin (kc 0) s l).countP (fun y => decide (kc s y < kc s x)) = (half - 1).toNat)) (fun x => decide ((lin (kc 0) s l).countP (fun y => decide (kl s y < kl s x)) = (half - 1).toNat)) (lin (kc 0) s l)
  refine Nat.le_trans ?_ (Nat.le_trans h3 (by omega))
  unfold want
  rw [List.countP_filter]
  refine List.countP_mono_left fun x hx h => ?_
  rw [Bool.and_eq_true] at h
  obtain ⟨h4, h5⟩ := h
  have hx' := (lin_mem h0 hl x).1 hx
  have h6 : isW s (lin (kc 0) s (l ++ [m])) half x = false := by
    cases hw : isW s (lin (kc 0) s (l ++ [m])) half x with
    | false => rfl
    | true =>
      have : x ∈ want s (l ++ [m]) half := (want_mem hl' half x).2 ⟨⟨List.mem_append_left _ hx'.1, hx'.2⟩, hw⟩
      unfold want at this
      rw [decide_eq_true this] at h4
      cases h4
  have c1 := grow_cnt (s := s) hl hm fun y => decide (kc s y < kc s x)
  have c2 := grow_cnt (s := s) hl hm fun y => decide (kl s y < kl s x)
  unfold isW cR cL at h5 h6
  rw [Bool.or_eq_true, decide_eq_true_eq, decide_eq_true_eq] at h5
  rw [Bool.or_eq_false_iff, decide_eq_false_iff_not, decide_eq_false_iff_not] at h6
  rw [Bool.or_eq_true, decide_eq_true_eq, decide_eq_true_eq]
  omega
end
end Go.Proofs.Ytkckjkimjeakcab
