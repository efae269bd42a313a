/- What neighbours tell one another, round by round: after twelve rounds the least identity is known. -/
import Derived.ProofKit
namespace Go.Proofs.Ytljihaihhnamfaa

/-- What was heard. -/
structure Hd where
  n : Int
  id : Nat
  far : Int

/-- No later in the order of what is best. -/
abbrev hdLe (x y : Hd) : Prop := x.id < y.id ∨ (x.id = y.id ∧ (x.far < y.far ∨ (x.far = y.far ∧ x.n ≤ y.n)))
def hdUp (y : Hd) : Hd := ⟨y.n, y.id, y.far + 1⟩
abbrev hdNear (y : Hd) : Prop := 0 ≤ y.far ∧ y.far ≤ 5
def hdOwn (s : Nat) : Hd := ⟨-1, s, 0⟩
def bestH (s : Nat) (l : List Hd) : Hd := l.foldl (fun b y => if hdNear y ∧ ¬ hdLe b (hdUp y) then hdUp y else b) (hdOwn s)

theorem hdLe_refl (x : Hd) : hdLe x x := Or.inr ⟨rfl, Or.inr ⟨rfl, Int.le_refl _⟩⟩
theorem hdLe_trans {x y z : Hd} (h : hdLe x y) (k : hdLe y z) : hdLe x z := by unfold hdLe at *; omega
theorem hdLe_total {x y : Hd} (h : ¬ hdLe x y) : hdLe y x := by unfold hdLe at *; omega
theorem hdLe_anti {x y : Hd} (h : hdLe x y) (k : hdLe y x) : x = y := by
  obtain ⟨n, i, f⟩ := x
  obtain ⟨n', i', f'⟩ := y
  simp only [hdLe] at h k
  have h1 : n = n' := by omega
  have h2 : i = i' := by omega
  have h3 : f = f' := by omega
  rw [h1, h2, h3]

/-- What it is to be the best. -/
structure IsBest (s : Nat) (l : List Hd) (x : Hd) : Prop where
  of : x = hdOwn s ∨ ∃ y ∈ l, hdNear y ∧ x = hdUp y
  own : hdLe x (hdOwn s)
  all : ∀ y ∈ l, hdNear y → hdLe x (hdUp y)

theorem IsBest.uniq {s : Nat} {l l' : List Hd} {x y : Hd} (h : IsBest s l x) (k : IsBest s l' y) (e : ∀ z, z ∈ l ↔ z ∈ l') : x = y := by
  apply hdLe_anti
  · rcases k.of with e1 | ⟨z, hz, hn, e1⟩
    · exact e1 ▸ h.own
    · exact e1 ▸ h.all z ((e z).2 hz) hn
  · rcases h.of with e1 | ⟨z, hz, hn, e1⟩
    · exact e1 ▸ k.own
    · exact e1 ▸ k.all z ((e z).1 hz) hn

theorem IsBest.snoc {s : Nat} {l : List Hd} {b : Hd} (h : IsBest s l b) (y : Hd) : IsBest s (l ++ [y]) (if hdNear y ∧ ¬ hdLe b (hdUp y) then hdUp y else b) := by
  by_cases c : hdNear y ∧ ¬ hdLe b (hdUp y)
  · rw [if_pos c]
    have hl := hdLe_total c.2
    refine ⟨Or.inr ⟨y, by simp, c.1, rfl⟩, hdLe_trans hl h.own, ?_⟩
    intro z hz hn
    rcases List.mem_append.1 hz with hz | hz
    · exact hdLe_trans hl (h.all z hz hn)
    · rw [List.mem_singleton.1 hz]
      exact hdLe_refl _
  · rw [if_neg c]
    refine ⟨?_, h.own, ?_⟩
    · rcases h.of with e | ⟨z, hz, hn, e⟩
      · exact Or.inl e
      · exact Or.inr ⟨z, List.mem_append_left _ hz, hn, e⟩
    intro z hz hn
    rcases List.mem_append.1 hz with hz | hz
    · exact h.all z hz hn
    · rw [List.mem_singleton.1 hz] at hn ⊢
      exact Decidable.byContradiction fun hc => c ⟨hn, hc⟩

theorem isBest_nil (s : Nat) : IsBest s [] (hdOwn s) := ⟨Or.inl rfl, hdLe_refl _, by simp⟩

theorem isBest_fold (s : Nat) (l : List Hd) : ∀ (p : List Hd) (b : Hd), IsBest s p b → IsBest s (p ++ l) (l.foldl (fun b y => if hdNear y ∧ ¬ hdLe b (hdUp y) then hdUp y else b) b) := by
  induction l with
  | nil => intro p b h; simpa using h
  | cons y l ih =>
    intro p b h
    have := ih (p ++ [y]) _ (h.snoc y)
    simpa using this

theorem bestH_is (s : Nat) (l : List Hd) : IsBest s l (bestH s l) := isBest_fold s l [] _ (isBest_nil s)
theorem bestH_of {s : Nat} {l : List Hd} {x : Hd} (h : IsBest s l x) : bestH s l = x := (bestH_is s l).uniq h fun _ => Iff.rfl

def putH (l : List Hd) (x : Hd) : List Hd := l.filter (fun y => decide (y.n < x.n)) ++ x :: l.filter (fun y => decide (x.n < y.n))
def forH (l : List Hd) (n : Int) : List Hd := l.filter (fun y => decide (y.n ≠ n))

theorem mem_putH {l : List Hd} {x y : Hd} : y ∈ putH l x ↔ y = x ∨ (y ∈ l ∧ y.n ≠ x.n) := by
  simp only [putH, List.mem_append, List.mem_cons, List.mem_filter, decide_eq_true_eq]
  constructor
  · rintro (⟨h, k⟩ | h | ⟨h, k⟩)
    · exact Or.inr ⟨h, by omega⟩
    · exact Or.inl h
    · exact Or.inr ⟨h, by omega⟩
  · rintro (h | ⟨h, k⟩)
    · exact Or.inr (Or.inl h)
    · by_cases c : y.n < x.n
      · exact Or.inl ⟨h, c⟩
      · exact Or.inr (Or.inr ⟨h, by omega⟩)

/-- What a node hears in one round. -/
def tellH (lk : Nat → Nat → Bool) (bb : Nat → Hd) (a : Nat) : Nat → List Hd → List Hd
  | 0, l => l
  | k + 1, l => if lk a k then putH (tellH lk bb a k l) ⟨k, (bb k).id, (bb k).far⟩ else tellH lk bb a k l

/-- All that was heard is of neighbours. -/
def OfNb (n : Nat) (lk : Nat → Nat → Bool) (a : Nat) (l : List Hd) : Prop := ∀ y ∈ l, ∃ b, b < n ∧ lk a b = true ∧ y.n = (b : Int)

theorem mem_tellH {lk : Nat → Nat → Bool} {bb : Nat → Hd} {a : Nat} {l : List Hd} {y : Hd} : ∀ k, y ∈ tellH lk bb a k l ↔ (∃ b, b < k ∧ lk a b = true ∧ y = ⟨b, (bb b).id, (bb b).far⟩) ∨ (y ∈ l ∧ ∀ b, b < k → lk a b = true → y.n ≠ (b : Int)) := by
  intro k
  induction k with
  | zero => simp [tellH]
  | succ k ih =>
    by_cases c : lk a k = true
    · rw [tellH, if_pos c, mem_putH, ih]
      constructor
      · rintro (h | ⟨⟨b, hb, hl, h⟩ | ⟨h, h'⟩, hn⟩)
        · exact Or.inl ⟨k, by omega, c, h⟩
        · exact Or.inl ⟨b, by omega, hl, h⟩
        · refine Or.inr ⟨h, fun b hb hl => ?_⟩
          by_cases e : b = k
          · rw [e]; exact hn
          · exact h' b (by omega) hl
      · rintro (⟨b, hb, hl, h⟩ | ⟨h, h'⟩)
        · by_cases e : b = k
          · rw [e] at h; exact Or.inl h
          · refine Or.inr ⟨Or.inl ⟨b, by omega, hl, h⟩, ?_⟩
            rw [h]
            show (b : Int) ≠ (k : Int)
            omega
        · exact Or.inr ⟨Or.inr ⟨h, fun b hb hl => h' b (by omega) hl⟩, h' k (by omega) c⟩
    · rw [tellH, if_neg c, ih]
      constructor
      · rintro (⟨b, hb, hl, h⟩ | ⟨h, h'⟩)
        · exact Or.inl ⟨b, by omega, hl, h⟩
        · refine Or.inr ⟨h, fun b hb hl => ?_⟩
          by_cases e : b = k
          · rw [e] at hl; exact absurd hl c
          · exact h' b (by omega) hl
      · rintro (⟨b, hb, hl, h⟩ | ⟨h, h'⟩)
        · by_cases e : b = k
          · rw [e] at hl; exact absurd hl c
          · exact Or.inl ⟨b, by omega, hl, h⟩
        · exact Or.inr ⟨h, fun b hb hl => h' b (by omega) hl⟩

theorem mem_tell {n : Nat} {lk : Nat → Nat → Bool} {bb : Nat → Hd} {a : Nat} {l : List Hd} (h : OfNb n lk a l) {y : Hd} : y ∈ tellH lk bb a n l ↔ ∃ b, b < n ∧ lk a b = true ∧ y = ⟨b, (bb b).id, (bb b).far⟩ := by
  rw [mem_tellH]
  constructor
  · rintro (h1 | ⟨h1, h2⟩)
    · exact h1
    · obtain ⟨b, hb, hl, e⟩ := h y h1
      exact absurd e (h2 b hb hl)
  · exact Or.inl

theorem ofNb_tell {n : Nat} {lk : Nat → Nat → Bool} {bb : Nat → Hd} {a : Nat} {l : List Hd} (h : OfNb n lk a l) : ∀ k, k ≤ n → OfNb n lk a (tellH lk bb a k l) := by
  intro k hk y hy
  rcases (mem_tellH k).1 hy with ⟨b, hb, hl, e⟩ | ⟨h1, _⟩
  · exact ⟨b, by omega, hl, by rw [e]⟩
  · exact h y h1

theorem ofNb_put {n : Nat} {lk : Nat → Nat → Bool} {a : Nat} {l : List Hd} (h : OfNb n lk a l) {x : Hd} {b : Nat} (hb : b < n) (hl : lk a b = true) (e : x.n = (b : Int)) : OfNb n lk a (putH l x) := by
  intro y hy
  rcases mem_putH.1 hy with e1 | ⟨h1, _⟩
  · exact ⟨b, hb, hl, by rw [e1, e]⟩
  · exact h y h1

/-- What is heard after some rounds, and what is best then. -/
def hrdT (n : Nat) (lk : Nat → Nat → Bool) (ids : Nat → Nat) (h0 : Nat → List Hd) : Nat → Nat → List Hd
  | 0, a => h0 a
  | t + 1, a => tellH lk (fun b => bestH (ids b) (hrdT n lk ids h0 t b)) a n (hrdT n lk ids h0 t a)
def bstT (n : Nat) (lk : Nat → Nat → Bool) (ids : Nat → Nat) (h0 : Nat → List Hd) (t a : Nat) : Hd := bestH (ids a) (hrdT n lk ids h0 t a)

/-- A walk of so many steps. -/
def WkH (n : Nat) (lk : Nat → Nat → Bool) : Nat → Nat → Nat → Prop
  | 0, a, c => a < n ∧ a = c
  | k + 1, a, c => a < n ∧ ∃ b, lk a b = true ∧ WkH n lk k b c
theorem WkH.nil {n : Nat} {lk : Nat → Nat → Bool} {a : Nat} (h : a < n) : WkH n lk 0 a a := ⟨h, rfl⟩
theorem WkH.cons {n : Nat} {lk : Nat → Nat → Bool} {k a b c : Nat} (h : a < n) (l : lk a b = true) (w : WkH n lk k b c) : WkH n lk (k + 1) a c := ⟨h, b, l, w⟩

section
variable {n : Nat} {lk : Nat → Nat → Bool} {ids : Nat → Nat} {h0 : Nat → List Hd}

theorem WkH.lt1 {k a c : Nat} (h : WkH n lk k a c) : a < n := by cases k <;> exact h.1
theorem WkH.lt2 {k a c : Nat} (h : WkH n lk k a c) : c < n := by
  induction k generalizing a with
  | zero => exact h.2 ▸ h.1
  | succ k ih =>
    obtain ⟨_, b, _, w⟩ := h
    exact ih w
theorem WkH.trans {k j a b c : Nat} (h : WkH n lk k a b) (g : WkH n lk j b c) : WkH n lk (k + j) a c := by
  induction k generalizing a with
  | zero =>
    obtain ⟨_, e⟩ := h
    rw [e, Nat.zero_add]
    exact g
  | succ k ih =>
    obtain ⟨ha, x, l, w⟩ := h
    have := WkH.cons ha l (ih w)
    rwa [show k + j + 1 = k + 1 + j from by omega] at this
theorem WkH.symm (hs : ∀ a b, lk a b = lk b a) {k a c : Nat} (h : WkH n lk k a c) : WkH n lk k c a := by
  induction k generalizing a with
  | zero => exact ⟨h.2 ▸ h.1, h.2.symm⟩
  | succ k ih =>
    obtain ⟨ha, b, l, w⟩ := h
    exact (ih w).trans (.cons w.lt1 (hs a b ▸ l) (.nil ha))

theorem ofNb_hrdT (hn : ∀ a, a < n → OfNb n lk a (h0 a)) : ∀ t a, a < n → OfNb n lk a (hrdT n lk ids h0 t a) := by
  intro t
  induction t with
  | zero => exact hn
  | succ t ih => exact fun a ha => ofNb_tell (ih a ha) n (Nat.le_refl n)

/-- What is best in the next round. -/
theorem bstT_succ (hn : ∀ a, a < n → OfNb n lk a (h0 a)) (t a : Nat) (ha : a < n) : (bstT n lk ids h0 (t + 1) a = hdOwn (ids a) ∨ ∃ b, b < n ∧ lk a b = true ∧ 0 ≤ (bstT n lk ids h0 t b).far ∧ (bstT n lk ids h0 t b).far ≤ 5 ∧ bstT n lk ids h0 (t + 1) a = ⟨b, (bstT n lk ids h0 t b).id, (bstT n lk ids h0 t b).far + 1⟩) ∧ hdLe (bstT n lk ids h0 (t + 1) a) (hdOwn (ids a)) ∧ ∀ b, b < n → lk a b = true → 0 ≤ (bstT n lk ids h0 t b).far → (bstT n lk ids h0 t b).far ≤ 5 → hdLe (bstT n lk ids h0 (t + 1) a) ⟨b, (bstT n lk ids h0 t b).id, (bstT n lk ids h0 t b).far + 1⟩ := by
  have h := bestH_is (ids a) (hrdT n lk ids h0 (t + 1) a)
  refine ⟨?_, h.own, ?_⟩
  · rcases h.of with e | ⟨y, hy, hr, e⟩
    · exact Or.inl e
    · obtain ⟨b, hb, hl, e1⟩ := (mem_tell (ofNb_hrdT hn t a ha)).1 hy
      subst e1
      exact Or.inr ⟨b, hb, hl, hr.1, hr.2, e⟩
  · intro b hb hl h1 h2
    exact h.all ⟨b, (bstT n lk ids h0 t b).id, (bstT n lk ids h0 t b).far⟩ ((mem_tell (ofNb_hrdT hn t a ha)).2 ⟨b, hb, hl, rfl⟩) ⟨h1, h2⟩

theorem bstT_far (t a : Nat) : 0 ≤ (bstT n lk ids h0 t a).far ∧ (bstT n lk ids h0 t a).far ≤ 6 := by
  have h := bestH_is (ids a) (hrdT n lk ids h0 t a)
  rcases h.of with e | ⟨y, _, hr, e⟩
  · rw [bstT, e]; exact ⟨Int.le_refl _, show (0 : Int) ≤ 6 by decide⟩
  · rw [bstT, e]; exact ⟨by have := hr.1; simp only [hdUp]; omega, by have := hr.2; simp only [hdUp]; omega⟩

/-- What is known is there, so far away, or it has grown with every round. -/
theorem bstT_real (hn : ∀ a, a < n → OfNb n lk a (h0 a)) : ∀ t a, a < n → (∃ c, (bstT n lk ids h0 t a).id = ids c ∧ WkH n lk (bstT n lk ids h0 t a).far.toNat a c) ∨ (t : Int) + 1 ≤ (bstT n lk ids h0 t a).far := by
  intro t
  induction t with
  | zero =>
    intro a ha
    have h := bestH_is (ids a) (hrdT n lk ids h0 0 a)
    rcases h.of with e | ⟨y, _, hr, e⟩
    · left
      rw [bstT, e]
      exact ⟨a, rfl, .nil ha⟩
    · right
      rw [bstT, e]
      have := hr.1
      simp only [hdUp]
      omega
  | succ t ih =>
    intro a ha
    rcases (bstT_succ (ids := ids) hn t a ha).1 with e | ⟨b, hb, hl, h1, h2, e⟩
    · left
      rw [e]
      exact ⟨a, rfl, .nil ha⟩
    · rw [e]
      rcases ih b hb with ⟨c, hc, hw⟩ | h
      · left
        refine ⟨c, hc, ?_⟩
        have := WkH.cons ha hl hw
        rwa [show ((bstT n lk ids h0 t b).far + 1).toNat = (bstT n lk ids h0 t b).far.toNat + 1 from by omega]
      · right
        simp only
        omega

theorem bstT_is (hn : ∀ a, a < n → OfNb n lk a (h0 a)) {t a : Nat} (ht : 6 ≤ t) (ha : a < n) : ∃ c, (bstT n lk ids h0 t a).id = ids c ∧ WkH n lk (bstT n lk ids h0 t a).far.toNat a c := by
  rcases bstT_real (ids := ids) hn t a ha with h | h
  · exact h
  · have := (bstT_far (n := n) (lk := lk) (ids := ids) (h0 := h0) t a).2
    omega

/-- The least one comes, a step a round. -/
theorem bstT_least (hs : ∀ a b, lk a b = lk b a) (hn : ∀ a, a < n → OfNb n lk a (h0 a)) {c : Nat} (hc : ∀ k b, WkH n lk k c b → ids c ≤ ids b) : ∀ d a t, WkH n lk d a c → d ≤ 6 → 6 + d ≤ t → (bstT n lk ids h0 t a).id = ids c ∧ (bstT n lk ids h0 t a).far ≤ d := by
  intro d
  induction d with
  | zero =>
    intro a t hw _ ht
    have ha := hw.1
    have ea := hw.2.symm
    subst ea
    · obtain ⟨b, e, w⟩ := bstT_is (ids := ids) hn (show 6 ≤ t by omega) ha
      have h1 := hc _ _ w
      have h2 := (bestH_is (ids c) (hrdT n lk ids h0 t c)).own
      have h3 := (bstT_far (n := n) (lk := lk) (ids := ids) (h0 := h0) t c).1
      change hdLe (bstT n lk ids h0 t c) (hdOwn (ids c)) at h2
      simp only [hdLe, hdOwn] at h2
      omega
  | succ d ih =>
    intro a t hw hd ht
    obtain ⟨ha, b, hl, w⟩ := hw
    · obtain ⟨t, rfl⟩ : ∃ u, t = u + 1 := ⟨t - 1, by omega⟩
      have hb := ih b t w (by omega) (by omega)
      have hf := (bstT_far (n := n) (lk := lk) (ids := ids) (h0 := h0) t b).1
      have h1 := (bstT_succ (ids := ids) hn t a ha).2.2 b w.lt1 hl hf (by omega)
      obtain ⟨c', e, w'⟩ := bstT_is (ids := ids) hn (show 6 ≤ t + 1 by omega) ha
      have h2 := hc _ _ (((WkH.cons ha hl w).symm hs).trans w')
      simp only [hdLe] at h1
      omega

/-! ### Short walks -/
/-- A way by its places. -/
def PthH (lk : Nat → Nat → Bool) : List Nat → Nat → Prop
  | [], _ => False
  | [a], c => a = c
  | a :: b :: l, c => lk a b = true ∧ PthH lk (b :: l) c

theorem PthH.from {p : List Nat} {c : Nat} (h : PthH lk p c) : ∀ a, a ∈ p → p.Nodup → ∃ l, PthH lk (a :: l) c ∧ (a :: l).Nodup ∧ ∀ x ∈ a :: l, x ∈ p := by
  induction p with
  | nil => exact fun _ ha => by cases ha
  | cons x p ih =>
    intro a ha hd
    rcases List.mem_cons.1 ha with e | ha
    · subst e
      exact ⟨p, h, hd, fun y hy => hy⟩
    · cases p with
      | nil => cases ha
      | cons y l =>
        obtain ⟨l', h1, h2, h3⟩ := ih h.2 a ha (List.nodup_cons.1 hd).2
        exact ⟨l', h1, h2, fun z hz => List.mem_cons_of_mem _ (h3 z hz)⟩

theorem WkH.path {k a c : Nat} (h : WkH n lk k a c) : ∃ l, PthH lk (a :: l) c ∧ (a :: l).Nodup ∧ ∀ x ∈ a :: l, x < n := by
  induction k generalizing a with
  | zero => exact ⟨[], h.2, by simp, by simpa using h.1⟩
  | succ k ih =>
    obtain ⟨h, b, l, w⟩ := h
    obtain ⟨p, h1, h2, h3⟩ := ih w
    by_cases e : a ∈ b :: p
    · obtain ⟨q, g1, g2, g3⟩ := h1.from a e h2
      exact ⟨q, g1, g2, fun x hx => h3 x (g3 x hx)⟩
    · refine ⟨b :: p, ⟨l, h1⟩, List.nodup_cons.2 ⟨e, h2⟩, ?_⟩
      intro x hx
      rcases List.mem_cons.1 hx with e1 | hx
      · rw [e1]; exact h
      · exact h3 x hx

theorem PthH.walk {p : List Nat} {c : Nat} (h : PthH lk p c) : ∀ a l, p = a :: l → (∀ x ∈ p, x < n) → WkH n lk l.length a c := by
  induction p with
  | nil => exact fun _ _ e => by cases e
  | cons x p ih =>
    intro a l e hx
    cases e
    cases p with
    | nil => exact ⟨hx x (by simp), h⟩
    | cons b l => exact .cons (hx x (by simp)) h.1 (ih h.2 b l rfl fun y hy => hx y (List.mem_cons_of_mem _ hy))

theorem nodup_short : ∀ (n : Nat) (l : List Nat), l.Nodup → (∀ x ∈ l, x < n) → l.length ≤ n := by
  intro n
  induction n with
  | zero =>
    intro l _ h
    cases l with
    | nil => simp
    | cons x l => exact absurd (h x (by simp)) (by omega)
  | succ n ih =>
    intro l hd h
    have := ih (l.erase n) (hd.erase n) (by
      intro x hx
      have h1 := (hd.mem_erase_iff).1 hx
      have h2 := h x h1.2
      have h3 := h1.1
      omega)
    have h2 : l.length ≤ (l.erase n).length + 1 := by
      rw [List.length_erase]
      split <;> omega
    omega

theorem WkH.short {k a c : Nat} (h : WkH n lk k a c) : ∃ d, d < n ∧ WkH n lk d a c := by
  obtain ⟨l, h1, h2, h3⟩ := h.path
  have := nodup_short n _ h2 h3
  simp only [List.length_cons] at this
  exact ⟨l.length, by omega, h1.walk a l rfl h3⟩

theorem ex_least {P : Nat → Prop} (f : Nat → Nat) : ∀ v c, P c → f c ≤ v → ∃ c, P c ∧ ∀ b, P b → f c ≤ f b := by
  intro v
  induction v with
  | zero => exact fun c h e => ⟨c, h, fun b _ => by omega⟩
  | succ v ih =>
    intro c h e
    by_cases k : ∃ b, P b ∧ f b < f c
    · obtain ⟨b, hb, hl⟩ := k
      exact ih b hb (by omega)
    · exact ⟨c, h, fun b hb => Nat.le_of_not_lt fun hl => k ⟨b, hb, hl⟩⟩

/-- Whom one reaches. -/
def ConH (n : Nat) (lk : Nat → Nat → Bool) (a c : Nat) : Prop := ∃ k, WkH n lk k a c

theorem ex_center (ids : Nat → Nat) {a : Nat} (ha : a < n) : ∃ c, ConH n lk a c ∧ ∀ b, ConH n lk a b → ids c ≤ ids b :=
  ex_least ids (ids a) a ⟨0, .nil ha⟩ (Nat.le_refl _)

/-- After eleven rounds all know the least one. -/
theorem bstT_comes (hs : ∀ a b, lk a b = lk b a) (hn : ∀ a, a < n → OfNb n lk a (h0 a)) (h6 : n ≤ 6) {a t : Nat} (ha : a < n) (ht : 11 ≤ t) : ∃ c, ConH n lk a c ∧ (bstT n lk ids h0 t a).id = ids c ∧ ∀ b, ConH n lk a b → ids c ≤ ids b := by
  obtain ⟨c, ⟨k, hk⟩, hc⟩ := ex_center (lk := lk) ids ha
  obtain ⟨d, hd, w⟩ := hk.short
  have := bstT_least (ids := ids) (h0 := h0) hs hn (c := c) (fun j b hb => hc b ⟨_, hk.trans hb⟩) d a t w (by omega) (by omega)
  exact ⟨c, ⟨k, hk⟩, this.1, hc⟩

/-- From then on what is best stays, as near as it is. -/
theorem bstT_same (hs : ∀ a b, lk a b = lk b a) (hn : ∀ a, a < n → OfNb n lk a (h0 a)) (h6 : n ≤ 6) (hd : ∀ a b, a < n → b < n → ids a = ids b → a = b) {a t u : Nat} (ha : a < n) (ht : 11 ≤ t) (hu : 11 ≤ u) : (bstT n lk ids h0 t a).id = (bstT n lk ids h0 u a).id ∧ (bstT n lk ids h0 t a).far ≤ (bstT n lk ids h0 u a).far := by
  obtain ⟨c, ⟨k, hk⟩, hc⟩ := ex_center (lk := lk) ids ha
  obtain ⟨d, hdn, w⟩ := hk.short
  have hcc : ∀ j b, WkH n lk j c b → ids c ≤ ids b := fun j b hb => hc b ⟨_, hk.trans hb⟩
  have h1 := bstT_least (ids := ids) (h0 := h0) hs hn hcc d a t w (by omega) (by omega)
  have h2 := bstT_least (ids := ids) (h0 := h0) hs hn hcc d a u w (by omega) (by omega)
  refine ⟨h1.1.trans h2.1.symm, ?_⟩
  obtain ⟨c', e, w'⟩ := bstT_is (ids := ids) (h0 := h0) hn (show 6 ≤ u by omega) ha
  have ec : c' = c := hd c' c w'.lt2 w.lt2 (e.symm.trans h2.1)
  rw [ec] at w'
  have hf := (bstT_far (n := n) (lk := lk) (ids := ids) (h0 := h0) u a).1
  have h3 := bstT_least (ids := ids) (h0 := h0) hs hn hcc _ a t w' (by omega) (by omega)
  omega

/-- Whoever goes on by it comes a step nearer. -/
theorem bstT_way (hs : ∀ a b, lk a b = lk b a) (hn : ∀ a, a < n → OfNb n lk a (h0 a)) (h6 : n ≤ 6) (hd : ∀ a b, a < n → b < n → ids a = ids b → a = b) {a : Nat} (ha : a < n) : bstT n lk ids h0 12 a = hdOwn (ids a) ∨ ∃ b, b < n ∧ (bstT n lk ids h0 12 a).n = (b : Int) ∧ (bstT n lk ids h0 12 b).id = (bstT n lk ids h0 12 a).id ∧ (bstT n lk ids h0 12 a).far = (bstT n lk ids h0 12 b).far + 1 := by
  rcases (bstT_succ (ids := ids) hn 11 a ha).1 with e | ⟨b, hb, hl, h1, h2, e⟩
  · exact Or.inl e
  · right
    have k1 := bstT_same (ids := ids) (h0 := h0) hs hn h6 hd hb (show 11 ≤ 11 by omega) (show 11 ≤ 12 by omega)
    have k2 := bstT_same (ids := ids) (h0 := h0) hs hn h6 hd hb (show 11 ≤ 12 by omega) (show 11 ≤ 11 by omega)
    refine ⟨b, hb, by rw [e], by rw [e]; exact k2.1, ?_⟩
    rw [e]
    show (bstT n lk ids h0 11 b).far + 1 = _
    omega

/-! ### Who reaches whom -/
/-- A matrix with one place more considered: all of a phase's, some of them, and all phases. -/
def w1H (R : Nat → Nat → Bool) (k a b : Nat) : Bool := R a b || R a k && R k b
def midH (n : Nat) (R : Nat → Nat → Bool) (k a b : Nat) : Nat → Nat → Bool := fun x y => if (x < a ∧ y < n) ∨ (x = a ∧ y < b) then w1H R k x y else R x y
def phH (n : Nat) (R : Nat → Nat → Bool) (k : Nat) : Nat → Nat → Bool := fun x y => if x < n ∧ y < n then w1H R k x y else R x y
def warH (n : Nat) (R : Nat → Nat → Bool) : Nat → Nat → Nat → Bool
  | 0 => R
  | k + 1 => phH n (warH n R k) k

theorem w1H_col (R : Nat → Nat → Bool) (k a : Nat) : w1H R k a k = R a k := by unfold w1H; cases R a k <;> simp
theorem w1H_row (R : Nat → Nat → Bool) (k b : Nat) : w1H R k k b = R k b := by unfold w1H; cases R k b <;> simp
theorem midH_col (R : Nat → Nat → Bool) (k a b x : Nat) : midH n R k a b x k = R x k := by
  unfold midH
  split
  · exact w1H_col R k x
  · rfl
theorem midH_row (R : Nat → Nat → Bool) (k a b y : Nat) : midH n R k a b k y = R k y := by
  unfold midH
  split
  · exact w1H_row R k y
  · rfl
theorem midH_zero (R : Nat → Nat → Bool) (k : Nat) : midH n R k 0 0 = R := by
  funext x y
  unfold midH
  rw [if_neg (by omega)]
theorem midH_line (R : Nat → Nat → Bool) (k a : Nat) : midH n R k a n = midH n R k (a + 1) 0 := by
  funext x y
  unfold midH
  by_cases c : (x < a ∧ y < n) ∨ (x = a ∧ y < n)
  · rw [if_pos c, if_pos (by omega)]
  · rw [if_neg c, if_neg (by omega)]
theorem midH_all (R : Nat → Nat → Bool) (k : Nat) : midH n R k n 0 = phH n R k := by
  funext x y
  unfold midH phH
  by_cases c : x < n ∧ y < n
  · rw [if_pos c, if_pos (by omega)]
  · rw [if_neg c, if_neg (by omega)]
/-- One place of the matrix written. -/
def setH (R : Nat → Nat → Bool) (a b : Nat) (v : Bool) : Nat → Nat → Bool := fun x y => if x = a ∧ y = b then v else R x y
theorem midH_step (R : Nat → Nat → Bool) (k a b : Nat) : setH (midH n R k a b) a b (midH n R k a b a b || midH n R k a b a k && midH n R k a b k b) = midH n R k a (b + 1) := by
  rw [midH_col, midH_row]
  have e : midH n R k a b a b = R a b := by unfold midH; rw [if_neg (by omega)]
  rw [e]
  funext x y
  unfold setH
  by_cases c : x = a ∧ y = b
  · rw [if_pos c, c.1, c.2]
    unfold midH
    rw [if_pos (by omega)]
    rfl
  · rw [if_neg c]
    unfold midH
    by_cases d : (x < a ∧ y < n) ∨ (x = a ∧ y < b)
    · rw [if_pos d, if_pos (by omega)]
    · rw [if_neg d, if_neg (by omega)]

theorem phH_iff {R : Nat → Nat → Bool} {k a b : Nat} (ha : a < n) (hb : b < n) : phH n R k a b = true ↔ R a b = true ∨ (R a k = true ∧ R k b = true) := by
  unfold phH
  rw [if_pos ⟨ha, hb⟩]
  unfold w1H
  simp

theorem warH_sound {R : Nat → Nat → Bool} (h : ∀ a b, a < n → b < n → R a b = true → ConH n lk a b) : ∀ k, k ≤ n → ∀ a b, a < n → b < n → warH n R k a b = true → ConH n lk a b := by
  intro k
  induction k with
  | zero => exact fun _ => h
  | succ k ih =>
    intro hk a b ha hb hr
    rcases (phH_iff ha hb).1 hr with g | ⟨g1, g2⟩
    · exact ih (by omega) a b ha hb g
    · obtain ⟨i, w1⟩ := ih (by omega) a k ha (by omega) g1
      obtain ⟨j, w2⟩ := ih (by omega) k b (by omega) hb g2
      exact ⟨_, w1.trans w2⟩

theorem warH_more {R : Nat → Nat → Bool} : ∀ k a b, a < n → b < n → R a b = true → warH n R k a b = true := by
  intro k
  induction k with
  | zero => exact fun _ _ _ _ h => h
  | succ k ih => exact fun a b ha hb h => (phH_iff ha hb).2 (Or.inl (ih a b ha hb h))

theorem warH_closed {R : Nat → Nat → Bool} : ∀ k, k ≤ n → ∀ j a b, j < k → a < n → b < n → warH n R k a j = true → warH n R k j b = true → warH n R k a b = true := by
  intro k
  induction k with
  | zero => intro _ j _ _ hj; omega
  | succ k ih =>
    intro hk j a b hj ha hb h1 h2
    have ih := ih (by omega)
    rw [warH, phH_iff ha (by omega)] at h1
    rw [warH, phH_iff (by omega) hb] at h2
    rw [warH, phH_iff ha hb]
    by_cases e : j = k
    · subst e
      refine Or.inr ⟨?_, ?_⟩
      · rcases h1 with h | h
        · exact h
        · exact h.1
      · rcases h2 with h | h
        · exact h
        · exact h.2
    · have hj : j < k := by omega
      rcases h1 with h1 | ⟨h1, h1'⟩ <;> rcases h2 with h2 | ⟨h2, h2'⟩
      · exact Or.inl (ih j a b hj ha hb h1 h2)
      · exact Or.inr ⟨ih j a k hj ha (by omega) h1 h2, h2'⟩
      · exact Or.inr ⟨h1, ih j k b hj (by omega) hb h1' h2⟩
      · exact Or.inr ⟨h1, h2'⟩

/-- Behind all phases the matrix says who reaches whom. -/
theorem warH_is {R : Nat → Nat → Bool} (hR : ∀ a b, a < n → b < n → (R a b = true ↔ a = b ∨ lk a b = true)) (a b : Nat) (ha : a < n) (hb : b < n) : warH n R n a b = true ↔ ConH n lk a b := by
  constructor
  · refine warH_sound (fun x y hx hy h => ?_) n (Nat.le_refl n) a b ha hb
    rcases (hR x y hx hy).1 h with e | e
    · subst e
      exact ⟨0, .nil hx⟩
    · exact ⟨1, .cons hx e (.nil hy)⟩
  · rintro ⟨k, w⟩
    induction k generalizing a with
    | zero =>
      obtain ⟨h, e⟩ := w
      rw [← e]
      exact warH_more n _ _ h h ((hR _ _ h h).2 (Or.inl rfl))
    | succ k ih =>
      obtain ⟨h, x, l, w⟩ := w
      have hx := w.lt1
      exact warH_closed n (Nat.le_refl n) x a b hx ha hb (warH_more n _ _ h hx ((hR _ _ h hx).2 (Or.inr l))) (ih x hx w)

/-- The least identity of those that are reached, looked for one behind the other. -/
def lstH (R : Nat → Nat → Bool) (ids : Nat → Nat) (a : Nat) : Nat → Nat
  | 0 => ids a
  | k + 1 => if R a k = true ∧ ids k < lstH R ids a k then ids k else lstH R ids a k

theorem lstH_is (R : Nat → Nat → Bool) (ids : Nat → Nat) (a : Nat) : ∀ k, ((lstH R ids a k = ids a) ∨ ∃ c, c < k ∧ R a c = true ∧ lstH R ids a k = ids c) ∧ lstH R ids a k ≤ ids a ∧ ∀ c, c < k → R a c = true → lstH R ids a k ≤ ids c := by
  intro k
  induction k with
  | zero => exact ⟨Or.inl rfl, Nat.le_refl _, fun c h => absurd h (by omega)⟩
  | succ k ih =>
    obtain ⟨h1, h2, h3⟩ := ih
    by_cases c : R a k = true ∧ ids k < lstH R ids a k
    · rw [lstH, if_pos c]
      refine ⟨Or.inr ⟨k, by omega, c.1, rfl⟩, by omega, fun x hx hr => ?_⟩
      by_cases e : x = k
      · rw [e]; exact Nat.le_refl _
      · have := h3 x (by omega) hr
        omega
    · rw [lstH, if_neg c]
      refine ⟨?_, h2, fun x hx hr => ?_⟩
      · rcases h1 with h | ⟨x, hx, hr, h⟩
        · exact Or.inl h
        · exact Or.inr ⟨x, by omega, hr, h⟩
      · by_cases e : x = k
        · subst e
          exact Nat.le_of_not_lt fun hl => c ⟨hr, hl⟩
        · exact h3 x (by omega) hr

/-- P16.2 and P16.3. -/
theorem comes_pure (hs : ∀ a b, lk a b = lk b a) (hn : ∀ a, a < n → OfNb n lk a (h0 a)) (h6 : n ≤ 6) {R : Nat → Nat → Bool} (hR : ∀ a b, a < n → b < n → (R a b = true ↔ a = b ∨ lk a b = true)) {a : Nat} (ha : a < n) : (bstT n lk ids h0 12 a).id = lstH (warH n R n) ids a n := by
  obtain ⟨c, hc, e, hl⟩ := bstT_comes (ids := ids) (h0 := h0) hs hn h6 ha (show 11 ≤ 12 by omega)
  obtain ⟨h1, h2, h3⟩ := lstH_is (warH n R n) ids a n
  have hcn : c < n := by obtain ⟨k, w⟩ := hc; exact w.lt2
  have g1 := h3 c hcn ((warH_is hR a c ha hcn).2 hc)
  have g2 : ids c ≤ lstH (warH n R n) ids a n := by
    rcases h1 with h | ⟨b, hb, hr, h⟩
    · rw [h]; exact hl a ⟨0, .nil ha⟩
    · rw [h]; exact hl b ((warH_is hR a b ha hb).1 hr)
  omega

end
end Go.Proofs.Ytljihaihhnamfaa
