/- Lists of identities as numbers: rising by a key, who is wanted of whom, who is next. No program. -/
import Derived.Test.YtjahegiopigblaaHW14
namespace Go.Proofs.Ytjahegiopigblaa
open Go.RowKit
/-- Rising by a key, no two alike. -/
def Risi (k : Nat → Nat) (l : List Nat) : Prop := l.Pairwise fun x y => k x < k y
def Inj (k : Nat → Nat) : Prop := ∀ x y, x < top → y < top → k x = k y → x = y
def All (l : List Nat) : Prop := ∀ x ∈ l, x < top
theorem Risi.nodup {k : Nat → Nat} {l : List Nat} (h : Risi k l) : l.Nodup := by
  rw [List.nodup_iff_pairwise_ne]
  exact List.Pairwise.imp (fun h e => by subst e; exact Nat.lt_irrefl _ h) h
theorem Risi.uniq {k : Nat → Nat} {a b : List Nat} (ha : Risi k a) (hb : Risi k b) (h : ∀ x, x ∈ a ↔ x ∈ b) : a = b :=
  List.Perm.eq_of_pairwise (le := fun x y => k x < k y) (fun _ _ _ _ h1 h2 => absurd h1 (Nat.lt_asymm h2)) ha hb ((List.perm_ext_iff_of_nodup ha.nodup hb.nodup).2 h)
theorem Risi.perm {k k' : Nat → Nat} {a b : List Nat} (ha : Risi k a) (hb : Risi k' b) (h : ∀ x, x ∈ a ↔ x ∈ b) : a.Perm b := (List.perm_ext_iff_of_nodup ha.nodup hb.nodup).2 h
/-- An identity is put at its place. -/
def insK (k : Nat → Nat) (x : Nat) (out : List Nat) : List Nat := out.takeWhile (fun y => decide (k y < k x)) ++ x :: out.dropWhile (fun y => decide (k y < k x))
def linS (k : Nat → Nat) (wo : Nat) (out : List Nat) (x : Nat) : List Nat := if x = wo ∨ x ∈ out then out else insK k x out
/-- Identities by a key, each once, without one. -/
def lin (k : Nat → Nat) (wo : Nat) (l : List Nat) : List Nat := l.foldl (linS k wo) []
theorem insK_cons (k : Nat → Nat) (x y : Nat) (r : List Nat) : insK k x (y :: r) = if k y < k x then y :: insK k x r else x :: y :: r := by
  unfold insK
  by_cases h : k y < k x
  · simp [h]
  · simp [h]
theorem insK_mem (k : Nat → Nat) (x y : Nat) (out : List Nat) : y ∈ insK k x out ↔ y = x ∨ y ∈ out := by
  induction out with
  | nil => simp [insK]
  | cons z r ih =>
    rw [insK_cons]
    split
    · rw [List.mem_cons, ih, List.mem_cons]
      constructor
      · rintro (h | h | h)
        · exact .inr (.inl h)
        · exact .inl h
        · exact .inr (.inr h)
      · rintro (h | h | h)
        · exact .inr (.inl h)
        · exact .inl h
        · exact .inr (.inr h)
    · rw [List.mem_cons]
theorem insK_ris {k : Nat → Nat} (hk : Inj k) {x : Nat} (hx : x < top) {out : List Nat} (ho : All out) (hn : x ∉ out) (h : Risi k out) : Risi k (insK k x out) := by
  induction out with
  | nil => simp [insK, Risi]
  | cons y r ih =>
    unfold Risi at h
    rw [List.pairwise_cons] at h
    rw [insK_cons]
    by_cases hlt : k y < k x
    · rw [if_pos hlt]
      unfold Risi
      rw [List.pairwise_cons]
      refine ⟨fun z hz => ?_, ih (fun z hz => ho z (List.mem_cons_of_mem _ hz)) (fun hm => hn (List.mem_cons_of_mem _ hm)) h.2⟩
      rcases (insK_mem k x z r).1 hz with rfl | hz
      · exact hlt
      · exact h.1 z hz
    · rw [if_neg hlt]
      have hne : k x ≠ k y := fun e => hn (by rw [hk x y hx (ho y List.mem_cons_self) e]; exact List.mem_cons_self)
      have hxy : k x < k y := by omega
      unfold Risi
      rw [List.pairwise_cons, List.pairwise_cons]
      refine ⟨fun z hz => ?_, h⟩
      rcases List.mem_cons.1 hz with rfl | hz
      · exact hxy
      · exact Nat.lt_trans hxy (h.1 z hz)
theorem fold_spec {k : Nat → Nat} (hk : Inj k) (wo : Nat) : ∀ (l out : List Nat), Risi k out → All out → All l → wo ∉ out → Risi k (l.foldl (linS k wo) out) ∧ ∀ y, y ∈ l.foldl (linS k wo) out ↔ y ∈ out ∨ (y ∈ l ∧ y ≠ wo)
  | [], out, h, _, _, _ => ⟨h, fun y => by simp⟩
  | x :: r, out, h, ho, hl, hw => by
    have hx := hl x List.mem_cons_self
    have hr : All r := fun y hy => hl y (List.mem_cons_of_mem _ hy)
    rw [List.foldl_cons]
    unfold linS
    by_cases hc : x = wo ∨ x ∈ out
    · rw [if_pos hc]
      obtain ⟨h1, h2⟩ := fold_spec hk wo r out h ho hr hw
      refine ⟨h1, fun y => ?_⟩
      rw [show List.foldl (fun out x => if x = wo ∨ x ∈ out then out else insK k x out) out r = List.foldl (linS k wo) out r from rfl, h2 y, List.mem_cons]
      constructor
      · rintro (h | ⟨h, h'⟩)
        · exact .inl h
        · exact .inr ⟨.inr h, h'⟩
      · rintro (h | ⟨rfl | h, h'⟩)
        · exact .inl h
        · exact hc.elim (fun e => absurd e h') .inl
        · exact .inr ⟨h, h'⟩
    · rw [if_neg hc]
      have h3 : x ≠ wo := fun e => hc (.inl e)
      have h4 : x ∉ out := fun e => hc (.inr e)
      obtain ⟨h1, h2⟩ := fold_spec hk wo r (insK k x out) (insK_ris hk hx ho h4 h) (fun y hy => ((insK_mem k x y out).1 hy).elim (fun e => e ▸ hx) (ho y)) hr (fun hm => ((insK_mem k x wo out).1 hm).elim (fun e => h3 e.symm) hw)
      refine ⟨h1, fun y => ?_⟩
      rw [show List.foldl (fun out x => if x = wo ∨ x ∈ out then out else insK k x out) (insK k x out) r = List.foldl (linS k wo) (insK k x out) r from rfl, h2 y, insK_mem, List.mem_cons]
      constructor
      · rintro ((rfl | h) | ⟨h, h'⟩)
        · exact .inr ⟨.inl rfl, h3⟩
        · exact .inl h
        · exact .inr ⟨.inr h, h'⟩
      · rintro (h | ⟨rfl | h, h'⟩)
        · exact .inl (.inr h)
        · exact .inl (.inl rfl)
        · exact .inr ⟨h, h'⟩
section
variable {k : Nat → Nat} {wo : Nat} {l : List Nat}
theorem lin_ris (hk : Inj k) (hl : All l) : Risi k (lin k wo l) := (fold_spec hk wo l [] List.Pairwise.nil (fun _ h => by cases h) hl (fun h => by cases h)).1
theorem lin_mem (hk : Inj k) (hl : All l) (y : Nat) : y ∈ lin k wo l ↔ y ∈ l ∧ y ≠ wo := by
  rw [lin, (fold_spec hk wo l [] List.Pairwise.nil (fun _ h => by cases h) hl (fun h => by cases h)).2 y]
  simp
theorem lin_all (hk : Inj k) (hl : All l) : All (lin k wo l) := fun x hx => hl x ((lin_mem hk hl x).1 hx).1
theorem lin_not (hk : Inj k) (hl : All l) : wo ∉ lin k wo l := fun h => ((lin_mem hk hl wo).1 h).2 rfl
/-- There is just one such list. -/
theorem lin_eq (hk : Inj k) (hl : All l) {L : List Nat} (hL : Risi k L) (hm : ∀ x, x ∈ L ↔ x ∈ l ∧ x ≠ wo) : L = lin k wo l :=
  hL.uniq (lin_ris hk hl) fun x => by rw [hm, lin_mem hk hl]
theorem lin_snoc (x : Nat) : lin k wo (l ++ [x]) = linS k wo (lin k wo l) x := by simp [lin]
end
/-! ### The two ways -/
theorem subN_if {a b : Nat} (ha : a < top) (hb : b < top) : subN a b = if b ≤ a then a - b else a + top - b := by
  unfold subN
  split
  · rw [Nat.mod_eq_sub_mod (by omega), Nat.mod_eq_of_lt (by omega)]
    omega
  · exact Nat.mod_eq_of_lt (by omega)
/-- How far it is clockwise from one; the other way. -/
def kc (s x : Nat) : Nat := subN x s
def kl (s x : Nat) : Nat := subN s x
theorem kc_if {s x : Nat} (hs : s < top) (hx : x < top) : kc s x = if s ≤ x then x - s else x + top - s := subN_if hx hs
theorem kc_0 {x : Nat} (hx : x < top) : kc 0 x = x := by rw [kc_if (by decide) hx]; simp
theorem kc_inj {s : Nat} (hs : s < top) : Inj (kc s) := fun x y hx hy h => by
  rw [kc_if hs hx, kc_if hs hy] at h
  split at h <;> split at h <;> omega
theorem top_0i : 0 < top := by decide
/-! ### How many are ahead -/
def cR (s : Nat) (L : List Nat) (x : Nat) : Nat := L.countP fun y => decide (kc s y < kc s x)
def cL (s : Nat) (L : List Nat) (x : Nat) : Nat := L.countP fun y => decide (kl s y < kl s x)
def isW (s : Nat) (L : List Nat) (half : Int) (x : Nat) : Bool := decide ((cR s L x : Int) < half) || decide ((cL s L x : Int) < half)
/-- Who is wanted. -/
def want (s : Nat) (l : List Nat) (half : Int) : List Nat := (lin (kc 0) s l).filter (isW s (lin (kc 0) s l) half)
end Go.Proofs.Ytjahegiopigblaa
