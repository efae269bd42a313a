/- Entries and lists of them, by keys. No program. -/
import Derived.Test.YtmpnepbmpmkmkaaDNum
namespace Go.Proofs.Ytmpnepbmpmkmkaa
open Classical
open Go.RowKit
theorem top_0 : 0 < top := by decide
def I64 (x : Int) : Prop := -9223372036854775808 ≤ x ∧ x < 9223372036854775808
theorem I64.z : I64 0 := ⟨by decide, by decide⟩
/-- A path's key. -/
structure Pa where
  who : Nat
  n : Int
def eqP (x y : Pa) : Bool := decide (x.who = y.who) && (decide (x.n = y.n))
@[simp] theorem eqP_eq (x y : Pa) : eqP x y = decide (x = y) := by
  obtain ⟨a0, a1⟩ := x
  obtain ⟨b0, b1⟩ := y
  simp [eqP]
/-- An entry. -/
structure En where
  p : Pa
  a : Nat
  b : Nat
  na : Int
  nb : Int
def eqE (x y : En) : Bool := eqP x.p y.p && (decide (x.a = y.a) && (decide (x.b = y.b) && (decide (x.na = y.na) && (decide (x.nb = y.nb)))))
@[simp] theorem eqE_eq (x y : En) : eqE x y = decide (x = y) := by
  obtain ⟨a0, a1, a2, a3, a4⟩ := x
  obtain ⟨b0, b1, b2, b3, b4⟩ := y
  simp [eqE]
structure Pa.ok (p : Pa) : Prop where
  who : p.who < top
  n : I64 p.n
structure En.ok (x : En) : Prop where
  p : x.p.ok
  a : x.a < top
  b : x.b < top
  na : I64 x.na
  nb : I64 x.nb
def zP : Pa := ⟨0, 0⟩
def zE : En := ⟨zP, 0, 0, 0, 0⟩
theorem zP_ok : zP.ok := ⟨top_0, I64.z⟩
theorem zE_ok : zE.ok := ⟨zP_ok, top_0, top_0, I64.z, I64.z⟩
/-- Keys in order, as numbers. -/
def ky (p : Pa) : Int := (p.who : Int) * 18446744073709551616 + p.n
theorem ky_lt {p q : Pa} (hp : p.ok) (hq : q.ok) : ky p < ky q ↔ p.who < q.who ∨ (p.who = q.who ∧ p.n < q.n) := by
  have h1 := hp.n
  have h2 := hq.n
  unfold I64 at h1 h2
  unfold ky
  omega
theorem ky_inj {p q : Pa} (hp : p.ok) (hq : q.ok) (h : ky p = ky q) : p = q := by
  have h1 := hp.n
  have h2 := hq.n
  unfold I64 at h1 h2
  unfold ky at h
  obtain ⟨u, m⟩ := p
  obtain ⟨v, k⟩ := q
  simp only at *
  have e1 : u = v := by omega
  have e2 : m = k := by omega
  rw [e1, e2]
def AllE (l : List En) : Prop := ∀ x ∈ l, x.ok
def KN (l : List En) : Prop := (l.map (·.p)).Nodup
def Ris (l : List En) : Prop := l.Pairwise fun x y => ky x.p < ky y.p
theorem AllE.at {l : List En} (h : AllE l) {j : Nat} (hj : j < l.length) : (l.getD j zE).ok := by
  have : l.getD j zE = l[j] := by simp [List.getD_eq_getElem?_getD, hj]
  rw [this]
  exact h _ (List.getElem_mem hj)
theorem AllE.nil : AllE [] := fun _ h => by cases h
theorem AllE.app {l m : List En} (h : AllE l) (k : AllE m) : AllE (l ++ m) := fun x hx => (List.mem_append.1 hx).elim (h x) (k x)
theorem AllE.one {x : En} (h : x.ok) : AllE [x] := fun y hy => by rw [List.mem_singleton.1 hy]; exact h
theorem AllE.fil {l : List En} (h : AllE l) (f : En → Bool) : AllE (l.filter f) := fun x hx => h x (List.mem_filter.1 hx).1
theorem Ris.kn {l : List En} (h : Ris l) : KN l := by
  unfold KN
  rw [List.nodup_iff_pairwise_ne, List.pairwise_map]
  exact List.Pairwise.imp (fun {x y} h e => by rw [e] at h; exact Int.lt_irrefl _ h) h
theorem KN.nodup {l : List En} (h : KN l) : l.Nodup := by
  rw [List.nodup_iff_pairwise_ne]
  unfold KN at h
  rw [List.nodup_iff_pairwise_ne, List.pairwise_map] at h
  exact List.Pairwise.imp (fun {x y} h e => h (by rw [e])) h
theorem KN.perm {l m : List En} (h : KN l) (p : l.Perm m) : KN m := (p.map _).nodup_iff.1 h
theorem KN.inj {l : List En} (h : KN l) {x y : En} (hx : x ∈ l) (hy : y ∈ l) (e : x.p = y.p) : x = y := by
  induction l with
  | nil => cases hx
  | cons z r ih =>
    unfold KN at h
    rw [List.map_cons, List.nodup_cons] at h
    rcases List.mem_cons.1 hx with e1 | hx1
    · rcases List.mem_cons.1 hy with e2 | hy1
      · rw [e1, e2]
      · exact absurd (by rw [← e1, e]; exact List.mem_map_of_mem hy1) h.1
    · rcases List.mem_cons.1 hy with e2 | hy1
      · exact absurd (by rw [← e2, ← e]; exact List.mem_map_of_mem hx1) h.1
      · exact ih h.2 hx1 hy1
theorem lt_both {x y : Int} (h1 : x < y) (h2 : y < x) {P : Prop} : P := by omega
theorem Ris.uniq {a b : List En} (ha : Ris a) (hb : Ris b) (h : a.Perm b) : a = b := by
  refine List.Perm.eq_of_pairwise (le := fun x y : En => ky x.p < ky y.p) ?_ ha hb h
  intro x y _ _ h1 h2
  exact lt_both (x := ky x.p) (y := ky y.p) h1 h2
theorem Ris.fil {l : List En} (h : Ris l) (f : En → Bool) : Ris (l.filter f) := List.Pairwise.filter _ h
/-- The entry of a key. -/
def getL (l : List En) (p : Pa) : Option En := l.find? fun x => eqP x.p p
def getV (l : List En) (p : Pa) : En := (getL l p).getD zE
def hasL (l : List En) (p : Pa) : Bool := (getL l p).isSome
theorem getL_some {l : List En} {p : Pa} {x : En} (h : getL l p = some x) : x ∈ l ∧ x.p = p := ⟨List.mem_of_find?_eq_some h, by simpa using List.find?_some h⟩
theorem getL_none {l : List En} {p : Pa} (h : getL l p = none) : ∀ x ∈ l, x.p ≠ p := fun x hx => by
  have := List.find?_eq_none.1 h x hx
  simpa using this
theorem getL_mem {l : List En} (h : KN l) {x : En} (hx : x ∈ l) : getL l x.p = some x := by
  cases e : getL l x.p with
  | none => exact absurd rfl (getL_none e x hx)
  | some y =>
    have := getL_some e
    rw [h.inj this.1 hx this.2]
theorem getV_ok {l : List En} (h : AllE l) (p : Pa) : (getV l p).ok := by
  unfold getV
  cases e : getL l p with
  | none => exact zE_ok
  | some y => exact h y (getL_some e).1
theorem hasL_iff {l : List En} {p : Pa} : hasL l p = true ↔ ∃ x ∈ l, x.p = p := by
  unfold hasL
  cases e : getL l p with
  | none => simpa using getL_none e
  | some y => simpa using ⟨y, (getL_some e).1, (getL_some e).2⟩
theorem hasL_no {l : List En} {p : Pa} (h : hasL l p = false) : ∀ x ∈ l, x.p ≠ p := fun x hx e => by
  have := hasL_iff.2 ⟨x, hx, e⟩
  rw [h] at this
  cases this
/-- An entry is put at its place. -/
def insL (x : En) : List En → List En
  | [] => [x]
  | y :: r => if ky y.p < ky x.p then y :: insL x r else x :: y :: r
theorem insL_perm (x : En) : ∀ l : List En, (insL x l).Perm (x :: l)
  | [] => List.Perm.refl _
  | y :: r => by
    unfold insL
    split
    · exact ((insL_perm x r).cons y).trans (List.Perm.swap x y r)
    · exact List.Perm.refl _
theorem insL_len (x : En) (l : List En) : (insL x l).length = l.length + 1 := (insL_perm x l).length_eq
theorem insL_mem {x y : En} {l : List En} : y ∈ insL x l ↔ y = x ∨ y ∈ l := by rw [(insL_perm x l).mem_iff, List.mem_cons]
theorem insL_all {x : En} {l : List En} (h : AllE l) (hx : x.ok) : AllE (insL x l) := fun y hy => (insL_mem.1 hy).elim (fun e => e ▸ hx) (h y)
theorem insL_ris {x : En} (hx : x.ok) : ∀ {l : List En}, AllE l → Ris l → (∀ y ∈ l, y.p ≠ x.p) → Ris (insL x l)
  | [], _, _, _ => by simp [insL, Ris]
  | y :: r, ha, h, hn => by
    unfold Ris at h
    rw [List.pairwise_cons] at h
    unfold insL
    split
    · rename_i hlt
      unfold Ris
      rw [List.pairwise_cons]
      refine ⟨fun z hz => ?_, insL_ris hx (fun z hz => ha z (List.mem_cons_of_mem _ hz)) h.2 (fun z hz => hn z (List.mem_cons_of_mem _ hz))⟩
      rcases insL_mem.1 hz with rfl | hz
      · exact hlt
      · exact h.1 z hz
    · rename_i hlt
      have hne : ky y.p ≠ ky x.p := fun e => hn y List.mem_cons_self (ky_inj (ha y List.mem_cons_self).p hx.p e)
      have hxy : ky x.p < ky y.p := by omega
      unfold Ris
      rw [List.pairwise_cons, List.pairwise_cons]
      refine ⟨fun z hz => ?_, h⟩
      rcases List.mem_cons.1 hz with rfl | hz
      · exact hxy
      · have := h.1 z hz
        omega
theorem insL_at (x : En) : ∀ (l : List En) (i : Nat), i ≤ l.length → (∀ k, k < i → ky (l.getD k zE).p < ky x.p) → (i < l.length → ¬ ky (l.getD i zE).p < ky x.p) → l.take i ++ x :: l.drop i = insL x l
  | [], i, hi, _, _ => by
    have : i = 0 := by simpa using hi
    subst this
    rfl
  | y :: r, 0, _, _, h => by
    have := h (by simp)
    simp at this
    unfold insL
    rw [if_neg (by omega)]
    rfl
  | y :: r, i + 1, hi, h1, h2 => by
    have h0 := h1 0 (by omega)
    simp at h0
    unfold insL
    rw [if_pos h0, List.take_succ_cons, List.drop_succ_cons, List.cons_append, insL_at x r i (by simpa using hi) (fun k hk => by have := h1 (k + 1) (by omega); simpa using this) (fun hk => by have := h2 (by simpa using hk); simpa using this)]
/-- An entry is taken out. -/
def delL (p : Pa) (l : List En) : List En := l.filter fun x => !eqP x.p p
theorem delL_no {p : Pa} {l : List En} (h : ∀ x ∈ l, x.p ≠ p) : delL p l = l := List.filter_eq_self.2 fun x hx => by simp [h x hx]
theorem delL_ris {p : Pa} {l : List En} (h : Ris l) : Ris (delL p l) := h.fil _
theorem delL_all {p : Pa} {l : List En} (h : AllE l) : AllE (delL p l) := h.fil _
theorem delL_mem {p : Pa} {l : List En} {x : En} : x ∈ delL p l ↔ x ∈ l ∧ x.p ≠ p := by simp [delL]
theorem delL_perm {l : List En} (h : KN l) {x : En} (hx : x ∈ l) : (x :: delL x.p l).Perm l := by
  refine (List.perm_ext_iff_of_nodup ?_ h.nodup).2 fun y => ?_
  · rw [List.nodup_cons]
    exact ⟨fun hm => (delL_mem.1 hm).2 rfl, List.Nodup.sublist List.filter_sublist h.nodup⟩
  · rw [List.mem_cons, delL_mem]
    constructor
    · rintro (rfl | h1)
      · exact hx
      · exact h1.1
    · intro hy
      by_cases e : y.p = x.p
      · exact .inl (h.inj hy hx e)
      · exact .inr ⟨hy, e⟩
/-- May an entry be? -/
def rgt (x : En) : Bool := !decide (x.a = x.b) && (decide (-1 ≤ x.na ∧ x.na < 6) && (decide (-1 ≤ x.nb ∧ x.nb < 6) && !decide (x.na = x.nb)))
theorem rgt_iff {x : En} : rgt x = true ↔ x.a ≠ x.b ∧ (-1 ≤ x.na ∧ x.na < 6) ∧ (-1 ≤ x.nb ∧ x.nb < 6) ∧ x.na ≠ x.nb := by
  unfold rgt
  simp only [Bool.and_eq_true, Bool.not_eq_true', decide_eq_true_eq, decide_eq_false_iff_not]
/-- What Add answers, and what it leaves. -/
def addC (room : Nat) (l : List En) (x : En) : Int := if rgt x = true then (if hasL l x.p = true then 7 else if room ≤ l.length then 5 else 0) else 1
def addL (room : Nat) (l : List En) (x : En) : List En := if addC room l x = 0 then insL x l else l
def viaF (n : Int) (x : En) : Bool := decide (0 ≤ n) && (decide (x.na = n) || decide (x.nb = n))
def ownF (x : En) : Bool := decide (x.na = -1) || decide (x.nb = -1)
theorem addC_0 {room : Nat} {l : List En} {x : En} (h : addC room l x = 0) : rgt x = true ∧ hasL l x.p = false ∧ l.length < room := by
  unfold addC at h
  split at h
  · rename_i h1
    split at h
    · omega
    · rename_i h2
      split at h
      · omega
      · exact ⟨h1, by simpa using h2, by omega⟩
  · omega
/-- What holds of a table's entries. -/
structure TI (room : Nat) (l : List En) : Prop where
  all : AllE l
  ris : Ris l
  fit : l.length ≤ room
  rgt : ∀ x ∈ l, rgt x = true
theorem TI.nil (room : Nat) : TI room [] := ⟨AllE.nil, by simp [Ris], Nat.zero_le _, fun _ h => by cases h⟩
theorem TI.add {room : Nat} {l : List En} (h : TI room l) {x : En} (hx : x.ok) : TI room (addL room l x) := by
  unfold addL
  split
  · rename_i e
    obtain ⟨h1, h2, h3⟩ := addC_0 e
    exact ⟨insL_all h.all hx, insL_ris hx h.all h.ris (hasL_no h2), by rw [insL_len]; omega, fun y hy => (insL_mem.1 hy).elim (fun e => e ▸ h1) (h.rgt y)⟩
  · exact h
theorem TI.del {room : Nat} {l : List En} (h : TI room l) (p : Pa) : TI room (delL p l) := ⟨delL_all h.all, delL_ris h.ris, Nat.le_trans (List.length_filter_le _ _) h.fit, fun y hy => h.rgt y (delL_mem.1 hy).1⟩
def rmF (most : Int) : Nat := (min (max most 0) 128).toNat
end Go.Proofs.Ytmpnepbmpmkmkaa
