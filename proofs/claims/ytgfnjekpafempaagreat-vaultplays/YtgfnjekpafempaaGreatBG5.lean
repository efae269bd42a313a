import Derived.Test.YtgfnjekpafempaaGreatBB2
namespace Go.Proofs.YtgfnjekpafempaaGreat
structure It where
  key : Nat
  n : Nat
  who : Nat
  val : List Nat
structure It.ok (x : It) : Prop where
  key : x.key < top
  n1 : 1 ≤ x.n
  n2 : x.n < 4611686018427387904
  who : x.who < top
  len : x.val.length ≤ 64
  byte : ∀ b ∈ x.val, b < 256
def nwr (a b : It) : Bool := decide (b.n < a.n ∨ (a.n = b.n ∧ b.who < a.who))
theorem Vf {a b : It} : nwr a b = true ↔ b.n < a.n ∨ (a.n = b.n ∧ b.who < a.who) := by unfold nwr; rw [decide_eq_true_eq]
theorem Zy (a : It) : nwr a a = false := decide_eq_false (by omega)
theorem nwr_le {a b c : It} (h : nwr a b = false) (k : nwr b c = false) : nwr a c = false := by
  rw [Bool.eq_false_iff, ne_eq, Vf] at *
  omega
theorem nwr_asy {a b : It} (h : nwr a b = true) : nwr b a = false := by
  rw [Bool.eq_false_iff, ne_eq, Vf]
  rw [Vf] at h
  omega
/-! ### Items by keys -/
def lkV (L : List It) (k : Nat) : Option It := L.find? fun x => decide (x.key = k)
def SKv (L : List It) : Prop := L.Pairwise fun x y => x.key < y.key
def tkV (L : List It) (x : It) : List It := match lkV L x.key with
  | some y => if nwr x y = true then L.filter (fun z => decide (z.key < x.key)) ++ x :: L.filter (fun z => decide (x.key < z.key)) else L
  | none => L.filter (fun z => decide (z.key < x.key)) ++ x :: L.filter (fun z => decide (x.key < z.key))
theorem yC {L : List It} {k : Nat} {y : It} (h : lkV L k = some y) : y ∈ L ∧ y.key = k := ⟨List.mem_of_find?_eq_some h, by simpa using List.find?_some h⟩
theorem jdx {L : List It} {k : Nat} (h : lkV L k = none) : ∀ y ∈ L, y.key ≠ k := fun y hy e => by
  have := List.find?_eq_none.1 h y hy
  simp [e] at this
theorem vU {L : List It} (hL : SKv L) {y : It} (h : y ∈ L) : lkV L y.key = some y := by
  induction L with
  | nil => cases h
  | cons z L ih =>
    have hL' := List.pairwise_cons.1 hL
    unfold lkV
    rw [List.find?_cons]
    rcases List.mem_cons.1 h with rfl | h
    · simp
    · have := hL'.1 y h
      rw [decide_eq_false (by omega)]
      exact ih hL'.2 h
theorem lkV_ext {L M : List It} (hL : SKv L) (hM : SKv M) (h : ∀ k, lkV L k = lkV M k) : L = M := by
  have hm : ∀ x, x ∈ L ↔ x ∈ M := fun x => ⟨fun hx => (yC ((h x.key).symm.trans (vU hL hx))).1, fun hx => (yC ((h x.key).trans (vU hM hx))).1⟩
  have nd : ∀ {A : List It}, SKv A → A.Nodup := fun hA => by
    rw [List.nodup_iff_pairwise_ne]
    exact List.Pairwise.imp (fun h e => by subst e; exact Nat.lt_irrefl _ h) hA
  exact List.Perm.eq_of_pairwise (le := fun x y : It => x.key < y.key) (fun (x y : It) _ _ (h1 : x.key < y.key) (h2 : y.key < x.key) => absurd h1 (Nat.lt_asymm h2)) hL hM ((List.perm_ext_iff_of_nodup (nd hL) (nd hM)).2 hm)
theorem Qe {L : List It} (hL : SKv L) (x : It) : SKv (L.filter (fun z => decide (z.key < x.key)) ++ x :: L.filter (fun z => decide (x.key < z.key))) := by
  refine List.pairwise_append.2 ⟨List.Pairwise.filter _ hL, List.pairwise_cons.2 ⟨fun y hy => of_decide_eq_true (List.mem_filter.1 hy).2, List.Pairwise.filter _ hL⟩, fun a ha b hb => ?_⟩
  have h1 := of_decide_eq_true (List.mem_filter.1 ha).2
  rcases List.mem_cons.1 hb with rfl | hb
  · exact h1
  · have h2 := of_decide_eq_true (List.mem_filter.1 hb).2
    omega
theorem YR {L : List It} (hL : SKv L) (x : It) : SKv (tkV L x) := by
  unfold tkV
  split
  · split
    · exact Qe hL x
    · exact hL
  · exact Qe hL x
theorem jcy {L : List It} (hL : SKv L) (x : It) (k : Nat) : lkV (L.filter (fun z => decide (z.key < x.key)) ++ x :: L.filter (fun z => decide (x.key < z.key))) k = if k = x.key then some x else lkV L k := by
  have hS := Qe hL x
  by_cases e : k = x.key
  · rw [if_pos e, e]
    exact vU hS (by simp)
  · rw [if_neg e]
    cases h : lkV L k with
    | some y =>
      obtain ⟨h1, h2⟩ := yC h
      have : y ∈ L.filter (fun z => decide (z.key < x.key)) ++ x :: L.filter (fun z => decide (x.key < z.key)) := by
        rw [List.mem_append, List.mem_cons, List.mem_filter, List.mem_filter, decide_eq_true_eq, decide_eq_true_eq]
        rcases Nat.lt_or_gt_of_ne (fun c => e (h2.symm.trans c) : y.key ≠ x.key) with c | c
        · exact .inl ⟨h1, c⟩
        · exact .inr (.inr ⟨h1, c⟩)
      have := vU hS this
      rwa [h2] at this
    | none =>
      cases g : lkV (L.filter (fun z => decide (z.key < x.key)) ++ x :: L.filter (fun z => decide (x.key < z.key))) k with
      | none => rfl
      | some y =>
        obtain ⟨h1, h2⟩ := yC g
        have hn := jdx h
        rw [List.mem_append, List.mem_cons, List.mem_filter, List.mem_filter] at h1
        rcases h1 with h1 | h1 | h1
        · exact absurd h2 (hn y h1.1)
        · rw [h1] at h2; exact absurd h2.symm e
        · exact absurd h2 (hn y h1.1)
def pickV (x : It) : Option It → Option It
  | some y => if nwr x y = true then some x else some y
  | none => some x
theorem YQ {L : List It} (hL : SKv L) (x : It) (k : Nat) : lkV (tkV L x) k = if k = x.key then pickV x (lkV L k) else lkV L k := by
  unfold tkV
  cases h : lkV L x.key with
  | none =>
    simp only
    rw [jcy hL]
    by_cases e : k = x.key
    · rw [if_pos e, if_pos e, e, h]; rfl
    · rw [if_neg e, if_neg e]
  | some y =>
    simp only
    by_cases c : nwr x y = true
    · rw [if_pos c, jcy hL]
      by_cases e : k = x.key
      · rw [if_pos e, if_pos e, e, h]; simp [pickV, c]
      · rw [if_neg e, if_neg e]
    · rw [if_neg c]
      by_cases e : k = x.key
      · rw [if_pos e, e, h]; simp [pickV, c]
      · rw [if_neg e]
theorem Zo {L : List It} {x z : It} (h : z ∈ tkV L x) : z ∈ L ∨ z = x := by
  unfold tkV at h
  have key : z ∈ L.filter (fun z => decide (z.key < x.key)) ++ x :: L.filter (fun z => decide (x.key < z.key)) → z ∈ L ∨ z = x := fun h => by
    rw [List.mem_append, List.mem_cons, List.mem_filter, List.mem_filter] at h
    rcases h with h | h | h
    · exact .inl h.1
    · exact .inr h
    · exact .inl h.1
  split at h
  · split at h
    · exact key h
    · exact .inl h
  · exact key h
theorem tkV_new {L : List It} (hL : SKv L) (x : It) : ∃ y, lkV (tkV L x) x.key = some y ∧ nwr x y = false := by
  rw [YQ hL, if_pos rfl]
  cases h : lkV L x.key with
  | none => exact ⟨x, rfl, Zy x⟩
  | some y =>
    by_cases c : nwr x y = true
    · exact ⟨x, by simp [pickV, c], Zy x⟩
    · exact ⟨y, by simp [pickV, c], Bool.eq_false_iff.2 c⟩
theorem tkV_old {L : List It} (hL : SKv L) (x : It) {k : Nat} {y : It} (h : lkV L k = some y) : ∃ z, lkV (tkV L x) k = some z ∧ nwr y z = false := by
  rw [YQ hL]
  by_cases e : k = x.key
  · rw [if_pos e, h]
    by_cases c : nwr x y = true
    · exact ⟨x, by simp [pickV, c], nwr_asy c⟩
    · exact ⟨y, by simp [pickV, c], Zy y⟩
  · rw [if_neg e]
    exact ⟨y, h, Zy y⟩
theorem VI {L : List It} (x : It) {y : It} (h : lkV L x.key = some y) (c : nwr x y = false) : tkV L x = L := by
  unfold tkV
  rw [h]
  simp only
  rw [if_neg (by rw [c]; decide)]
/-! ### Records -/
def begV (n : Nat) : List Nat := numL 1 ++ numL n
def formV (x : It) : List Nat := numL 2 ++ (beL 16 x.key ++ (numL x.n ++ (beL 16 x.who ++ textL x.val)))
def readV (r : List Nat) : Option (Nat ⊕ It) :=
  if (getE r 0).2.2 ≠ 0 then none else
  if (getE r 0).1 = 1 then
    (if (getE r (getE r 0).2.1).2.2 = 0 ∧ (getE r (getE r 0).2.1).2.1 = r.length ∧ 1 ≤ (getE r (getE r 0).2.1).1 ∧ (getE r (getE r 0).2.1).1 ≤ 1048576 then some (.inl (getE r (getE r 0).2.1).1) else none)
  else if (getE r 0).1 = 2 then
    let a := (getE r 0).2.1
    if r.length - a < 16 then none else
    let b := getE r ((a + 16 : Nat) : Int)
    if b.2.2 ≠ 0 ∨ b.1 < 1 ∨ 4611686018427387904 ≤ b.1 then none else
    if r.length - b.2.1 < 16 then none else
    let t := getT r ((b.2.1 + 16 : Nat) : Int) 64
    if t.2.2 ≠ 0 ∨ t.2.1 ≠ r.length then none else some (.inr ⟨valL ((r.drop a).take 16), b.1, valL ((r.drop (b.2.1)).take 16), t.1⟩)
  else none
theorem getT_at (pre s : List Nat) (hs : s.length < lim) (m : Int) (hm : (s.length : Int) ≤ m) : getT (pre ++ textL s) (pre.length : Int) m = (s, (pre ++ textL s).length, 0) := by
  have h := uk pre s s.length hs
  unfold getT textL
  rw [h]
  simp only [ne_eq, not_true_eq_false, if_false]
  rw [if_neg (by omega), if_neg (by simp; omega)]
  have e : pre ++ (numL s.length ++ s) = (pre ++ numL s.length) ++ s := by simp
  have e2 : pre.length + (numL s.length).length = (pre ++ numL s.length).length := by simp
  rw [e, e2, List.drop_left, List.take_length, @List.length_append _ (pre ++ numL s.length) _]
theorem lim_1 : 1 < lim := by decide
theorem lim_2 : 2 < lim := by decide
theorem rdv_beg {n : Nat} (h1 : 1 ≤ n) (h2 : n ≤ 1048576) : readV (begV n) = some (.inl n) := by
  have e0 : getE (begV n) 0 = (1, 2, 0) := uk [] (numL n) 1 lim_1
  have e1 : getE (begV n) ((2 : Nat) : Int) = (n, (begV n).length, 0) := by
    have := uk (numL 1) [] n (by unfold lim; omega)
    rw [List.append_nil] at this
    have hl : (begV n).length = (numL 1).length + (numL n).length := by unfold begV; rw [List.length_append]
    rw [hl]
    exact this
  unfold readV
  rw [e0]
  simp only [ne_eq, not_true_eq_false, if_false, if_true]
  rw [e1]
  simp only
  rw [if_pos ⟨trivial, trivial, h1, h2⟩]
theorem jct {x : It} (hx : x.ok) (ht : top = 256 ^ 16) : readV (formV x) = some (.inr x) := by
  have hn : x.n < lim := by have := hx.n2; unfold lim; omega
  have hv : x.val.length < lim := by have := hx.len; unfold lim; omega
  have hk : valL (beL 16 x.key) = x.key := yR 16 _ (by rw [← ht]; exact hx.key)
  have hw : valL (beL 16 x.who) = x.who := yR 16 _ (by rw [← ht]; exact hx.who)
  have e0 : getE (formV x) 0 = (2, 2, 0) := uk [] (beL 16 x.key ++ (numL x.n ++ (beL 16 x.who ++ textL x.val))) 2 lim_2
  have l1 : (numL 2 ++ beL 16 x.key).length = 18 := by rw [List.length_append, jL]; rfl
  have f1 : formV x = (numL 2 ++ beL 16 x.key) ++ (numL x.n ++ (beL 16 x.who ++ textL x.val)) := by unfold formV; simp
  have e1 : getE (formV x) ((2 + 16 : Nat) : Int) = (x.n, 18 + (numL x.n).length, 0) := by
    have := uk (numL 2 ++ beL 16 x.key) (beL 16 x.who ++ textL x.val) x.n hn
    rw [l1, ← f1] at this
    exact this
  have l2 : (numL 2 ++ beL 16 x.key ++ numL x.n).length = 18 + (numL x.n).length := by rw [List.length_append, l1]
  have f2 : formV x = (numL 2 ++ beL 16 x.key ++ numL x.n) ++ (beL 16 x.who ++ textL x.val) := by unfold formV; simp
  have l3 : (numL 2 ++ beL 16 x.key ++ numL x.n ++ beL 16 x.who).length = 18 + (numL x.n).length + 16 := by rw [List.length_append, l2, jL]
  have f3 : formV x = (numL 2 ++ beL 16 x.key ++ numL x.n ++ beL 16 x.who) ++ textL x.val := by unfold formV; simp
  have e3 : getT (formV x) ((18 + (numL x.n).length + 16 : Nat) : Int) 64 = (x.val, (formV x).length, 0) := by
    have := getT_at (numL 2 ++ beL 16 x.key ++ numL x.n ++ beL 16 x.who) x.val hv 64 (by have := hx.len; omega)
    rw [l3, ← f3] at this
    exact this
  have d1 : ((formV x).drop 2).take 16 = beL 16 x.key := by
    have : formV x = numL 2 ++ (beL 16 x.key ++ (numL x.n ++ (beL 16 x.who ++ textL x.val))) := rfl
    have h2 : (numL 2).length = 2 := rfl
    generalize numL 2 = A at this h2
    rw [this, ← h2, List.drop_left, List.take_left' (jL 16 _)]
  have d2 : ((formV x).drop (18 + (numL x.n).length)).take 16 = beL 16 x.who := by
    rw [f2, ← l2, List.drop_left, List.take_left' (jL 16 _)]
  have hlen : (formV x).length = 18 + (numL x.n).length + 16 + (textL x.val).length := by rw [f3, List.length_append, l3]
  unfold readV
  rw [e0]
  simp only [ne_eq, not_true_eq_false, if_false, show ((2 : Nat) = 1) = False by simp, if_true]
  rw [e1]
  simp only
  rw [if_neg (by omega), if_neg (by have := hx.n1; have := hx.n2; simp; omega), if_neg (by omega), e3]
  simp only
  rw [if_neg (by simp), d1, d2, hk, hw]
def hldS (s : List It × Nat) : Nat ⊕ It → Option (List It × Nat)
  | .inl n => if s.2 < n then some (s.1, n) else none
  | .inr x => some (tkV s.1 x, s.2)
def hldR (s : List It × Nat) (r : List Nat) : Option (List It × Nat) := (readV r).bind (hldS s)
def hld (rs : List (List Nat)) : Option (List It × Nat) := rs.foldlM hldR ([], 0)
theorem Kh : hld [] = some ([], 0) := rfl
theorem vc (rs : List (List Nat)) (r : List Nat) : hld (rs ++ [r]) = (hld rs).bind fun s => hldR s r := by
  unfold hld
  rw [List.foldlM_append]
  simp
theorem Kj {rs : List (List Nat)} {L : List It} {c n : Nat} (h : hld rs = some (L, c)) (hn : c < n) (hm : n ≤ 1048576) : hld (rs ++ [begV n]) = some (L, n) := by
  rw [vc, h, Option.bind_some]
  unfold hldR
  rw [rdv_beg (by omega) hm, Option.bind_some]
  simp only [hldS]
  rw [if_pos hn]
theorem Yb {rs : List (List Nat)} {L : List It} {c : Nat} (h : hld rs = some (L, c)) {x : It} (hx : x.ok) (ht : top = 256 ^ 16) : hld (rs ++ [formV x]) = some (tkV L x, c) := by
  rw [vc, h, Option.bind_some]
  unfold hldR
  rw [jct hx ht, Option.bind_some]
  simp only [hldS]
theorem jeb {rs : List (List Nat)} : ∀ {s s' : List It × Nat}, SKv s.1 → rs.foldlM hldR s = some s' → SKv s'.1 := by
  induction rs with
  | nil => intro s s' h e; cases e; exact h
  | cons r rs ih =>
    intro s s' h e
    rw [List.foldlM_cons] at e
    cases g : hldR s r with
    | none => rw [g] at e; cases e
    | some t =>
      rw [g] at e
      refine ih ?_ e
      unfold hldR at g
      cases q : readV r with
      | none => rw [q] at g; cases g
      | some v =>
        rw [q] at g
        cases v with
        | inl n =>
          have g' : (if s.2 < n then some (s.1, n) else none) = some t := g
          split at g'
          · cases g'; exact h
          · cases g'
        | inr x =>
          have g' : some (tkV s.1 x, s.2) = some t := g
          cases g'
          exact YR h x
/-! ### Bounds -/
theorem Uq {x : Nat} (h : x ≤ 255) : nb x ≤ 1 := by
  unfold nb
  split
  · omega
  · rw [if_pos (by omega)]; omega
theorem UA {x : It} (hx : x.ok) : (formV x).length ≤ 109 := by
  have h1 := zL x.n
  have h2 := Uq (show x.val.length ≤ 255 by have := hx.len; omega)
  have h3 := hx.len
  unfold formV textL
  simp only [List.length_append, zG, jL]
  have h4 := Uq (show 2 ≤ 255 by omega)
  omega
theorem QD {r : List Nat} (hr : ∀ b ∈ r, b < 256) (a : Nat) (ha : ¬ r.length - a < 16) (ht : top = 256 ^ 16) : valL ((r.drop a).take 16) < top := by
  rw [ht]
  exact uo 16 _ (by rw [List.length_take, List.length_drop]; omega) fun b hb => hr b (List.mem_of_mem_drop (List.mem_of_mem_take hb))
theorem Kn {r : List Nat} (hr : ∀ b ∈ r, b < 256) (i m : Int) (h : (getT r i m).2.2 = 0) : ((getT r i m).1.length : Int) ≤ m ∧ ∀ b ∈ (getT r i m).1, b < 256 := by
  unfold getT at h ⊢
  split at h
  · rename_i h1; rw [if_pos h1]; exact absurd h h1
  · rename_i h1
    rw [if_neg h1]
    split at h
    · cases h
    · rename_i h2
      rw [if_neg h2]
      split at h
      · cases h
      · rename_i h3
        rw [if_neg h3]
        refine ⟨?_, fun b hb => hr b (List.mem_of_mem_drop (List.mem_of_mem_take hb))⟩
        simp only [List.length_take, List.length_drop]
        omega
theorem jcs {r : List Nat} (hr : ∀ b ∈ r, b < 256) (ht : top = 256 ^ 16) {x : It} (h : readV r = some (.inr x)) : x.ok := by
  unfold readV at h
  split at h
  · cases h
  split at h
  · split at h <;> cases h
  split at h
  · simp only at h
    split at h
    · cases h
    rename_i h1
    split at h
    · cases h
    rename_i h2
    split at h
    · cases h
    rename_i h3
    split at h
    · cases h
    rename_i h4
    cases h
    have ht4 := Kn hr _ 64 (by omega : (getT r (((getE r (((getE r 0).2.1 + 16 : Nat) : Int)).2.1 + 16 : Nat) : Int) 64).2.2 = 0)
    have n1 : 1 ≤ (getE r (((getE r 0).2.1 + 16 : Nat) : Int)).1 := by omega
    have n2 : (getE r (((getE r 0).2.1 + 16 : Nat) : Int)).1 < 4611686018427387904 := by omega
    have n3 : (getT r (((getE r (((getE r 0).2.1 + 16 : Nat) : Int)).2.1 + 16 : Nat) : Int) 64).1.length ≤ 64 := by have := ht4.1; omega
    exact ⟨QD hr _ h1 ht, n1, n2, QD hr _ h3 ht, n3, ht4.2⟩
  · cases h
theorem QT {r : List Nat} {n : Nat} (h : readV r = some (.inl n)) : 1 ≤ n ∧ n ≤ 1048576 := by
  unfold readV at h
  split at h
  · cases h
  split at h
  · split at h
    · rename_i h1
      cases h
      exact ⟨h1.2.2.1, h1.2.2.2⟩
    · cases h
  split at h
  · simp only at h
    split at h
    · cases h
    split at h
    · cases h
    split at h
    · cases h
    split at h <;> cases h
  · cases h
theorem hld_ok (ht : top = 256 ^ 16) {rs : List (List Nat)} : ∀ {s s' : List It × Nat}, (∀ r ∈ rs, ∀ b ∈ r, b < 256) → (∀ x ∈ s.1, x.ok) → s.2 ≤ 1048576 → rs.foldlM hldR s = some s' → (∀ x ∈ s'.1, x.ok) ∧ s'.2 ≤ 1048576 ∧ s.2 ≤ s'.2 := by
  induction rs with
  | nil => intro s s' _ h k e; cases e; exact ⟨h, k, Nat.le_refl _⟩
  | cons r rs ih =>
    intro s s' hb h k e
    rw [List.foldlM_cons] at e
    cases g : hldR s r with
    | none => rw [g] at e; cases e
    | some t =>
      rw [g] at e
      have ht' : (∀ x ∈ t.1, x.ok) ∧ t.2 ≤ 1048576 ∧ s.2 ≤ t.2 := by
        unfold hldR at g
        cases q : readV r with
        | none => rw [q] at g; cases g
        | some v =>
          rw [q] at g
          cases v with
          | inl n =>
            have g' : (if s.2 < n then some (s.1, n) else none) = some t := g
            split at g'
            · rename_i hlt
              cases g'
              exact ⟨h, (QT q).2, Nat.le_of_lt hlt⟩
            · cases g'
          | inr x =>
            have g' : some (tkV s.1 x, s.2) = some t := g
            cases g'
            refine ⟨fun z hz => ?_, k, Nat.le_refl _⟩
            rcases Zo hz with hz | rfl
            · exact h z hz
            · exact jcs (hb r (by simp)) ht q
      obtain ⟨h1, h2, h3⟩ := ih (fun r hr => hb r (List.mem_cons_of_mem _ hr)) ht'.1 ht'.2.1 e
      exact ⟨h1, h2, Nat.le_trans ht'.2.2 h3⟩
/-! ### What is sure, what was tried -/
def Sure (L sure : List It) : Prop := ∀ x ∈ sure, ∃ y, lkV L x.key = some y ∧ nwr x y = false
def Tried (L tried : List It) : Prop := ∀ z ∈ L, z ∈ tried
theorem Sure.take {L sure : List It} (hL : SKv L) (h : Sure L sure) (x : It) : Sure (tkV L x) (sure ++ [x]) := fun z hz => by
  rcases List.mem_append.1 hz with hz | hz
  · obtain ⟨y, h1, h2⟩ := h z hz
    obtain ⟨u, h3, h4⟩ := tkV_old hL x h1
    exact ⟨u, h3, nwr_le h2 h4⟩
  · rw [List.mem_singleton.1 hz]; exact tkV_new hL x
theorem Tried.take {L tried : List It} (h : Tried L tried) (x : It) : Tried (tkV L x) (tried ++ [x]) := fun z hz => by
  rcases Zo hz with hz | rfl
  · exact List.mem_append_left _ (h z hz)
  · exact List.mem_append_right _ (by simp)
end Go.Proofs.YtgfnjekpafempaaGreat
