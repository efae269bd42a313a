/- What is read is what is laid: the bytes of a body that was read. -/
import Derived.Test.YthmcnlmphikicaaR8
import Derived.Test.YthmcnlmphikicaaG6
namespace Go.Proofs.Ythmcnlmphikicaa
open Go.RowKit

theorem thenR_ok {α β : Type} {r : Except Nat (α × Nat)} {f : α → Nat → Except Nat (β × Nat)} {b : β × Nat} (h : thenR r f = .ok b) : ∃ a p, r = .ok (a, p) ∧ f a p = .ok b := by
  cases r with
  | error e => cases h
  | ok p => exact ⟨p.1, p.2, rfl, h⟩
section
variable {l : List Nat}
theorem rdN_inv (hl : ∀ y ∈ l, y < 256) {i x q : Nat} (h : rdN l i = .ok (x, q)) : l.drop i = numL x ++ l.drop q ∧ x < 9223372036854775808 := by
  unfold rdN at h
  split at h
  · rename_i x' q' hg
    split at h
    · cases h
    · rename_i hx
      cases h
      obtain ⟨h1, _, _⟩ := getE_back l hl (i : Int) x q 0 hg
      obtain ⟨_, _, h2, h3, h4⟩ := h1 rfl
      have e1 : ((i : Int)).toNat = i := by omega
      rw [e1] at h4
      refine ⟨?_, by omega⟩
      have h5 : i ≤ q := by omega
      conv => lhs; rw [← List.take_append_drop (q - i) (l.drop i)]
      rw [h4, List.drop_drop]
      congr 2
      omega
  · cases h
theorem rdI_inv (hl : ∀ y ∈ l, y < 256) {i q : Nat} {x : List Nat} (h : rdI l i = .ok (x, q)) : l.drop i = x ++ l.drop q ∧ x.length = 16 ∧ ∀ y ∈ x, y < 256 := by
  have h16 := getI_len l (i : Int)
  have hlt := getI_lt l hl (i : Int)
  unfold rdI at h
  split at h
  · rename_i x' q' hg
    cases h
    rw [hg] at h16 hlt
    refine ⟨?_, h16, hlt⟩
    unfold getI at hg
    split at hg
    · cases hg
    · split at hg
      · cases hg
      · have e1 : ((i : Int)).toNat = i := by omega
        rw [e1] at hg
        simp only [Prod.mk.injEq] at hg
        obtain ⟨rfl, rfl, _⟩ := hg
        conv => lhs; rw [← List.take_append_drop 16 (l.drop i)]
        rw [List.drop_drop]
  · cases h
theorem rdT_inv (hl : ∀ y ∈ l, y < 256) {i q m : Nat} {x : List Nat} (h : rdT l i m = .ok (x, q)) : l.drop i = textL x ++ l.drop q ∧ x.length ≤ m ∧ ∀ y ∈ x, y < 256 := by
  unfold rdT at h
  split at h
  · rename_i x' q' hg
    cases h
    unfold getT at hg
    obtain ⟨⟨n, p, e⟩, hE⟩ : ∃ g, getE l (i : Int) = g := ⟨_, rfl⟩
    rw [hE] at hg
    dsimp only at hg
    split at hg
    · rename_i he
      simp only [Prod.mk.injEq] at hg
      omega
    · rename_i he
      split at hg
      · cases hg
      · rename_i hm
        split at hg
        · cases hg
        · rename_i hn
          simp only [Prod.mk.injEq] at hg
          obtain ⟨rfl, rfl, _⟩ := hg
          have he0 : e = 0 := by omega
          subst he0
          obtain ⟨h1, _, _⟩ := getE_back l hl (i : Int) n p 0 hE
          obtain ⟨_, _, h2, h3, h4⟩ := h1 rfl
          have e1 : ((i : Int)).toNat = i := by omega
          rw [e1] at h4
          have hlen : ((l.drop p).take n).length = n := by rw [List.length_take, List.length_drop]; omega
          refine ⟨?_, by rw [hlen]; omega, fun y hy => hl y (List.mem_of_mem_drop (List.mem_of_mem_take hy))⟩
          unfold textL
          rw [hlen]
          have e2 : l.drop i = numL n ++ l.drop p := by
            conv => lhs; rw [← List.take_append_drop (p - i) (l.drop i)]
            rw [h4, List.drop_drop]
            congr 2
            omega
          rw [e2, List.append_assoc]
          congr 1
          conv => lhs; rw [← List.take_append_drop n (l.drop p)]
          rw [List.drop_drop]
  · cases h
theorem rdS_inv (hl : ∀ y ∈ l, y < 256) {i q : Nat} {x : Nat × Nat} (h : rdS l i = .ok (x, q)) : l.drop i = sessL x.1 x.2 ++ l.drop q ∧ x.1 < 9223372036854775808 ∧ x.2 < 9223372036854775808 := by
  unfold rdS at h
  obtain ⟨a, p, h1, h⟩ := thenR_ok h
  obtain ⟨b, p2, h2, h⟩ := thenR_ok h
  cases h
  obtain ⟨e1, b1⟩ := rdN_inv hl h1
  obtain ⟨e2, b2⟩ := rdN_inv hl h2
  refine ⟨?_, b1, b2⟩
  rw [e1, e2]
  simp [sessL, nI]
theorem rdPa_inv (hl : ∀ y ∈ l, y < 256) {i q : Nat} {x : List Nat × Nat} (h : rdPa l i = .ok (x, q)) : l.drop i = pathL (idF x.1) x.2 ++ l.drop q ∧ x.1.length = 16 ∧ (∀ y ∈ x.1, y < 256) ∧ x.2 < 9223372036854775808 := by
  unfold rdPa at h
  obtain ⟨a, p, h1, h⟩ := thenR_ok h
  obtain ⟨b, p2, h2, h⟩ := thenR_ok h
  cases h
  obtain ⟨e1, b1, b3⟩ := rdI_inv hl h1
  obtain ⟨e2, b2⟩ := rdN_inv hl h2
  refine ⟨?_, b1, b3, b2⟩
  rw [e1, e2]
  simp [pathL, nI, idL_idF b1]
theorem rdVe_inv (hl : ∀ y ∈ l, y < 256) {i q : Nat} {x : Nat × List Nat} (h : rdVe l i = .ok (x, q)) : l.drop i = verL x.1 (idF x.2) ++ l.drop q ∧ x.2.length = 16 ∧ (∀ y ∈ x.2, y < 256) ∧ x.1 < 9223372036854775808 := by
  unfold rdVe at h
  obtain ⟨a, p, h1, h⟩ := thenR_ok h
  obtain ⟨b, p2, h2, h⟩ := thenR_ok h
  cases h
  obtain ⟨e1, b1⟩ := rdN_inv hl h1
  obtain ⟨e2, b2, b3⟩ := rdI_inv hl h2
  refine ⟨?_, b2, b3, b1⟩
  rw [e1, e2]
  simp [verL, nI, idL_idF b2]
theorem rdIt_inv (hl : ∀ y ∈ l, y < 256) {i q : Nat} {x : List Nat × (Nat × List Nat) × List Nat} (h : rdIt l i = .ok (x, q)) : l.drop i = itemL (idF x.1) x.2.1.1 (idF x.2.1.2) x.2.2 ++ l.drop q ∧ (x.1.length = 16 ∧ ∀ y ∈ x.1, y < 256) ∧ (x.2.1.2.length = 16 ∧ ∀ y ∈ x.2.1.2, y < 256) ∧ x.2.1.1 < 9223372036854775808 ∧ x.2.2.length ≤ 64 := by
  unfold rdIt at h
  obtain ⟨a, p, h1, h⟩ := thenR_ok h
  obtain ⟨b, p2, h2, h⟩ := thenR_ok h
  obtain ⟨c, p3, h3, h⟩ := thenR_ok h
  cases h
  obtain ⟨e1, b1, c1⟩ := rdI_inv hl h1
  obtain ⟨e2, b2, c2, d2⟩ := rdVe_inv hl h2
  obtain ⟨e3, b3, c3⟩ := rdT_inv hl h3
  refine ⟨?_, ⟨b1, c1⟩, ⟨b2, c2⟩, d2, b3⟩
  rw [e1, e2, e3]
  simp [itemL, putT, idL_idF b1]
theorem rdW_inv (hl : ∀ y ∈ l, y < 256) {i lo hi x q : Nat} (h : rdW l i lo hi = .ok (x, q)) : l.drop i = numL x ++ l.drop q ∧ lo ≤ x ∧ x ≤ hi := by
  unfold rdW at h
  obtain ⟨a, p, h1, h⟩ := thenR_ok h
  obtain ⟨e1, b1⟩ := rdN_inv hl h1
  cases c1 : decide (((a : Nat) : Int) < ((lo : Nat) : Int)) with
  | true => rw [c1] at h; cases h
  | false =>
    cases c2 : decide (((hi : Nat) : Int) < ((a : Nat) : Int)) with
    | true => rw [c1, c2] at h; cases h
    | false =>
      rw [c1, c2] at h
      cases h
      simp at c1 c2
      exact ⟨e1, by omega, by omega⟩
theorem rdC_inv (hl : ∀ y ∈ l, y < 256) {i m x q : Nat} (h : rdC l i m = .ok (x, q)) : l.drop i = numL x ++ l.drop q ∧ x ≤ m := by
  have hle := rdC_le h
  unfold rdC at h
  obtain ⟨a, p, h1, h⟩ := thenR_ok h
  obtain ⟨e1, b1⟩ := rdN_inv hl h1
  cases c1 : decide (((m : Nat) : Int) < ((a : Nat) : Int)) with
  | true => rw [c1] at h; cases h
  | false =>
    rw [c1] at h
    cases h
    exact ⟨e1, hle⟩
theorem rdF_inv (hl : ∀ y ∈ l, y < 256) {i q : Nat} {x : Bool} (h : rdF l i = .ok (x, q)) : l.drop i = flagL x ++ l.drop q := by
  unfold rdF at h
  obtain ⟨a, p, h1, h⟩ := thenR_ok h
  cases h
  obtain ⟨e1, b1, b2⟩ := rdW_inv hl h1
  rw [e1]
  unfold flagL
  have : a = 0 ∨ a = 1 := by omega
  rcases this with rfl | rfl <;> rfl
theorem rdRepT_inv (hl : ∀ y ∈ l, y < 256) : ∀ (n i : Nat) (a : List Int) (q : Nat), rdRep (rdP5 l) n i = .ok (a, q) → l.drop i = a.flatMap nI ++ l.drop q ∧ a.length = n ∧ ∀ x ∈ a, 0 ≤ x ∧ x ≤ 5
  | 0, i, a, q, h => by cases h; exact ⟨rfl, rfl, by intro x hx; cases hx⟩
  | n + 1, i, a, q, h => by
    unfold rdRep at h
    obtain ⟨x, p, h1, h⟩ := thenR_ok h
    obtain ⟨y, p2, h2, h⟩ := thenR_ok h
    cases h
    obtain ⟨e2, b2, c2⟩ := rdRepT_inv hl n p y q h2
    unfold rdP5 at h1
    obtain ⟨z, p3, h3, h1⟩ := thenR_ok h1
    cases h1
    obtain ⟨e3, b3, c3⟩ := rdW_inv hl h3
    refine ⟨by rw [e3, e2]; simp [nI], by simp [b2], fun u hu => ?_⟩
    rcases List.mem_cons.1 hu with rfl | hu
    · omega
    · exact c2 u hu
theorem rdTr_inv (hl : ∀ y ∈ l, y < 256) {i q : Nat} {a : List Int} (h : rdTr l i = .ok (a, q)) : l.drop i = trailL a ++ l.drop q ∧ a.length ≤ 64 ∧ ∀ x ∈ a, 0 ≤ x ∧ x ≤ 5 := by
  unfold rdTr at h
  obtain ⟨n, p, h1, h⟩ := thenR_ok h
  obtain ⟨e1, b1⟩ := rdC_inv hl h1
  obtain ⟨e2, b2, c2⟩ := rdRepT_inv hl n p a q h
  refine ⟨?_, by omega, c2⟩
  rw [e1, e2]
  simp [trailL, b2]
theorem rdRepI_inv (hl : ∀ y ∈ l, y < 256) : ∀ (n i : Nat) (a : List (List Nat)) (q : Nat), rdRep (rdI l) n i = .ok (a, q) → l.drop i = a.flatten ++ l.drop q ∧ a.length = n
  | 0, i, a, q, h => by cases h; exact ⟨rfl, rfl⟩
  | n + 1, i, a, q, h => by
    unfold rdRep at h
    obtain ⟨x, p, h1, h⟩ := thenR_ok h
    obtain ⟨y, p2, h2, h⟩ := thenR_ok h
    cases h
    obtain ⟨e2, b2⟩ := rdRepI_inv hl n p y q h2
    obtain ⟨e3, _, _⟩ := rdI_inv hl h1
    exact ⟨by rw [e3, e2]; simp, by simp [b2]⟩
theorem rdIs_inv (hl : ∀ y ∈ l, y < 256) {i q : Nat} {a : List (List Nat)} (h : rdIs l i = .ok (a, q)) : l.drop i = idsL a ++ l.drop q ∧ a.length ≤ 16 := by
  unfold rdIs at h
  obtain ⟨n, p, h1, h⟩ := thenR_ok h
  obtain ⟨e1, b1⟩ := rdC_inv hl h1
  obtain ⟨e2, b2⟩ := rdRepI_inv hl n p a q h
  refine ⟨?_, by omega⟩
  rw [e1, e2]
  simp [idsL, b2]
end

theorem zlt : (0 : Int) < 9223372036854775808 := by decide
theorem zle : (0 : Int) ≤ 0 := by decide
structure Inv (l : List Nat) (i k : Nat) (f : Fr) (d : FD) (q : Nat) : Prop where
  eq : l.drop i = bodyL k f d ++ l.drop q
  fr : FrR f
  num : NumOK f
  tr : d.tr.length ≤ 64
  tok : ∀ x ∈ d.tr, 0 ≤ x ∧ x ≤ 5
  ids : d.ids.length ≤ 16
  val : d.val.length ≤ 64
  tx : d.tx.length ≤ 4096
  own : match k with
    | 8 => 0 ≤ f.op ∧ f.op ≤ 3
    | 10 => 1 ≤ f.op ∧ f.op ≤ 4 ∧ 0 ≤ f.ttl ∧ f.ttl ≤ 64 ∧ d.tx.length ≤ 64
    | _ => True
theorem inv1 {l : List Nat} (hl : ∀ y ∈ l, y < 256) {i q : Nat} {a : Nat × Fr × FD} (h : rdB1 l i = .ok (a, q)) : a.1 = 1 ∧ Inv l i 1 a.2.1 a.2.2 q := by
  unfold rdB1 at h
  obtain ⟨x2, p2, h2, h⟩ := thenR_ok h
  obtain ⟨e2, a2, b2⟩ := rdS_inv hl h2
  obtain ⟨x3, p3, h3, h⟩ := thenR_ok h
  obtain ⟨e3, a3, b3⟩ := rdS_inv hl h3
  obtain ⟨x4, p4, h4, h⟩ := thenR_ok h
  obtain ⟨e4, a4, b4⟩ := rdI_inv hl h4
  cases h
  refine ⟨rfl, ?_, ⟨okI_zF, okI_idF b4, okI_zF, okI_zF, okI_zF, zlt, zlt, (by show ((x2.1 : Nat) : Int) < 9223372036854775808; omega), (by show ((x2.2 : Nat) : Int) < 9223372036854775808; omega), (by show ((x3.1 : Nat) : Int) < 9223372036854775808; omega), (by show ((x3.2 : Nat) : Int) < 9223372036854775808; omega), zlt, zlt, zlt⟩, ⟨zle, zle, (by show 0 ≤ ((x2.1 : Nat) : Int); omega), (by show 0 ≤ ((x2.2 : Nat) : Int); omega), (by show 0 ≤ ((x3.1 : Nat) : Int); omega), (by show 0 ≤ ((x3.2 : Nat) : Int); omega), zle⟩, Nat.zero_le _, (by intro x hx; cases hx), Nat.zero_le _, Nat.zero_le _, Nat.zero_le _, trivial⟩
  rw [e2, e3, e4]
  simp [bodyL, idL_idF a4]
theorem inv2 {l : List Nat} (hl : ∀ y ∈ l, y < 256) {i q : Nat} {a : Nat × Fr × FD} (h : rdB2 l i = .ok (a, q)) : a.1 = 2 ∧ Inv l i 2 a.2.1 a.2.2 q := by
  unfold rdB2 at h
  obtain ⟨x2, p2, h2, h⟩ := thenR_ok h
  obtain ⟨e2, a2, b2⟩ := rdS_inv hl h2
  obtain ⟨x3, p3, h3, h⟩ := thenR_ok h
  obtain ⟨e3, a3, b3⟩ := rdS_inv hl h3
  obtain ⟨x4, p4, h4, h⟩ := thenR_ok h
  obtain ⟨e4, a4⟩ := rdN_inv hl h4
  obtain ⟨x5, p5, h5, h⟩ := thenR_ok h
  obtain ⟨e5, a5, b5⟩ := rdT_inv hl h5
  cases h
  refine ⟨rfl, ?_, ⟨okI_zF, okI_zF, okI_zF, okI_zF, okI_zF, zlt, (by show ((x4 : Nat) : Int) < 9223372036854775808; omega), (by show ((x2.1 : Nat) : Int) < 9223372036854775808; omega), (by show ((x2.2 : Nat) : Int) < 9223372036854775808; omega), (by show ((x3.1 : Nat) : Int) < 9223372036854775808; omega), (by show ((x3.2 : Nat) : Int) < 9223372036854775808; omega), zlt, zlt, zlt⟩, ⟨zle, (by show 0 ≤ ((x4 : Nat) : Int); omega), (by show 0 ≤ ((x2.1 : Nat) : Int); omega), (by show 0 ≤ ((x2.2 : Nat) : Int); omega), (by show 0 ≤ ((x3.1 : Nat) : Int); omega), (by show 0 ≤ ((x3.2 : Nat) : Int); omega), zle⟩, Nat.zero_le _, (by intro x hx; cases hx), Nat.zero_le _, Nat.zero_le _, (by show x5.length ≤ 4096; omega), trivial⟩
  rw [e2, e3, e4, e5]
  simp [bodyL, nI, putT]
theorem inv3 {l : List Nat} (hl : ∀ y ∈ l, y < 256) {i q : Nat} {a : Nat × Fr × FD} (h : rdB3 l i = .ok (a, q)) : a.1 = 3 ∧ Inv l i 3 a.2.1 a.2.2 q := by
  unfold rdB3 at h
  obtain ⟨x2, p2, h2, h⟩ := thenR_ok h
  obtain ⟨e2, a2, b2⟩ := rdS_inv hl h2
  obtain ⟨x3, p3, h3, h⟩ := thenR_ok h
  obtain ⟨e3, a3, b3⟩ := rdS_inv hl h3
  obtain ⟨x4, p4, h4, h⟩ := thenR_ok h
  obtain ⟨e4, a4⟩ := rdN_inv hl h4
  cases h
  refine ⟨rfl, ?_, ⟨okI_zF, okI_zF, okI_zF, okI_zF, okI_zF, zlt, (by show ((x4 : Nat) : Int) < 9223372036854775808; omega), (by show ((x2.1 : Nat) : Int) < 9223372036854775808; omega), (by show ((x2.2 : Nat) : Int) < 9223372036854775808; omega), (by show ((x3.1 : Nat) : Int) < 9223372036854775808; omega), (by show ((x3.2 : Nat) : Int) < 9223372036854775808; omega), zlt, zlt, zlt⟩, ⟨zle, (by show 0 ≤ ((x4 : Nat) : Int); omega), (by show 0 ≤ ((x2.1 : Nat) : Int); omega), (by show 0 ≤ ((x2.2 : Nat) : Int); omega), (by show 0 ≤ ((x3.1 : Nat) : Int); omega), (by show 0 ≤ ((x3.2 : Nat) : Int); omega), zle⟩, Nat.zero_le _, (by intro x hx; cases hx), Nat.zero_le _, Nat.zero_le _, Nat.zero_le _, trivial⟩
  rw [e2, e3, e4]
  simp [bodyL, nI]
theorem inv4 {l : List Nat} (hl : ∀ y ∈ l, y < 256) {i q : Nat} {a : Nat × Fr × FD} (h : rdB4 l i = .ok (a, q)) : a.1 = 4 ∧ Inv l i 4 a.2.1 a.2.2 q := by
  unfold rdB4 at h
  obtain ⟨x2, p2, h2, h⟩ := thenR_ok h
  obtain ⟨e2, a2, b2, c2⟩ := rdPa_inv hl h2
  obtain ⟨x3, p3, h3, h⟩ := thenR_ok h
  obtain ⟨e3, a3, b3⟩ := rdI_inv hl h3
  obtain ⟨x4, p4, h4, h⟩ := thenR_ok h
  obtain ⟨e4, a4, b4⟩ := rdI_inv hl h4
  obtain ⟨x5, p5, h5, h⟩ := thenR_ok h
  obtain ⟨e5, a5, b5⟩ := rdTr_inv hl h5
  cases h
  refine ⟨rfl, ?_, ⟨okI_idF b2, okI_idF b3, okI_idF b4, okI_zF, okI_zF, (by show ((x2.2 : Nat) : Int) < 9223372036854775808; omega), zlt, zlt, zlt, zlt, zlt, zlt, zlt, zlt⟩, ⟨(by show 0 ≤ ((x2.2 : Nat) : Int); omega), zle, zle, zle, zle, zle, zle⟩, (by show x5.length ≤ 64; omega), b5, Nat.zero_le _, Nat.zero_le _, Nat.zero_le _, trivial⟩
  rw [e2, e3, e4, e5]
  simp [bodyL, idL_idF a3, idL_idF a4]
theorem inv5 {l : List Nat} (hl : ∀ y ∈ l, y < 256) {i q : Nat} {a : Nat × Fr × FD} (h : rdB5 l i = .ok (a, q)) : a.1 = 5 ∧ Inv l i 5 a.2.1 a.2.2 q := by
  unfold rdB5 at h
  obtain ⟨x2, p2, h2, h⟩ := thenR_ok h
  obtain ⟨e2, a2, b2, c2⟩ := rdPa_inv hl h2
  cases h
  refine ⟨rfl, ?_, ⟨okI_idF b2, okI_zF, okI_zF, okI_zF, okI_zF, (by show ((x2.2 : Nat) : Int) < 9223372036854775808; omega), zlt, zlt, zlt, zlt, zlt, zlt, zlt, zlt⟩, ⟨(by show 0 ≤ ((x2.2 : Nat) : Int); omega), zle, zle, zle, zle, zle, zle⟩, Nat.zero_le _, (by intro x hx; cases hx), Nat.zero_le _, Nat.zero_le _, Nat.zero_le _, trivial⟩
  rw [e2]
  simp [bodyL]
theorem inv6 {l : List Nat} (hl : ∀ y ∈ l, y < 256) {i q : Nat} {a : Nat × Fr × FD} (h : rdB6 l i = .ok (a, q)) : a.1 = 6 ∧ Inv l i 6 a.2.1 a.2.2 q := by
  unfold rdB6 at h
  obtain ⟨x2, p2, h2, h⟩ := thenR_ok h
  obtain ⟨e2, a2, b2, c2⟩ := rdPa_inv hl h2
  obtain ⟨x3, p3, h3, h⟩ := thenR_ok h
  have e3 := rdF_inv hl h3
  cases h
  refine ⟨rfl, ?_, ⟨okI_idF b2, okI_zF, okI_zF, okI_zF, okI_zF, (by show ((x2.2 : Nat) : Int) < 9223372036854775808; omega), zlt, zlt, zlt, zlt, zlt, zlt, zlt, zlt⟩, ⟨(by show 0 ≤ ((x2.2 : Nat) : Int); omega), zle, zle, zle, zle, zle, zle⟩, Nat.zero_le _, (by intro x hx; cases hx), Nat.zero_le _, Nat.zero_le _, Nat.zero_le _, trivial⟩
  rw [e2, e3]
  simp [bodyL]
theorem inv7 {l : List Nat} (hl : ∀ y ∈ l, y < 256) {i q : Nat} {a : Nat × Fr × FD} (h : rdB7 l i = .ok (a, q)) : a.1 = 7 ∧ Inv l i 7 a.2.1 a.2.2 q := by
  unfold rdB7 at h
  obtain ⟨x2, p2, h2, h⟩ := thenR_ok h
  obtain ⟨e2, a2, b2, c2⟩ := rdPa_inv hl h2
  obtain ⟨x3, p3, h3, h⟩ := thenR_ok h
  have e3 := rdF_inv hl h3
  obtain ⟨x4, p4, h4, h⟩ := thenR_ok h
  obtain ⟨e4, a4⟩ := rdIs_inv hl h4
  cases h
  refine ⟨rfl, ?_, ⟨okI_idF b2, okI_zF, okI_zF, okI_zF, okI_zF, (by show ((x2.2 : Nat) : Int) < 9223372036854775808; omega), zlt, zlt, zlt, zlt, zlt, zlt, zlt, zlt⟩, ⟨(by show 0 ≤ ((x2.2 : Nat) : Int); omega), zle, zle, zle, zle, zle, zle⟩, Nat.zero_le _, (by intro x hx; cases hx), (by show x4.length ≤ 16; omega), Nat.zero_le _, Nat.zero_le _, trivial⟩
  rw [e2, e3, e4]
  simp [bodyL]
theorem inv8 {l : List Nat} (hl : ∀ y ∈ l, y < 256) {i q : Nat} {a : Nat × Fr × FD} (h : rdB8 l i = .ok (a, q)) : a.1 = 8 ∧ Inv l i 8 a.2.1 a.2.2 q := by
  unfold rdB8 at h
  obtain ⟨x2, p2, h2, h⟩ := thenR_ok h
  obtain ⟨e2, a2, b2⟩ := rdI_inv hl h2
  obtain ⟨x3, p3, h3, h⟩ := thenR_ok h
  obtain ⟨e3, a3, b3⟩ := rdI_inv hl h3
  obtain ⟨x4, p4, h4, h⟩ := thenR_ok h
  obtain ⟨e4, a4, b4⟩ := rdW_inv hl h4
  obtain ⟨x5, p5, h5, h⟩ := thenR_ok h
  obtain ⟨e5, a5, b5, c5⟩ := rdPa_inv hl h5
  obtain ⟨x6, p6, h6, h⟩ := thenR_ok h
  have e6 := rdF_inv hl h6
  obtain ⟨x7, p7, h7, h⟩ := thenR_ok h
  obtain ⟨e7, a7, b7⟩ := rdTr_inv hl h7
  cases h
  refine ⟨rfl, ?_, ⟨okI_idF b5, okI_idF b2, okI_idF b3, okI_zF, okI_zF, (by show ((x5.2 : Nat) : Int) < 9223372036854775808; omega), zlt, zlt, zlt, zlt, zlt, zlt, (by show ((x4 : Nat) : Int) < 9223372036854775808; omega), zlt⟩, ⟨(by show 0 ≤ ((x5.2 : Nat) : Int); omega), zle, zle, zle, zle, zle, zle⟩, (by show x7.length ≤ 64; omega), b7, Nat.zero_le _, Nat.zero_le _, Nat.zero_le _, (by show 0 ≤ ((x4 : Nat) : Int) ∧ ((x4 : Nat) : Int) ≤ 3; omega)⟩
  rw [e2, e3, e4, e5, e6, e7]
  simp [bodyL, nI, idL_idF a2, idL_idF a3]
theorem inv9 {l : List Nat} (hl : ∀ y ∈ l, y < 256) {i q : Nat} {a : Nat × Fr × FD} (h : rdB9 l i = .ok (a, q)) : a.1 = 9 ∧ Inv l i 9 a.2.1 a.2.2 q := by
  unfold rdB9 at h
  obtain ⟨x2, p2, h2, h⟩ := thenR_ok h
  obtain ⟨e2, a2, b2⟩ := rdI_inv hl h2
  obtain ⟨x3, p3, h3, h⟩ := thenR_ok h
  obtain ⟨e3, a3⟩ := rdN_inv hl h3
  cases h
  refine ⟨rfl, ?_, ⟨okI_zF, okI_idF b2, okI_zF, okI_zF, okI_zF, zlt, (by show ((x3 : Nat) : Int) < 9223372036854775808; omega), zlt, zlt, zlt, zlt, zlt, zlt, zlt⟩, ⟨zle, (by show 0 ≤ ((x3 : Nat) : Int); omega), zle, zle, zle, zle, zle⟩, Nat.zero_le _, (by intro x hx; cases hx), Nat.zero_le _, Nat.zero_le _, Nat.zero_le _, trivial⟩
  rw [e2, e3]
  simp [bodyL, nI, idL_idF a2]
theorem inv10 {l : List Nat} (hl : ∀ y ∈ l, y < 256) {i q : Nat} {a : Nat × Fr × FD} (h : rdB10 l i = .ok (a, q)) : a.1 = 10 ∧ Inv l i 10 a.2.1 a.2.2 q := by
  unfold rdB10 at h
  obtain ⟨x2, p2, h2, h⟩ := thenR_ok h
  obtain ⟨e2, a2, b2⟩ := rdI_inv hl h2
  obtain ⟨x3, p3, h3, h⟩ := thenR_ok h
  obtain ⟨e3, a3, b3⟩ := rdI_inv hl h3
  obtain ⟨x4, p4, h4, h⟩ := thenR_ok h
  obtain ⟨e4, a4⟩ := rdN_inv hl h4
  obtain ⟨x5, p5, h5, h⟩ := thenR_ok h
  obtain ⟨e5, a5, b5⟩ := rdW_inv hl h5
  obtain ⟨x6, p6, h6, h⟩ := thenR_ok h
  obtain ⟨e6, a6, b6⟩ := rdW_inv hl h6
  obtain ⟨x7, p7, h7, h⟩ := thenR_ok h
  obtain ⟨e7, ⟨a7, b7⟩, ⟨c7, d7⟩, f7, g7⟩ := rdIt_inv hl h7
  obtain ⟨x8, p8, h8, h⟩ := thenR_ok h
  obtain ⟨e8, a8, b8⟩ := rdT_inv hl h8
  cases h
  refine ⟨rfl, ?_, ⟨okI_zF, okI_idF b2, okI_idF b3, okI_idF b7, okI_idF d7, zlt, (by show ((x4 : Nat) : Int) < 9223372036854775808; omega), zlt, zlt, zlt, zlt, (by show ((x7.2.1.1 : Nat) : Int) < 9223372036854775808; omega), (by show ((x5 : Nat) : Int) < 9223372036854775808; omega), (by show ((x6 : Nat) : Int) < 9223372036854775808; omega)⟩, ⟨zle, (by show 0 ≤ ((x4 : Nat) : Int); omega), zle, zle, zle, zle, (by show 0 ≤ ((x7.2.1.1 : Nat) : Int); omega)⟩, Nat.zero_le _, (by intro x hx; cases hx), Nat.zero_le _, (by show x7.2.2.length ≤ 64; omega), (by show x8.length ≤ 4096; omega), (by show 1 ≤ ((x5 : Nat) : Int) ∧ ((x5 : Nat) : Int) ≤ 4 ∧ 0 ≤ ((x6 : Nat) : Int) ∧ ((x6 : Nat) : Int) ≤ 64 ∧ x8.length ≤ 64; omega)⟩
  rw [e2, e3, e4, e5, e6, e7, e8]
  simp [bodyL, nI, putT, idL_idF a2, idL_idF a3]
theorem inv11 {l : List Nat} (hl : ∀ y ∈ l, y < 256) {i q : Nat} {a : Nat × Fr × FD} (h : rdB11 l i = .ok (a, q)) : a.1 = 11 ∧ Inv l i 11 a.2.1 a.2.2 q := by
  unfold rdB11 at h
  obtain ⟨x2, p2, h2, h⟩ := thenR_ok h
  obtain ⟨e2, a2, b2, c2⟩ := rdPa_inv hl h2
  obtain ⟨x3, p3, h3, h⟩ := thenR_ok h
  have e3 := rdF_inv hl h3
  obtain ⟨x4, p4, h4, h⟩ := thenR_ok h
  obtain ⟨e4, ⟨a4, b4⟩, ⟨c4, d4⟩, f4, g4⟩ := rdIt_inv hl h4
  cases h
  refine ⟨rfl, ?_, ⟨okI_idF b2, okI_zF, okI_zF, okI_idF b4, okI_idF d4, (by show ((x2.2 : Nat) : Int) < 9223372036854775808; omega), zlt, zlt, zlt, zlt, zlt, (by show ((x4.2.1.1 : Nat) : Int) < 9223372036854775808; omega), zlt, zlt⟩, ⟨(by show 0 ≤ ((x2.2 : Nat) : Int); omega), zle, zle, zle, zle, zle, (by show 0 ≤ ((x4.2.1.1 : Nat) : Int); omega)⟩, Nat.zero_le _, (by intro x hx; cases hx), Nat.zero_le _, (by show x4.2.2.length ≤ 64; omega), Nat.zero_le _, trivial⟩
  rw [e2, e3, e4]
  simp [bodyL]
theorem inv12 {l : List Nat} (hl : ∀ y ∈ l, y < 256) {i q : Nat} {a : Nat × Fr × FD} (h : rdB12 l i = .ok (a, q)) : a.1 = 12 ∧ Inv l i 12 a.2.1 a.2.2 q := by
  unfold rdB12 at h
  obtain ⟨x2, p2, h2, h⟩ := thenR_ok h
  obtain ⟨e2, a2, b2, c2⟩ := rdPa_inv hl h2
  obtain ⟨x3, p3, h3, h⟩ := thenR_ok h
  have e3 := rdF_inv hl h3
  obtain ⟨x4, p4, h4, h⟩ := thenR_ok h
  obtain ⟨e4, a4, b4⟩ := rdI_inv hl h4
  obtain ⟨x5, p5, h5, h⟩ := thenR_ok h
  obtain ⟨e5, a5, b5, c5⟩ := rdVe_inv hl h5
  cases h
  refine ⟨rfl, ?_, ⟨okI_idF b2, okI_zF, okI_zF, okI_idF b4, okI_idF b5, (by show ((x2.2 : Nat) : Int) < 9223372036854775808; omega), zlt, zlt, zlt, zlt, zlt, (by show ((x5.1 : Nat) : Int) < 9223372036854775808; omega), zlt, zlt⟩, ⟨(by show 0 ≤ ((x2.2 : Nat) : Int); omega), zle, zle, zle, zle, zle, (by show 0 ≤ ((x5.1 : Nat) : Int); omega)⟩, Nat.zero_le _, (by intro x hx; cases hx), Nat.zero_le _, Nat.zero_le _, Nat.zero_le _, trivial⟩
  rw [e2, e3, e4, e5]
  simp [bodyL, idL_idF a4]

theorem rdB_inv {l : List Nat} (hl : ∀ y ∈ l, y < 256) {a : Nat × Fr × FD} {q : Nat} (h : rdB l 0 = .ok (a, q)) : 1 ≤ a.1 ∧ a.1 ≤ 12 ∧ ∃ i, l = numL a.1 ++ l.drop i ∧ Inv l i a.1 a.2.1 a.2.2 q := by
  unfold rdB at h
  obtain ⟨k, i, h1, h⟩ := thenR_ok h
  obtain ⟨e1, b1⟩ := rdN_inv hl h1
  rw [List.drop_zero] at e1
  have key : ∀ {n : Nat}, 1 ≤ n → n ≤ 12 → k = n → (a.1 = n ∧ Inv l i n a.2.1 a.2.2 q) → 1 ≤ a.1 ∧ a.1 ≤ 12 ∧ ∃ i, l = numL a.1 ++ l.drop i ∧ Inv l i a.1 a.2.1 a.2.2 q := by
    intro n hn1 hn2 hk ⟨ha, hI⟩
    subst hk
    rw [ha]
    exact ⟨hn1, hn2, i, e1, hI⟩
  split at h
  · exact key (n := 1) (by omega) (by omega) rfl (inv1 hl h)
  · exact key (n := 2) (by omega) (by omega) rfl (inv2 hl h)
  · exact key (n := 3) (by omega) (by omega) rfl (inv3 hl h)
  · exact key (n := 4) (by omega) (by omega) rfl (inv4 hl h)
  · exact key (n := 5) (by omega) (by omega) rfl (inv5 hl h)
  · exact key (n := 6) (by omega) (by omega) rfl (inv6 hl h)
  · exact key (n := 7) (by omega) (by omega) rfl (inv7 hl h)
  · exact key (n := 8) (by omega) (by omega) rfl (inv8 hl h)
  · exact key (n := 9) (by omega) (by omega) rfl (inv9 hl h)
  · exact key (n := 10) (by omega) (by omega) rfl (inv10 hl h)
  · exact key (n := 11) (by omega) (by omega) rfl (inv11 hl h)
  · exact key (n := 12) (by omega) (by omega) rfl (inv12 hl h)
  · cases h

theorem same_bare (k : Nat) (h1 : 1 ≤ k) (h2 : k ≤ 12) (f : Fr) (d : FD) (s1 s2 s3 s4 : Sl) : sameB { bare k f with kind := (k : Int), tr := s1, ids := s2, val := s3, tx := s4 } (bare k { bare k f with kind := (k : Int), tr := s1, ids := s2, val := s3, tx := s4 }) (bareD k d) (bareD k (bareD k d)) = true := by
  rcases is12 h1 h2 with rfl | rfl | rfl | rfl | rfl | rfl | rfl | rfl | rfl | rfl | rfl | rfl <;> simp [sameB, bare, bareD]
theorem bodyL_bare (k : Nat) (h1 : 1 ≤ k) (h2 : k ≤ 12) (f : Fr) (d : FD) (s1 s2 s3 s4 : Sl) : bodyL k { bare k f with kind := (k : Int), tr := s1, ids := s2, val := s3, tx := s4 } (bareD k d) = bodyL k f d := by
  rcases is12 h1 h2 with rfl | rfl | rfl | rfl | rfl | rfl | rfl | rfl | rfl | rfl | rfl | rfl <;> rfl
theorem frR_bare (k : Nat) (h1 : 1 ≤ k) (h2 : k ≤ 12) {f : Fr} (HR : FrR f) (s1 s2 s3 s4 : Sl) : FrR { bare k f with kind := (k : Int), tr := s1, ids := s2, val := s3, tx := s4 } := by
  have z : (0 : Int) < 9223372036854775808 := by decide
  rcases is12 h1 h2 with rfl | rfl | rfl | rfl | rfl | rfl | rfl | rfl | rfl | rfl | rfl | rfl <;>
    refine ⟨?_, ?_, ?_, ?_, ?_, ?_, ?_, ?_, ?_, ?_, ?_, ?_, ?_, ?_⟩ <;>
    first
    | exact HR.pw | exact HR.a | exact HR.b | exact HR.key | exact HR.vw | exact okI_zF
    | exact HR.pn | exact HR.n | exact HR.fi | exact HR.fn | exact HR.ti | exact HR.tn | exact HR.vn | exact HR.op | exact HR.ttl | exact z
end Go.Proofs.Ythmcnlmphikicaa
