/- What was laid is read as it was, with whatever ahead and behind it; cut off, it ends too early. -/
import Derived.Test.YthmcnlmphikicabZR7
namespace Go.Proofs.Ythmcnlmphikicab
open Go.RowKit
structure Lay {α : Type} (R : List Nat → Nat → Except Nat (α × Nat)) (E : List Nat) (a : α) : Prop where
  ok : ∀ pre post, R (pre ++ (E ++ post)) pre.length = .ok (a, pre.length + E.length)
  cut : ∀ pre c, c < E.length → R (pre ++ E.take c) pre.length = .error 3
theorem Lay.bind {α β : Type} {R : List Nat → Nat → Except Nat (α × Nat)} {F : α → List Nat → Nat → Except Nat (β × Nat)} {E E2 : List Nat} {a : α} {b : β} (h : Lay R E a) (k : Lay (F a) E2 b) : Lay (fun l i => thenR (R l i) fun x q => F x l q) (E ++ E2) b := by
  refine ⟨fun pre post => ?_, fun pre c hc => ?_⟩
  · have h1 := h.ok pre (E2 ++ post)
    have h2 := k.ok (pre ++ E) post
    show thenR (R (pre ++ ((E ++ E2) ++ post)) pre.length) _ = _
    rw [List.append_assoc E, h1]
    show F a (pre ++ (E ++ (E2 ++ post))) (pre.length + E.length) = _
    rw [List.append_assoc, List.length_append] at h2
    rw [h2, List.length_append, Nat.add_assoc]
  · show thenR (R (pre ++ (E ++ E2).take c) pre.length) _ = _
    by_cases hlt : c < E.length
    · rw [List.take_append_of_le_length (Nat.le_of_lt hlt), h.cut pre c hlt]
      rfl
    · have e : (E ++ E2).take c = E ++ E2.take (c - E.length) := by
        rw [List.take_append, List.take_of_length_le (by omega)]
      rw [e, h.ok pre _]
      show F a (pre ++ (E ++ E2.take (c - E.length))) (pre.length + E.length) = _
      have h2 := k.cut (pre ++ E) (c - E.length) (by rw [List.length_append] at hc; omega)
      rw [List.append_assoc, List.length_append] at h2
      exact h2
theorem Lay.pure {β : Type} (b : β) : Lay (fun _ q => .ok (b, q)) [] b := ⟨fun _ _ => rfl, fun _ _ h => by cases h⟩
theorem Lay.map {α β : Type} {R : List Nat → Nat → Except Nat (α × Nat)} {E : List Nat} {a : α} (h : Lay R E a) (g : α → β) : Lay (fun l i => thenR (R l i) fun x q => .ok (g x, q)) E (g a) := by
  have := h.bind (F := fun x _ q => .ok (g x, q)) (Lay.pure (g a))
  rwa [List.append_nil] at this
theorem getE_at (pre t : List Nat) : getE (pre ++ t) (pre.length : Int) = getR pre.length t := by
  rw [getE, if_neg (by simp; omega)]
  simp only [Int.toNat_natCast, List.drop_left]
theorem getR_cut (p x c : Nat) (hc : c < (numL x).length) : getR p ((numL x).take c) = (0, 0, 3) := by
  have hk := nb_le x
  have hl := beL_len (nb x) x
  cases c with
  | zero => rfl
  | succ c =>
    have hc' : c < nb x := by simp only [numL, List.length_cons, hl] at hc; omega
    have e : (numL x).take (c + 1) = nb x :: (beL (nb x) x).take c := rfl
    rw [e, getR, if_neg (by omega), if_pos (by rw [List.length_take, hl]; omega)]
theorem lay_num {x : Nat} (h : x < 9223372036854775808) : Lay rdN (numL x) x := by
  refine ⟨fun pre post => ?_, fun pre c hc => ?_⟩
  · unfold rdN
    rw [getE_num pre post x (by unfold lim; omega)]
    show (if 9223372036854775808 ≤ x then _ else _) = _
    rw [if_neg (by omega)]
  · unfold rdN
    rw [getE_at, getR_cut _ _ _ hc]
theorem lay_id {s : List Nat} (h : s.length = 16) : Lay rdI s s := by
  refine ⟨fun pre post => ?_, fun pre c hc => ?_⟩
  · have : getI (pre ++ (s ++ post)) (pre.length : Int) = (s, pre.length + 16, 0) := by
      rw [getI, if_neg (by simp; omega), if_neg (by simp; omega)]
      simp only [Int.toNat_natCast, List.drop_left]
      rw [List.take_append_of_le_length (by omega), List.take_of_length_le (by omega)]
    unfold rdI
    rw [this, h]
  · have : getI (pre ++ s.take c) (pre.length : Int) = (z16, 0, 3) := by
      rw [getI, if_neg (by simp; omega), if_pos (by simp; omega)]
    unfold rdI
    rw [this]
theorem lay_text {s : List Nat} {m : Nat} (h : s.length ≤ m) (hm : m < 9223372036854775808) : Lay (fun l i => rdT l i m) (textL s) s := by
  have hlim : s.length < lim := by unfold lim; omega
  refine ⟨fun pre post => ?_, fun pre c hc => ?_⟩
  · have e := getE_num pre (s ++ post) s.length hlim
    have : getT (pre ++ (textL s ++ post)) (pre.length : Int) (m : Int) = (s, pre.length + (textL s).length, 0) := by
      have ea : pre ++ (textL s ++ post) = pre ++ (numL s.length ++ (s ++ post)) := by rw [textL, List.append_assoc]
      rw [ea]
      unfold getT
      rw [e]
      simp only [ne_eq, not_true_eq_false, if_false]
      rw [if_neg (by omega), if_neg (by simp; omega)]
      have e2 : pre ++ (numL s.length ++ (s ++ post)) = (pre ++ numL s.length) ++ (s ++ post) := by rw [List.append_assoc]
      have e3 : pre.length + (numL s.length).length = (pre ++ numL s.length).length := by rw [List.length_append]
      rw [e2, e3, List.drop_left, List.take_left]
      rw [textL, List.length_append, List.length_append, Nat.add_assoc]
    show (match getT (pre ++ (textL s ++ post)) (pre.length : Int) (m : Int) with | (x, q, 0) => Except.ok (x, q) | (_, _, e + 1) => .error (e + 1)) = _
    rw [this]
  · show (match getT (pre ++ (textL s).take c) (pre.length : Int) (m : Int) with | (x, q, 0) => Except.ok (x, q) | (_, _, e + 1) => .error (e + 1)) = _
    have : getT (pre ++ (textL s).take c) (pre.length : Int) (m : Int) = ([], 0, 3) := by
      by_cases hn : c < (numL s.length).length
      · have e : (textL s).take c = (numL s.length).take c := by rw [textL, List.take_append_of_le_length (by omega)]
        unfold getT
        rw [e, getE_at, getR_cut _ _ _ hn]
        rfl
      · have e : (textL s).take c = numL s.length ++ s.take (c - (numL s.length).length) := by
          rw [textL, List.take_append, List.take_of_length_le (by omega)]
        have hc2 : c < (numL s.length).length + s.length := by rw [textL, List.length_append] at hc; exact hc
        unfold getT
        rw [e, getE_num pre _ s.length hlim]
        simp only [ne_eq, not_true_eq_false, if_false]
        rw [if_neg (by omega), if_pos (by simp; omega)]
    rw [this]
theorem lay_with {x lo hi : Nat} (h1 : lo ≤ x) (h2 : x ≤ hi) (h3 : x < 9223372036854775808) : Lay (fun l i => rdW l i lo hi) (numL x) x := by
  have h := (lay_num h3).bind (F := fun x _ q => bif decide (((x : Nat) : Int) < ((lo : Nat) : Int)) then .error 2 else bif decide (((hi : Nat) : Int) < ((x : Nat) : Int)) then .error 2 else .ok (x, q)) (E2 := []) (b := x) (by
    rw [decide_eq_false (by omega), decide_eq_false (by omega)]
    exact Lay.pure x)
  rwa [List.append_nil] at h
theorem lay_count {x m : Nat} (h1 : x ≤ m) (h3 : x < 9223372036854775808) : Lay (fun l i => rdC l i m) (numL x) x := by
  have h := (lay_num h3).bind (F := fun x _ q => bif decide (((m : Nat) : Int) < ((x : Nat) : Int)) then .error 4 else .ok (x, q)) (E2 := []) (b := x) (by
    rw [decide_eq_false (by omega)]
    exact Lay.pure x)
  rwa [List.append_nil] at h
theorem lay_flag (b : Bool) : Lay rdF (flagL b) b := by
  cases b
  · exact (lay_with (x := 0) (lo := 0) (hi := 1) (by omega) (by omega) (by omega)).map fun x => decide (((x : Nat) : Int) = 1)
  · exact (lay_with (x := 1) (lo := 0) (hi := 1) (by omega) (by omega) (by omega)).map fun x => decide (((x : Nat) : Int) = 1)
theorem lay_nI {x : Int} (h : okN x) : Lay rdN (nI x) x.toNat := lay_num (by unfold okN at h; omega)
theorem lay_rep {α β : Type} {R : List Nat → Nat → Except Nat (β × Nat)} {E : α → List Nat} {A : α → β} : ∀ (xs : List α), (∀ x ∈ xs, Lay R (E x) (A x)) → Lay (fun l i => rdRep (R l) xs.length i) (xs.flatMap E) (xs.map A)
  | [], _ => Lay.pure []
  | x :: xs, h => by
    have h1 := h x List.mem_cons_self
    have h2 := lay_rep xs fun y hy => h y (List.mem_cons_of_mem _ hy)
    exact h1.bind (F := fun a l q => thenR (rdRep (R l) xs.length q) fun t q => .ok (a :: t, q)) (h2.map fun t => A x :: t)
theorem lay_trail {xs : List Int} (hl : xs.length ≤ 64) (h : ∀ x ∈ xs, 0 ≤ x ∧ x ≤ 5) : Lay rdTr (trailL xs) xs := by
  have h1 : ∀ x ∈ xs, Lay rdP5 (nI x) x := fun x hx => by
    have hx' := h x hx
    have := (lay_with (x := x.toNat) (lo := 0) (hi := 5) (by omega) (by omega) (by omega)).map fun x : Nat => ((x : Nat) : Int)
    rwa [Int.toNat_of_nonneg hx'.1] at this
  have h2 := lay_rep (R := rdP5) (E := nI) (A := fun x => x) xs h1
  rw [List.map_id'] at h2
  exact (lay_count (x := xs.length) (m := 64) hl (by omega)).bind (F := fun n l q => rdRep (rdP5 l) n q) h2
theorem lay_ids {xs : List (List Nat)} (hl : xs.length ≤ 16) (h : ∀ x ∈ xs, x.length = 16) : Lay rdIs (idsL xs) xs := by
  have h2 := lay_rep (R := rdI) (E := fun x : List Nat => x) (A := fun x => x) xs fun x hx => lay_id (h x hx)
  rw [List.map_id', List.flatMap_id'] at h2
  exact (lay_count (x := xs.length) (m := 16) hl (by omega)).bind (F := fun n l q => rdRep (rdI l) n q) h2
theorem lay_sess {i n : Int} (hi : okN i) (hn : okN n) : Lay rdS (sessL i n) (i.toNat, n.toNat) := by
  have e : sessL i n = nI i ++ nI n := by simp [sessL]
  rw [e]
  exact (lay_nI hi).bind (F := fun a l q => thenR (rdN l q) fun b q => .ok ((a, b), q)) ((lay_nI hn).map fun b => (i.toNat, b))
theorem lay_path {p : Nat → Nat} {n : Int} (hn : okN n) : Lay rdPa (pathL p n) (idL p, n.toNat) := by
  have e : pathL p n = idL p ++ nI n := by simp [pathL]
  rw [e]
  exact (lay_id (idL_len p)).bind (F := fun a l q => thenR (rdN l q) fun b q => .ok ((a, b), q)) ((lay_nI hn).map fun b => (idL p, b))
theorem lay_ver {n : Int} {p : Nat → Nat} (hn : okN n) : Lay rdVe (verL n p) (n.toNat, idL p) := by
  have e : verL n p = nI n ++ idL p := by simp [verL]
  rw [e]
  exact (lay_nI hn).bind (F := fun a l q => thenR (rdI l q) fun b q => .ok ((a, b), q)) ((lay_id (idL_len p)).map fun b => (n.toNat, b))
theorem lay_item {k : Nat → Nat} {n : Int} {p : Nat → Nat} {v : List Nat} (hn : okN n) (hv : v.length ≤ 64) : Lay rdIt (itemL k n p v) (idL k, (n.toNat, idL p), v) := by
  have e : itemL k n p v = idL k ++ (verL n p ++ textL v) := by simp [itemL, putT]
  rw [e]
  exact (lay_id (idL_len k)).bind (F := fun k l q => thenR (rdVe l q) fun v q => thenR (rdT l q 64) fun t q => .ok ((k, v, t), q)) ((lay_ver hn).bind (F := fun v l q => thenR (rdT l q 64) fun t q => .ok ((idL k, v, t), q)) ((lay_text hv (by omega)).map fun t => (idL k, (n.toNat, idL p), t)))
end Go.Proofs.Ythmcnlmphikicab
