/- Choices and what is known: which one is ahead, which one is chosen. No program. -/
import Derived.Test.YtipfllalfifheaaP1
import Derived.Test.YtipfllalfifheaaW14
namespace Go.Proofs.Ytipfllalfifheaa
open Classical
open Go.RowKit

/-- A choice. -/
structure Ch where
  id : Nat
  near : Bool
  p : Pa
  n : Int
def eqC (x y : Ch) : Bool := decide (x.id = y.id) && (decide (x.near = y.near) && (eqP x.p y.p && (decide (x.n = y.n))))
@[simp] theorem eqC_eq (x y : Ch) : eqC x y = decide (x = y) := by
  obtain ⟨a0, a1, a2, a3⟩ := x
  obtain ⟨b0, b1, b2, b3⟩ := y
  simp [eqC]
/-- A neighbour. -/
structure Nr where
  n : Int
  id : Nat
def eqN (x y : Nr) : Bool := decide (x.n = y.n) && (decide (x.id = y.id))
@[simp] theorem eqN_eq (x y : Nr) : eqN x y = decide (x = y) := by
  obtain ⟨a0, a1⟩ := x
  obtain ⟨b0, b1⟩ := y
  simp [eqN]
structure Ch.ok (c : Ch) : Prop where
  id : c.id < top
  p : c.p.ok
  n : I64 c.n
structure Nr.ok (c : Nr) : Prop where
  n : I64 c.n
  id : c.id < top
def zC : Ch := ⟨0, false, zP, 0⟩
def zN : Nr := ⟨0, 0⟩
theorem zC_ok : zC.ok := ⟨top_0, zP_ok, I64.z⟩
theorem zN_ok : zN.ok := ⟨I64.z, top_0⟩
/-- Is a ahead of b: by the program, by the document. -/
def bef (d : Nat) (a b : Ch) : Bool :=
  if a.id = b.id then
    (if (decide (a.n = -1) || decide (b.n = -1)) = true then !decide (b.n = -1)
    else if a.near = b.near then
      (if (a.near || eqP a.p b.p) = true then decide (a.n < b.n) else decide (ky a.p < ky b.p))
    else a.near)
  else nearN d a.id b.id
def AllC (l : List Ch) : Prop := ∀ x ∈ l, x.ok
def AllN (l : List Nr) : Prop := ∀ x ∈ l, x.ok
theorem bef_near {d : Nat} {a b : Ch} (h : a.id ≠ b.id) : bef d a b = nearN d a.id b.id := by unfold bef; rw [if_neg h]
theorem bef_own {d : Nat} {a b : Ch} (h : a.id = b.id) (hb : b.n = -1) (ht : bef d a b = true) : a.n = -1 := by
  unfold bef at ht
  rw [if_pos h] at ht
  rw [if_pos (by simp [hb])] at ht
  simp [hb] at ht
theorem bef_irr (d : Nat) (a : Ch) : bef d a a = false := by
  unfold bef
  rw [if_pos rfl]
  split
  · rename_i h
    simpa using h
  · simp
/-- One more is looked at. -/
def stp (d : Nat) (b c : Ch) : Ch := if bef d c b = true then c else b
/-- The one that is chosen. -/
def chs (d : Nat) (b : Ch) (l : List Ch) : Ch := l.foldl (stp d) b
theorem chs_nil (d : Nat) (b : Ch) : chs d b [] = b := rfl
theorem chs_app (d : Nat) (b c : Ch) (l : List Ch) : chs d b (l ++ [c]) = stp d (chs d b l) c := by simp [chs]
theorem stp_self (d : Nat) (b : Ch) : stp d b b = b := by unfold stp; split <;> rfl
theorem stp_mem {d : Nat} {b c : Ch} : stp d b c = b ∨ stp d b c = c := by
  unfold stp
  split
  · exact .inr rfl
  · exact .inl rfl
theorem chs_mem {d : Nat} : ∀ {l : List Ch} {b : Ch}, chs d b l = b ∨ chs d b l ∈ l
  | [], _ => .inl rfl
  | c :: r, b => by
    show chs d (stp d b c) r = b ∨ _
    rcases chs_mem (l := r) (b := stp d b c) with h | h
    · rw [h]
      rcases stp_mem (d := d) (b := b) (c := c) with e | e
      · exact .inl e
      · exact .inr (by rw [show chs d b (c :: r) = chs d (stp d b c) r from rfl, h, e]; exact List.mem_cons_self)
    · exact .inr (List.mem_cons_of_mem _ h)
theorem stp_ok {d : Nat} {b c : Ch} (hb : b.ok) (hc : c.ok) : (stp d b c).ok := by
  rcases stp_mem (d := d) (b := b) (c := c) with e | e <;> rw [e] <;> assumption
theorem chs_ok {d : Nat} {l : List Ch} {b : Ch} (hb : b.ok) (hl : AllC l) : (chs d b l).ok := by
  rcases chs_mem (d := d) (l := l) (b := b) with e | e
  · rw [e]; exact hb
  · exact hl _ e
/-- None is nearer than the best of those that were looked at. -/
theorem stp_near {d : Nat} {b c : Ch} {x : Nat} (_hd : d < top) (_hb : b.ok) (_hc : c.ok) (hx : nearN d x b.id = false) : nearN d x (stp d b c).id = false ∧ nearN d c.id (stp d b c).id = false := by
  unfold stp
  by_cases e : bef d c b = true
  · rw [if_pos e]
    refine ⟨?_, near_irr d c.id⟩
    by_cases h : c.id = b.id
    · rw [h]; exact hx
    · rw [bef_near h] at e
      cases hq : nearN d x c.id with
      | false => rfl
      | true => rw [near_trans d x c.id b.id hq e] at hx; cases hx
  · rw [if_neg e]
    refine ⟨hx, ?_⟩
    by_cases h : c.id = b.id
    · rw [h]; exact near_irr d b.id
    · rw [bef_near h] at e
      simpa using e
theorem chs_near {d : Nat} (hd : d < top) : ∀ {l : List Ch} {b : Ch}, b.ok → AllC l → ∀ x : Nat, nearN d x b.id = false → nearN d x (chs d b l).id = false ∧ ∀ c ∈ l, nearN d c.id (chs d b l).id = false
  | [], b, _, _, x, hx => ⟨hx, fun _ h => by cases h⟩
  | c :: r, b, hb, hl, x, hx => by
    have hc := hl c List.mem_cons_self
    have h0 := stp_near hd hb hc hx
    have hr : AllC r := fun y hy => hl y (List.mem_cons_of_mem _ hy)
    have h1 := chs_near hd (b := stp d b c) (stp_ok hb hc) hr x h0.1
    refine ⟨h1.1, fun y hy => ?_⟩
    rcases List.mem_cons.1 hy with rfl | hy
    · exact (chs_near hd (b := stp d b y) (stp_ok hb hc) hr y.id h0.2).1
    · exact h1.2 y hy
theorem stp_own {d : Nat} {b c : Ch} {s : Nat} (hs : nearN d s b.id = false) (hb : b.id = s → b.n = -1) : (stp d b c).id = s → (stp d b c).n = -1 := by
  unfold stp
  by_cases e : bef d c b = true
  · rw [if_pos e]
    intro h
    by_cases h2 : c.id = b.id
    · exact bef_own h2 (hb (h2 ▸ h)) e
    · rw [bef_near h2, h, hs] at e
      cases e
  · rw [if_neg e]
    exact hb
theorem chs_own {d : Nat} (hd : d < top) {s : Nat} : ∀ {l : List Ch} {b : Ch}, b.ok → AllC l → nearN d s b.id = false → (b.id = s → b.n = -1) → (chs d b l).id = s → (chs d b l).n = -1
  | [], _, _, _, _, hb => hb
  | c :: r, b, hb, hl, hs, hn => by
    have hc := hl c List.mem_cons_self
    exact chs_own hd (l := r) (b := stp d b c) (stp_ok hb hc) (fun y hy => hl y (List.mem_cons_of_mem _ hy)) (stp_near hd hb hc hs).1 (stp_own hs hn)
/-- What is known. -/
def selfC (s : Nat) : Ch := ⟨s, false, zP, -1⟩
def nearC (x : Nr) : Ch := ⟨x.id, true, zP, x.n⟩
def endA (x : En) : Ch := ⟨x.a, false, x.p, x.na⟩
def endB (x : En) : Ch := ⟨x.b, false, x.p, x.nb⟩
def ends (x : En) : List Ch := (if 0 ≤ x.na then [endA x] else []) ++ (if 0 ≤ x.nb then [endB x] else [])
def knw (s : Nat) (N : List Nr) (L : List En) : List Ch := (selfC s :: N.map nearC) ++ L.flatMap ends
def cho (d s : Nat) (N : List Nr) (L : List En) : Ch := chs d (selfC s) (knw s N L)
theorem m1_i64 : I64 (-1) := ⟨by decide, by decide⟩
theorem selfC_ok {s : Nat} (h : s < top) : (selfC s).ok := ⟨h, zP_ok, m1_i64⟩
theorem nearC_ok {x : Nr} (h : x.ok) : (nearC x).ok := ⟨h.id, zP_ok, h.n⟩
theorem endA_ok {x : En} (h : x.ok) : (endA x).ok := ⟨h.a, h.p, h.na⟩
theorem endB_ok {x : En} (h : x.ok) : (endB x).ok := ⟨h.b, h.p, h.nb⟩
theorem ends_ok {x : En} (h : x.ok) : AllC (ends x) := fun c hc => by
  unfold ends at hc
  rcases List.mem_append.1 hc with hc | hc
  · split at hc
    · rw [List.mem_singleton.1 hc]; exact endA_ok h
    · cases hc
  · split at hc
    · rw [List.mem_singleton.1 hc]; exact endB_ok h
    · cases hc
theorem knw_ok {s : Nat} {N : List Nr} {L : List En} (hs : s < top) (hN : AllN N) (hL : AllE L) : AllC (knw s N L) := fun c hc => by
  unfold knw at hc
  rcases List.mem_append.1 hc with hc | hc
  · rcases List.mem_cons.1 hc with rfl | hc
    · exact selfC_ok hs
    · obtain ⟨x, hx, rfl⟩ := List.mem_map.1 hc
      exact nearC_ok (hN x hx)
  · obtain ⟨x, hx, h⟩ := List.mem_flatMap.1 hc
    exact ends_ok (hL x hx) c h
theorem ends_len (x : En) : (ends x).length ≤ 2 := by
  unfold ends
  split <;> split <;> simp
theorem ends_sum : ∀ L : List En, (L.flatMap ends).length ≤ 2 * L.length
  | [] => by simp
  | x :: r => by
    have h1 := ends_len x
    have h2 := ends_sum r
    rw [List.flatMap_cons, List.length_append, List.length_cons]
    omega
theorem knw_len (s : Nat) (N : List Nr) (L : List En) : (knw s N L).length ≤ 1 + N.length + 2 * L.length := by
  have := ends_sum L
  unfold knw
  simp only [List.length_append, List.length_cons, List.length_map]
  omega
theorem cho_ok {d s : Nat} {N : List Nr} {L : List En} (hs : s < top) (hN : AllN N) (hL : AllE L) : (cho d s N L).ok := chs_ok (selfC_ok hs) (knw_ok hs hN hL)
/-- No one that is known is nearer than the choice. -/
theorem cho_near {d s : Nat} {N : List Nr} {L : List En} (hd : d < top) (hs : s < top) (hN : AllN N) (hL : AllE L) : ∀ c ∈ knw s N L, nearN d c.id (cho d s N L).id = false :=
  (chs_near hd (selfC_ok hs) (knw_ok hs hN hL) s (near_irr d s)).2
theorem cho_self {d s : Nat} {N : List Nr} {L : List En} (hd : d < top) (hs : s < top) (hN : AllN N) (hL : AllE L) (hn : (cho d s N L).n ≠ -1) : (cho d s N L).id ≠ s ∧ nearN d (cho d s N L).id s = true := by
  have h1 : (cho d s N L).id ≠ s := fun e => hn (chs_own hd (selfC_ok hs) (knw_ok hs hN hL) (near_irr d s) (fun _ => rfl) e)
  refine ⟨h1, ?_⟩
  have h2 := (chs_near hd (selfC_ok hs) (knw_ok hs hN hL) s (near_irr d s)).1
  have h3 := near_not d s (cho d s N L).id hs (cho_ok hs hN hL).id hd (Ne.symm h1)
  rw [show nearN d s (cho d s N L).id = false from h2] at h3
  exact h3
theorem cho_mem {d s : Nat} {N : List Nr} {L : List En} : cho d s N L ∈ knw s N L := by
  rcases chs_mem (d := d) (l := knw s N L) (b := selfC s) with e | e
  · unfold cho
    rw [e]
    exact List.mem_append_left _ List.mem_cons_self
  · exact e
theorem knw_sub {s : Nat} {N : List Nr} {L M : List En} (h : ∀ x ∈ L, x ∈ M) : ∀ c ∈ knw s N L, c ∈ knw s N M := fun c hc => by
  unfold knw at *
  rcases List.mem_append.1 hc with hc | hc
  · exact List.mem_append_left _ hc
  · obtain ⟨x, hx, hh⟩ := List.mem_flatMap.1 hc
    exact List.mem_append_right _ (List.mem_flatMap.2 ⟨x, h x hx, hh⟩)
/-- Whoever knows more never chooses one that is farther away. -/
theorem cho_more {d s : Nat} {N : List Nr} {L M : List En} (hd : d < top) (hs : s < top) (hN : AllN N) (hM : AllE M) (h : ∀ x ∈ L, x ∈ M) : nearN d (cho d s N L).id (cho d s N M).id = false := cho_near hd hs hN hM _ (knw_sub h _ cho_mem)
/-- Entries laid into a table, one by one. -/
def layL (M L : List En) : List En := L.foldl (addL 128) M
theorem layL_app (M L : List En) (x : En) : layL M (L ++ [x]) = addL 128 (layL M L) x := by simp [layL]
theorem layL_two (A L K : List En) : layL A (L ++ K) = layL (layL A L) K := by simp [layL]
theorem addL_sub {room : Nat} {M : List En} {x : En} : ∀ y ∈ M, y ∈ addL room M x := fun y hy => by
  unfold addL
  split
  · exact insL_mem.2 (.inr hy)
  · exact hy
theorem layL_sub : ∀ (L M : List En), ∀ y ∈ M, y ∈ layL M L
  | [], _, _, hy => hy
  | x :: r, M, y, hy => layL_sub r (addL 128 M x) y (addL_sub y hy)
/-- All identities turned. -/
def addN (a b : Nat) : Nat := (a + b) % top
theorem addN_lt (a b : Nat) : addN a b < top := Nat.mod_lt _ (by decide)
theorem add_of_sub (a b : Nat) (ha : a < top) (hb : b < top) : subN a (subN 0 b) = addN a b := by
  unfold subN addN top at *
  omega
theorem sub_turned (x z y : Nat) (hx : x < top) (hz : z < top) : subN (addN x y) (addN z y) = subN x z := by
  unfold subN addN top at *
  omega
theorem add_inj (x z y : Nat) (hx : x < top) (hz : z < top) : (addN x y = addN z y) = (x = z) := by
  apply propext
  unfold addN top at *
  omega
theorem far_turned (x z y : Nat) (hx : x < top) (hz : z < top) : farN (addN x y) (addN z y) = farN x z := by
  unfold farN
  rw [sub_turned x z y hx hz, sub_turned z x y hz hx]
theorem near_turned (d a b y : Nat) (hd : d < top) (ha : a < top) (hb : b < top) : nearN (addN d y) (addN a y) (addN b y) = nearN d a b := by
  unfold nearN
  rw [far_turned a d y ha hd, far_turned b d y hb hd, sub_turned a d y ha hd, sub_turned b d y hb hd]
def tnC (y : Nat) (c : Ch) : Ch := { c with id := addN c.id y }
def tnN (y : Nat) (c : Nr) : Nr := { c with id := addN c.id y }
def tnE (y : Nat) (x : En) : En := { x with a := addN x.a y, b := addN x.b y }
theorem tnC_ok {y : Nat} {c : Ch} (h : c.ok) : (tnC y c).ok := ⟨addN_lt _ _, h.p, h.n⟩
theorem tnN_ok {y : Nat} {c : Nr} (h : c.ok) : (tnN y c).ok := ⟨h.n, addN_lt _ _⟩
theorem tnE_ok {y : Nat} {c : En} (h : c.ok) : (tnE y c).ok := ⟨h.p, addN_lt _ _, addN_lt _ _, h.na, h.nb⟩
theorem bef_turned {d y : Nat} {a b : Ch} (hd : d < top) (ha : a.ok) (hb : b.ok) : bef (addN d y) (tnC y a) (tnC y b) = bef d a b := by
  have h1 := add_inj a.id b.id y ha.id hb.id
  have h2 := near_turned d a.id b.id y hd ha.id hb.id
  unfold bef tnC
  simp only [h1, h2]
theorem stp_turned {d y : Nat} {a b : Ch} (hd : d < top) (ha : a.ok) (hb : b.ok) : stp (addN d y) (tnC y a) (tnC y b) = tnC y (stp d a b) := by
  unfold stp
  rw [bef_turned hd hb ha]
  split <;> rfl
theorem chs_turned {d y : Nat} (hd : d < top) : ∀ {l : List Ch} {b : Ch}, b.ok → AllC l → chs (addN d y) (tnC y b) (l.map (tnC y)) = tnC y (chs d b l)
  | [], _, _, _ => rfl
  | c :: r, b, hb, hl => by
    have hc := hl c List.mem_cons_self
    show chs (addN d y) (stp (addN d y) (tnC y b) (tnC y c)) (r.map (tnC y)) = _
    rw [stp_turned hd hb hc]
    exact chs_turned hd (l := r) (stp_ok hb hc) fun z hz => hl z (List.mem_cons_of_mem _ hz)
theorem ends_turned (y : Nat) (x : En) : ends (tnE y x) = (ends x).map (tnC y) := by
  unfold ends tnE
  split <;> split <;> rfl
theorem ends_all_turned (y : Nat) : ∀ L : List En, (L.map (tnE y)).flatMap ends = (L.flatMap ends).map (tnC y)
  | [] => rfl
  | x :: r => by rw [List.map_cons, List.flatMap_cons, List.flatMap_cons, List.map_append, ends_turned, ends_all_turned y r]
theorem knw_turned (y s : Nat) (N : List Nr) (L : List En) : knw (addN s y) (N.map (tnN y)) (L.map (tnE y)) = (knw s N L).map (tnC y) := by
  unfold knw
  rw [ends_all_turned, List.map_append, List.map_cons, List.map_map, List.map_map]
  rfl
theorem cho_turned {d y s : Nat} {N : List Nr} {L : List En} (hd : d < top) (hs : s < top) (hN : AllN N) (hL : AllE L) : cho (addN d y) (addN s y) (N.map (tnN y)) (L.map (tnE y)) = tnC y (cho d s N L) := by
  unfold cho
  rw [knw_turned]
  exact chs_turned hd (b := selfC s) (selfC_ok hs) (knw_ok hs hN hL)
theorem rgt_turned {y : Nat} {x : En} (hx : x.ok) : rgt (tnE y x) = rgt x := by
  have h1 := add_inj x.a x.b y hx.a hx.b
  unfold rgt tnE
  simp only [h1]
theorem hasL_turned (y : Nat) (p : Pa) : ∀ L : List En, hasL (L.map (tnE y)) p = hasL L p
  | [] => rfl
  | x :: r => by
    have ih := hasL_turned y p r
    unfold hasL getL at *
    rw [List.map_cons, List.find?_cons, List.find?_cons]
    have : (tnE y x).p = x.p := rfl
    rw [this]
    cases eqP x.p p
    · exact ih
    · rfl
theorem insL_turned (y : Nat) (x : En) : ∀ L : List En, insL (tnE y x) (L.map (tnE y)) = (insL x L).map (tnE y)
  | [] => rfl
  | z :: r => by
    show (if ky z.p < ky x.p then tnE y z :: insL (tnE y x) (r.map (tnE y)) else tnE y x :: tnE y z :: r.map (tnE y)) = (if ky z.p < ky x.p then z :: insL x r else x :: z :: r).map (tnE y)
    split
    · rw [insL_turned y x r]; rfl
    · rfl
theorem addL_turned {y : Nat} {x : En} {L : List En} (hx : x.ok) : addL 128 (L.map (tnE y)) (tnE y x) = (addL 128 L x).map (tnE y) := by
  have h : addC 128 (L.map (tnE y)) (tnE y x) = addC 128 L x := by
    unfold addC
    rw [rgt_turned hx, show (tnE y x).p = x.p from rfl, hasL_turned, List.length_map]
  unfold addL
  rw [h, insL_turned]
  split <;> rfl
theorem layL_turned {y : Nat} : ∀ {L M : List En}, AllE L → layL (M.map (tnE y)) (L.map (tnE y)) = (layL M L).map (tnE y)
  | [], _, _ => rfl
  | x :: r, M, h => by
    show layL (addL 128 (M.map (tnE y)) (tnE y x)) (r.map (tnE y)) = _
    rw [addL_turned (h x List.mem_cons_self)]
    exact layL_turned (L := r) (M := addL 128 M x) fun z hz => h z (List.mem_cons_of_mem _ hz)
theorem addL_ok {room : Nat} {M : List En} {x : En} (h : AllE M) (hx : x.ok) : AllE (addL room M x) := by
  unfold addL
  split
  · exact insL_all h hx
  · exact h
theorem layL_ok : ∀ {L M : List En}, AllE M → AllE L → AllE (layL M L)
  | [], _, h, _ => h
  | x :: r, _, h, hl => layL_ok (L := r) (addL_ok h (hl x List.mem_cons_self)) fun z hz => hl z (List.mem_cons_of_mem _ hz)
theorem addL_ris {M : List En} {x : En} (ha : AllE M) (h : Ris M) (hx : x.ok) : Ris (addL 128 M x) := by
  unfold addL
  split
  · rename_i h0
    exact insL_ris hx ha h (hasL_no (addC_0 h0).2.1)
  · exact h
theorem layL_ris : ∀ {L M : List En}, AllE M → Ris M → AllE L → Ris (layL M L)
  | [], _, _, h, _ => h
  | x :: r, _, ha, h, hl => layL_ris (L := r) (addL_ok ha (hl x List.mem_cons_self)) (addL_ris ha h (hl x List.mem_cons_self)) fun z hz => hl z (List.mem_cons_of_mem _ hz)
theorem addL_le {M : List En} {x : En} (h : M.length ≤ 128) : (addL 128 M x).length ≤ 128 := by
  unfold addL
  split
  · rename_i h0
    rw [insL_len]
    have := (addC_0 h0).2.2
    omega
  · exact h
theorem layL_le : ∀ {L M : List En}, M.length ≤ 128 → (layL M L).length ≤ 128
  | [], _, h => h
  | _ :: r, _, h => layL_le (L := r) (addL_le h)
theorem Ris.nil : Ris [] := List.Pairwise.nil
end Go.Proofs.Ytipfllalfifheaa
