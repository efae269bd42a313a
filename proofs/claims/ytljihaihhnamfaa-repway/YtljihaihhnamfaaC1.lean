/- Who is linked with whom; what all have heard, in memory. -/
import Derived.Test.YtljihaihhnamfaaA5
namespace Go.Proofs.Ytljihaihhnamfaa
open Go.RowKit

/-! ### Links -/
/-- A matrix with a link noted, one way, both ways. -/
def mxq (p q : Bool) (M : Nat → Nat → Bool) (a b : Nat) : Nat → Nat → Bool := bif q then setH (bif p then setH M a b true else M) b a true else (bif p then setH M a b true else M)
theorem mxq_1 (q : Bool) (M : Nat → Nat → Bool) (a b : Nat) : setH (mxq false q M a b) a b true = mxq true q M a b := by
  cases q
  · rfl
  · funext x y
    simp only [mxq, setH, cond]
    by_cases h1 : x = a ∧ y = b <;> by_cases h2 : x = b ∧ y = a <;> simp [h1, h2]
theorem mxq_2 (p : Bool) (M : Nat → Nat → Bool) (a b : Nat) : setH (mxq p false M a b) b a true = mxq p true M a b := by cases p <;> rfl
abbrev okP (n : Nat) (p : Int × Int) : Prop := 0 ≤ p.1 ∧ 0 ≤ p.2 ∧ p.1 < n ∧ p.2 < n ∧ p.1 ≠ p.2
def lkS (n : Nat) (M : Nat → Nat → Bool) (p : Int × Int) : Nat → Nat → Bool := if okP n p then mxq true true M p.1.toNat p.2.toNat else M
def lkF (n : Nat) (M : Nat → Nat → Bool) (l : List (Int × Int)) : Nat → Nat → Bool := l.foldl (lkS n) M
theorem lkF_step {n : Nat} {M : Nat → Nat → Bool} {l : List (Int × Int)} {i : Nat} (hi : i < l.length) : lkF n M (l.take (i + 1)) = lkS n (lkF n M (l.take i)) (l.getD i (0, 0)) := by
  rw [take_at (0, 0) l i hi]
  unfold lkF
  rw [List.foldl_append]
  rfl
theorem lkS_yes {n : Nat} {M : Nat → Nat → Bool} {p : Int × Int} (h : okP n p) {a b : Nat} (ha : p.1 = (a : Int)) (hb : p.2 = (b : Int)) : mxq true true M a b = lkS n M p := by
  rw [lkS, if_pos h, ha, hb]
  rfl
theorem lkS_no {n : Nat} {M : Nat → Nat → Bool} {p : Int × Int} (h : ¬ okP n p) : M = lkS n M p := by rw [lkS, if_neg h]
theorem mxq_at (M : Nat → Nat → Bool) (a b x y : Nat) : mxq true true M a b x y = true ↔ (x = a ∧ y = b) ∨ (x = b ∧ y = a) ∨ M x y = true := by
  simp only [mxq, setH, cond]
  by_cases h1 : x = a ∧ y = b <;> by_cases h2 : x = b ∧ y = a <;> simp [h1, h2]
theorem lkS_sym {n : Nat} {M : Nat → Nat → Bool} {p : Int × Int} (h : ∀ a b, M a b = M b a) : ∀ a b, lkS n M p a b = lkS n M p b a := fun a b => by
  unfold lkS
  split
  · rw [Bool.eq_iff_iff, mxq_at, mxq_at, h a b]
    constructor
    · rintro (⟨h1, h2⟩ | ⟨h1, h2⟩ | h1)
      · exact .inr (.inl ⟨h2, h1⟩)
      · exact .inl ⟨h2, h1⟩
      · exact .inr (.inr h1)
    · rintro (⟨h1, h2⟩ | ⟨h1, h2⟩ | h1)
      · exact .inr (.inl ⟨h2, h1⟩)
      · exact .inl ⟨h2, h1⟩
      · exact .inr (.inr h1)
  · exact h a b
theorem lkF_sym {n : Nat} : ∀ (l : List (Int × Int)) (M : Nat → Nat → Bool), (∀ a b, M a b = M b a) → ∀ a b, lkF n M l a b = lkF n M l b a := by
  intro l
  induction l with
  | nil => exact fun M h => h
  | cons p l ih => exact fun M h => ih _ (lkS_sym h)
theorem lkS_rel {n : Nat} {M R : Nat → Nat → Bool} {p : Int × Int} (h : ∀ a b, a < n → b < n → (R a b = true ↔ a = b ∨ M a b = true)) : ∀ a b, a < n → b < n → (lkS n R p a b = true ↔ a = b ∨ lkS n M p a b = true) := fun a b ha hb => by
  unfold lkS
  split
  · rw [mxq_at, mxq_at, h a b ha hb]
    constructor
    · rintro (h1 | h1 | h1 | h1)
      · exact .inr (.inl h1)
      · exact .inr (.inr (.inl h1))
      · exact .inl h1
      · exact .inr (.inr (.inr h1))
    · rintro (h1 | h1 | h1 | h1)
      · exact .inr (.inr (.inl h1))
      · exact .inl h1
      · exact .inr (.inl h1)
      · exact .inr (.inr (.inr h1))
  · exact h a b ha hb
theorem lkF_rel {n : Nat} : ∀ (l : List (Int × Int)) (M R : Nat → Nat → Bool), (∀ a b, a < n → b < n → (R a b = true ↔ a = b ∨ M a b = true)) → ∀ a b, a < n → b < n → (lkF n R l a b = true ↔ a = b ∨ lkF n M l a b = true) := by
  intro l
  induction l with
  | nil => exact fun M R h => h
  | cons p l ih => exact fun M R h => ih _ _ (lkS_rel h)
/-- Each reaches itself. -/
def dgF (i : Nat) : Nat → Nat → Bool := fun a b => decide (a = b ∧ a < i)
theorem dg_0 : mx0 = dgF 0 := by
  funext a b
  simp [mx0, dgF]
theorem dg_step (i : Nat) : setH (dgF i) i i true = dgF (i + 1) := by
  funext a b
  unfold setH dgF
  by_cases h : a = i ∧ b = i
  · rw [if_pos h, decide_eq_true]
    omega
  · rw [if_neg h, decide_eq_decide]
    omega
theorem dg_rel (n : Nat) : ∀ a b, a < n → b < n → (dgF n a b = true ↔ a = b ∨ mx0 a b = true) := fun a b ha _ => by
  unfold dgF mx0
  simp [ha]
/-! ### What was heard -/
structure NbH (n : Nat) (lk : Nat → Nat → Bool) (a : Nat) (l : List Hd) : Prop where
  of : OfNb n lk a l
  nd : l.Pairwise fun x y => x.n ≠ y.n
theorem NbH.nil (n : Nat) (lk : Nat → Nat → Bool) (a : Nat) : NbH n lk a [] := ⟨fun _ h => (by cases h), List.Pairwise.nil⟩
theorem NbH.put {n : Nat} {lk : Nat → Nat → Bool} {a b : Nat} {l : List Hd} {x : Hd} (h : NbH n lk a l) (hb : b < n) (hl : lk a b = true) (hx : x.n = (b : Int)) : NbH n lk a (putH l x) := by
  refine ⟨ofNb_put h.of hb hl hx, ?_⟩
  unfold putH
  rw [List.pairwise_append, List.pairwise_cons]
  refine ⟨h.nd.filter _, ⟨fun y hy => ?_, h.nd.filter _⟩, fun y hy z hz => ?_⟩
  · have := of_decide_eq_true (List.mem_filter.1 hy).2
    omega
  · have h1 := of_decide_eq_true (List.mem_filter.1 hy).2
    rcases List.mem_cons.1 hz with e | hz
    · rw [e]; omega
    · have h2 := of_decide_eq_true (List.mem_filter.1 hz).2
      omega
theorem NbH.le {n : Nat} {lk : Nat → Nat → Bool} {a : Nat} {l : List Hd} (h : NbH n lk a l) : l.length ≤ n := by
  have h1 : (l.map fun y => y.n.toNat).Nodup := by
    unfold List.Nodup
    rw [List.pairwise_map]
    refine h.nd.imp_of_mem fun {x y} hx hy hne => ?_
    obtain ⟨b, _, _, e1⟩ := h.of x hx
    obtain ⟨c, _, _, e2⟩ := h.of y hy
    omega
  have := nodup_short n _ h1 fun x hx => by
    obtain ⟨y, hy, rfl⟩ := List.mem_map.1 hx
    obtain ⟨b, hb, _, e⟩ := h.of y hy
    rw [e]
    simpa using hb
  simpa using this
theorem NbH.big {n : Nat} {lk : Nat → Nat → Bool} {a : Nat} {l : List Hd} (h : NbH n lk a l) (h6 : n ≤ 6) : l.length ≤ 4398046510976 := by
  have := h.le
  omega
/-- What is taken of what was heard ahead. -/
def ihS (n : Nat) (lk : Nat → Nat → Bool) (a : Nat) (acc : List Hd) (x : Hd) : List Hd := if 0 ≤ x.n ∧ x.n < n ∧ lk a x.n.toNat = true then putH acc x else acc
def ihF (n : Nat) (lk : Nat → Nat → Bool) (a : Nat) (l : List Hd) : List Hd := l.foldl (ihS n lk a) []
theorem ihF_step {n : Nat} {lk : Nat → Nat → Bool} {a : Nat} {l : List Hd} {i : Nat} (hi : i < l.length) : ihF n lk a (l.take (i + 1)) = ihS n lk a (ihF n lk a (l.take i)) (l.getD i zH) := by
  rw [take_at zH l i hi]
  unfold ihF
  rw [List.foldl_append]
  rfl
theorem ihF_nb (n : Nat) (lk : Nat → Nat → Bool) (a : Nat) (l : List Hd) : NbH n lk a (ihF n lk a l) := by
  have : ∀ (l : List Hd) (acc : List Hd), NbH n lk a acc → NbH n lk a (l.foldl (ihS n lk a) acc) := by
    intro l
    induction l with
    | nil => exact fun acc h => h
    | cons x l ih =>
      intro acc h
      refine ih _ ?_
      unfold ihS
      split
      · rename_i c
        exact h.put (b := x.n.toNat) (by omega) c.2.2 (by omega)
      · exact h
  exact this l [] (NbH.nil n lk a)
/-! ### Rows of rows -/
/-- A row as it stands in a row of rows. -/
structure RVh where
  ao : Option Addr
  cap : Nat
  l : List Hd
def zR : RVh := ⟨none, 0, []⟩
def kS : Kd RVh := ⟨fun r => [.slice r.ao r.l.length r.cap], 1, fun _ => True, zR, fun _ => rfl, fun r v hv => by rw [List.mem_singleton.1 hv]; rfl⟩
theorem rS : RowT Try.prog 43 24 kS.sz 24 (.slice none 0 0) := ⟨Try.underlying43, info_of (by kernel_rfl), rfl, by decide⟩
theorem si24 : (Try.prog.info? 24).map (·.size) = some 1 := by kernel_rfl
theorem run_ldKS {o : Oper} {A : Act} {w : World} {ao : Option Addr} {cap : Nat} {l : List RVh} (h : RK kS w ao cap l) (x : Operand) (ho : o.op = .load 24 x) (j : Nat) (hx : A.eval x = .pointer (pK kS ao j 0)) (hj : j < l.length) : (execOp A.eval o).run Try.prog w = .ok (.value (.slice (l.getD j zR).ao (l.getD j zR).l.length (l.getD j zR).cap)) w :=
  run_ldKc h 24 (na24 w) 0 (by decide) x ho j hx hj _ rfl
/-- All rows, in one's own row of rows. -/
def hrL (n : Nat) (f : Nat → Option Addr × Nat) (H : Nat → List Hd) : List Value := (List.range n).map fun c => .slice (f c).1 (H c).length (f c).2
def hrA (n : Nat) (f : Nat → Option Addr × Nat) (H : Nat → List Hd) : Array Value := (hrL n f H).toArray
def updF {α : Type} (f : Nat → α) (a : Nat) (v : α) : Nat → α := fun c => if c = a then v else f c
theorem hrA_size (n : Nat) (f : Nat → Option Addr × Nat) (H : Nat → List Hd) : (hrA n f H).size = n := by simp [hrA, hrL]
theorem hrA_at {n : Nat} (f : Nat → Option Addr × Nat) (H : Nat → List Hd) {a : Nat} (ha : a < n) : (hrA n f H)[a]? = some (.slice (f a).1 (H a).length (f a).2) := by simp [hrA, hrL, ha]
theorem hrA_set {n : Nat} (f : Nat → Option Addr × Nat) (H : Nat → List Hd) {a : Nat} (ha : a < n) (ao : Option Addr) (cap : Nat) (L : List Hd) : splice (hrA n f H) a #[.slice ao L.length cap] = hrA n (updF f a (ao, cap)) (updF H a L) := by
  rw [splice_one _ _ _ (by rw [hrA_size]; exact ha)]
  unfold hrA
  rw [List.setIfInBounds_toArray]
  congr 1
  apply List.ext_getElem?
  intro i
  rw [List.getElem?_set]
  unfold hrL
  simp only [List.getElem?_map, List.length_map, List.length_range]
  by_cases hi : i < n
  · rw [List.getElem?_range hi]
    by_cases c : a = i
    · subst c
      simp [updF, ha]
    · simp [updF, c, Ne.symm c]
  · rw [List.getElem?_eq_none (by simpa using hi)]
    have : a ≠ i := by omega
    simp [this]
theorem hrA_0 (n : Nat) : hrA n (fun _ => (none, 0)) (fun _ => []) = ((List.replicate n zR).flatMap kS.E).toArray := by
  unfold hrA hrL
  congr 1
  rw [List.flatMap_replicate]
  induction n with
  | zero => rfl
  | succ n ih =>
    rw [List.range_succ, List.map_append, ih, List.replicate_succ', List.flatten_append]
    rfl
structure HFr (w : World) (S : List Nat) (n : Nat) (lk : Nat → Nat → Bool) (f : Nat → Option Addr × Nat) (H : Nat → List Hd) : Prop where
  rk : ∀ c, c < n → RK kH w (f c).1 (f c).2 (H c)
  ap : ∀ c, c < n → ∀ ad, (f c).1 = some ad → 0 < ((H c).flatMap kH.E).length → ad.block ∉ S
  nb : ∀ c, c < n → NbH n lk c (H c)
section
variable {w w' : World} {S S' : List Nat} {n : Nat} {lk : Nat → Nat → Bool} {f : Nat → Option Addr × Nat} {H : Nat → List Hd} {g : Nat}
theorem HFr.nil (w : World) (S : List Nat) (n : Nat) (lk : Nat → Nat → Bool) : HFr w S n lk (fun _ => (none, 0)) (fun _ => []) := ⟨fun _ _ => RK.nil w, fun _ _ _ h => (by cases h), fun c _ => NbH.nil n lk c⟩
theorem HFr.gro (h : HFr w S n lk f H) (G : Gro w w') : HFr w' S n lk f H := ⟨fun c hc => (h.rk c hc).gro G, h.ap, h.nb⟩
theorem HFr.gros (h : HFr w S n lk f H) (G : GroS S' w w') (hs : ∀ x ∈ S', x ∈ S) : HFr w' S n lk f H := ⟨fun c hc => (h.rk c hc).gros G fun ad ha h0 hm => h.ap c hc ad ha h0 (hs _ hm), h.ap, h.nb⟩
theorem HFr.stS {x : Obj} (h : HFr w S n lk f H) (St : Stored w w' g x) (hg : g ∈ S) : HFr w' S n lk f H := h.gros St.gros fun y hy => by rw [List.mem_singleton.1 hy]; exact hg
theorem HFr.ne (h : HFr w S n lk f H) (e : w.heap.size = g) : ∀ c, c < n → NE (f c).1 ((H c).flatMap kH.E).length g := fun c hc => (h.rk c hc).ne e
theorem HFr.st {x : Obj} (h : HFr w S n lk f H) (St : Stored w w' g x) (hn : ∀ c, c < n → NE (f c).1 ((H c).flatMap kH.E).length g) : HFr w' S n lk f H := ⟨fun c hc => (h.rk c hc).st St (hn c hc), h.ap, h.nb⟩
theorem HFr.more (h : HFr w S n lk f H) (hg : w.heap.size ≤ g) : HFr w (g :: S) n lk f H := ⟨h.rk, fun c hc ad ha h0 hm => by
  rcases List.mem_cons.1 hm with e | hm
  · have := (h.rk c hc).lt ad ha h0
    omega
  · exact h.ap c hc ad ha h0 hm, h.nb⟩
theorem HFr.put (h : HFr w S n lk f H) {a b B : Nat} {ao : Option Addr} {cap : Nat} {x : Hd} (O : OW kH 26 w B ao cap (putH (H a) x)) (hS : ∀ s ∈ S, s < B) (ha : a < n) (hb : b < n) (hl : lk a b = true) (hx : x.n = (b : Int)) : HFr w S n lk (updF f a (ao, cap)) (updF H a (putH (H a) x)) := by
  refine ⟨fun c hc => ?_, fun c hc ad had h0 => ?_, fun c hc => ?_⟩
  · unfold updF
    by_cases e : c = a
    · rw [if_pos e, if_pos e]; exact O.re
    · rw [if_neg e, if_neg e]; exact h.rk c hc
  · unfold updF at had h0
    by_cases e : c = a
    · rw [if_pos e] at had
      intro hm
      have h1 := O.own.base ad.block (mem_blk.2 ⟨ad, had, rfl⟩)
      have h2 := hS _ hm
      omega
    · rw [if_neg e] at had h0
      exact h.ap c hc ad had h0
  · unfold updF
    by_cases e : c = a
    · rw [if_pos e, e]; exact (h.nb a ha).put hb hl hx
    · rw [if_neg e]; exact h.nb c hc
theorem HFr.same {H' : Nat → List Hd} (h : HFr w S n lk f H) (e : ∀ c, c < n → H c = H' c) : HFr w S n lk f H' := ⟨fun c hc => e c hc ▸ h.rk c hc, fun c hc => e c hc ▸ h.ap c hc, fun c hc => e c hc ▸ h.nb c hc⟩
end
theorem hrA_same {n : Nat} {f : Nat → Option Addr × Nat} {H H' : Nat → List Hd} (e : ∀ c, c < n → H c = H' c) : hrA n f H = hrA n f H' := by
  unfold hrA hrL
  congr 1
  refine List.map_congr_left fun c hc => ?_
  rw [e c (List.mem_range.1 hc)]
section
variable {o : Oper} {A : Act} {w : World}
theorem run_ixG (x y : Operand) (ho : o.op = .indexAddr 43 x y) (g n a : Nat) (hx : A.eval x = .slice (some ⟨g, 0, none⟩) n n) (hy : A.eval y = .int .i64 (a : Int)) (ha : a < n) (w : World) : (execOp A.eval o).run Try.prog w = .ok (.value (.pointer (some ⟨g, a, none⟩))) w := by
  have := run_idxX rS x y ho ⟨g, 0, none⟩ n n a hx hy ha w
  rw [add_at, show kS.sz = 1 from rfl, Nat.mul_one, Nat.zero_add] at this
  exact this
theorem ldG {n : Nat} {f : Nat → Option Addr × Nat} {H : Nat → List Hd} (y : Operand) (ho : o.op = .load 24 y) (g a : Nat) (hx : A.eval y = .pointer (some ⟨g, a, none⟩)) (hg : w.heap[g]? = some (.cells (hrA n f H) 24 (0, 0))) (ha : a < n) : (execOp A.eval o).run Try.prog w = .ok (.value (.slice (f a).1 (H a).length (f a).2)) w :=
  run_ldc 24 y ho g a hx 24 _ hg (na24 w) _ (hrA_at f H ha)
end
/-! ### Worlds -/
def wdA (ai : Option Addr) (ni ci : Nat) (al : Option Addr) (nl cl : Nat) (ah : Option Addr) (nh ch : Nat) : Array Value := #[.slice ai ni ci, .slice al nl cl, .slice ah nh ch]
section
variable {ai : Option Addr} {ni ci : Nat} {al : Option Addr} {nl cl : Nat} {ah : Option Addr} {nh ch : Nat} {o : Oper} {A : Act} {w : World}
theorem siW : (Try.prog.info? 45).map (·.size) = some 3 := by kernel_rfl
theorem siW' : (Try.prog.info? 45).map (·.size) = some (wdA ai ni ci al nl cl ah nh ch).size := siW
theorem wdA_one : (wdA ai ni ci al nl cl ah nh ch).all (·.oneCell') = true := by kernel_rfl
theorem ldWi (y : Operand) (ho : o.op = .load 41 y) (g : Nat) (hx : A.eval y = .pointer (some ⟨g, 0, none⟩)) (hg : w.heap[g]? = some (.cells (wdA ai ni ci al nl cl ah nh ch) 45 (0, 0))) : (execOp A.eval o).run Try.prog w = .ok (.value (.slice ai ni ci)) w :=
  run_ldc 41 y ho g 0 hx 45 _ hg (na41 w) _ rfl
theorem ldWl (y : Operand) (ho : o.op = .load 42 y) (g : Nat) (hx : A.eval y = .pointer (some ⟨g, 1, none⟩)) (hg : w.heap[g]? = some (.cells (wdA ai ni ci al nl cl ah nh ch) 45 (0, 0))) : (execOp A.eval o).run Try.prog w = .ok (.value (.slice al nl cl)) w :=
  run_ldc 42 y ho g 1 hx 45 _ hg (na42 w) _ rfl
theorem ldWh (y : Operand) (ho : o.op = .load 43 y) (g : Nat) (hx : A.eval y = .pointer (some ⟨g, 2, none⟩)) (hg : w.heap[g]? = some (.cells (wdA ai ni ci al nl cl ah nh ch) 45 (0, 0))) : (execOp A.eval o).run Try.prog w = .ok (.value (.slice ah nh ch)) w :=
  run_ldc 43 y ho g 2 hx 45 _ hg (na43 w) _ rfl
theorem ldW0 (y : Operand) (ho : o.op = .load 45 y) (g : Nat) (hx : A.eval y = .pointer (some ⟨g, 0, none⟩)) (hg : w.heap[g]? = some (.cells (wdA ai ni ci al nl cl ah nh ch) 45 (0, 0))) : (execOp A.eval o).run Try.prog w = .ok (.value (.agg (wdA ai ni ci al nl cl ah nh ch))) w :=
  run_lda 45 y ho g 0 3 hx 45 _ hg _ Try.underlying45 rfl siW (Nat.le_refl 3) _ rfl
end
/-! ### Made rows -/
theorem made_K {α : Type} (K : Kd α) (zc : Array Value) (hz : zc.toList = K.E K.z) (n : Nat) : madeCells zc (n * K.sz) = ((List.replicate n K.z).flatMap K.E).toArray := by
  have hs : zc.size = K.sz := by rw [← Array.length_toList, hz, K.len]
  apply Array.toList_inj.1
  apply List.ext_getElem?
  intro i
  have hl : ((List.replicate n K.z).flatMap K.E).length = n * K.sz := by rw [flx_len K.len, List.length_replicate]
  by_cases hi : i < n * K.sz
  · have h0 : 0 < K.sz := Nat.pos_of_ne_zero fun h => by rw [h, Nat.mul_zero] at hi; omega
    have hq : i / K.sz < n := Nat.div_lt_of_lt_mul (by rw [Nat.mul_comm]; exact hi)
    have hr : i % K.sz < K.sz := Nat.mod_lt _ h0
    have ej : i / K.sz * K.sz + i % K.sz = i := by rw [Nat.mul_comm]; exact Nat.div_add_mod i K.sz
    have h2 := flx_cell K.len K.z (List.replicate n K.z) (i / K.sz) (by rw [List.length_replicate]; exact hq) (i % K.sz) hr
    have hg : (List.replicate n K.z).getD (i / K.sz) K.z = K.z := by simp [List.getD_eq_getElem?_getD, hq]
    rw [ej, hg, ← hz] at h2
    rw [h2]
    simp only [madeCells, Array.toList_map, Array.toList_range, List.getElem?_map, List.getElem?_range hi, Option.map_some, hs]
    rw [Array.getElem?_toList]
    generalize i % K.sz = k at *
    rw [getElem!_pos zc k (by omega), Array.getElem?_eq_getElem (by omega)]
  · rw [List.getElem?_eq_none (by simp only [madeCells, Array.toList_map, Array.toList_range, List.length_map, List.length_range]; omega), List.getElem?_eq_none (by rw [hl]; omega)]
section
variable {α : Type} {K : Kd α} {e t b : TypeId} {z : Value} {ops : Array Oper} {rest : List Oper} {T : List Value} {ds : List Deferred} {w : World} {Q : Exit → Act → World → Prop} {o : Oper}
theorem s_mkK (R : RowT Try.prog t e K.sz b z) (hzc : z.cells.toList = K.E K.z) (dst : Nat) (hd : o.dst = some dst) (hgd : o.guard = none) (x y : Operand) (ho : o.op = .makeSlice t x y) (n : Nat) (hx : (⟨T.toArray, ds⟩ : Act).eval x = .int .i64 (n : Int)) (hy : (⟨T.toArray, ds⟩ : Act).eval y = .int .i64 (n : Int)) (hb : n ≤ 1000000) (hb2 : b ≤ 100)
    (h : ∀ w' g, Gro w w' → w.heap.size = g → w'.heap[g]? = some (.cells ((List.replicate n K.z).flatMap K.E).toArray e (0, 0)) → wpList Try.prog ops Q rest ⟨(T.set dst (.slice (some ⟨g, 0, none⟩) n n)).toArray, ds⟩ w') : wpList Try.prog ops Q (o :: rest) ⟨T.toArray, ds⟩ w := by
  obtain ⟨i, hi, hz, hsz, hby⟩ := R.info
  have hm : n * b ≤ 100000000 := Nat.mul_le_mul hb hb2
  have hr := run_make (P := Try.prog) w t e i _ R.und hi hz .i64 .i64 (n : Int) (n : Int) (by omega) (Int.le_refl _) (by rw [hby, ← Int.natCast_mul]; have h9 : b * n ≤ 100000000 := (by rw [Nat.mul_comm]; exact hm); exact Int.le_trans (Int.ofNat_le.2 h9) (by decide)) (by omega)
  simp only [Int.toNat_natCast, hsz, made_K K z.cells hzc n] at hr
  refine wpList_plain hgd fun _ hK => ?_
  have he : (execOp (Act.eval ⟨T.toArray, ds⟩) o).run Try.prog w = .ok (.value (.slice (some ⟨w.heap.size, 0, none⟩) n n)) (w.alloc (.cells ((List.replicate n K.z).flatMap K.E).toArray e)) := by
    unfold execOp
    simp only [ho, hx, hy, Sem.run_bind, hr, Result.andThen_ok, Sem.run_pure]
  unfold Oper.wp
  rw [he, Oper.upon_value, hd, put_list]
  exact hK _ _ (h _ _ (gro_alloc _ _) rfl (heap_alloc_new _ _))
end
theorem opX_val {P : Program} {ops : Array Oper} {R : World → Prop} {k : PostE} {o : Oper} {A : Act} {w w' : World} {v : Value} (hw : Region.wanted o (yielded ops A.tmps) = true) (h : (execOp A.eval o).run P w = .ok (.value v) w') (hR : R w') (hk : k.p v w') : OpX P ops R k o A w :=
  ⟨hw, by rw [h]; exact ⟨hR, hk⟩⟩
/-- A row of one's own that an operation of a region makes. -/
def ownK {α : Type} (B : Nat) (K : Kd α) (e : TypeId) (L : List α) : PostE := PostE.ex (fun v x => ∃ ao cap, v = .slice ao L.length cap ∧ OW K e x B ao cap L) (fun _ _ _ G ⟨a, c, h1, h2⟩ => ⟨a, c, h1, h2.gro G⟩)
theorem fill_ownK {α : Type} (B : Nat) (K : Kd α) (e : TypeId) (L : List α) (v : Value) : (ownK B K e L).fill v = v := rfl
/-- Two results: a slot, an array in memory. -/
theorem results_tmp_cell {P : Program} {fn : Func} {p q : Tmp} {ty : TypeId} (h : fn.results = #[.tmp q, .cell p ty]) (tmps : Array Value) (w : World) (g : Nat) (t : TypeId) (cs : Array Value) (fr : Nat × Nat) (d : TypeDesc)
    (hp : tmps.getD p undef = .pointer (some ⟨g, 0, none⟩)) (v : Value) (hq : tmps.getD q undef = v) (hg : w.heap[g]? = some (.cells cs t fr))
    (hu : P.underlying ty = some d) (hd : (match d with | .struct _ | .array _ _ => true | _ => false) = true) (hi : (P.info? ty).map (·.size) = some cs.size) :
    (results fn tmps).run P w = .ok (.tuple #[v, .agg cs]) w := by
  have hp' : tmps[p]?.getD undef = .pointer (some ⟨g, 0, none⟩) := by simpa using hp
  have hq' : tmps[q]?.getD undef = v := by simpa using hq
  simp [results, h, hp', hq', asAddr, run_loadVar_row w g t ty cs fr d hg hu hd hi]
end Go.Proofs.Ytljihaihhnamfaa
