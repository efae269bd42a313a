/- Rows of frames compared; frames that fit; the program's and the document's end at once. -/
import Derived.Test.YtlfanecaglbomaaEH13
namespace Go.Proofs.Ytlfanecaglbomaa
open Go.RowKit
theorem Yx {P : Program} {c1 c2 : Code} {Q : Exit → Act → World → Prop} {a : Act} {w : World} (R : Act → World → Prop) (h2 : ∀ a w, R a w → c2.wp P Q a w) (h1 : (∀ a w, R a w → c2.wp P Q a w) → c1.wp P (Exit.then (c2.wp P Q) Q) a w) : (Code.seq c1 c2).wp P Q a w := wp_seq (h1 h2)
def fitF (o : OpH) (x : ES) : Fr :=
  if o.kd = 4 then o.f
  else if o.kd = 5 then
    if o.f.kind = 3 then ⟨3, zF, 0, false, zF, zF, o.f.n, x.pi, x.pn, x.mi, x.mn, Sl.nil, Sl.nil, zF, 0, zF, Sl.nil, 0, 0, Sl.nil⟩
    else ⟨2, zF, 0, false, zF, zF, o.f.n, x.pi, x.pn, x.mi, x.mn, Sl.nil, Sl.nil, zF, 0, zF, Sl.nil, 0, 0, o.f.tx⟩
  else ⟨1, zF, 0, false, o.f.a, zF, 0, o.f.fi, o.f.fn, x.mi, x.mn, Sl.nil, Sl.nil, zF, 0, zF, Sl.nil, 0, 0, Sl.nil⟩
def fitD (o : OpH) : FD :=
  if o.kd = 4 then o.d else if o.kd = 5 then (if o.f.kind = 3 then ⟨[], [], [], []⟩ else ⟨[], [], [], o.d.tx⟩) else ⟨[], [], [], []⟩
structure FitW (w : World) (o : OpH) (x : ES) : Prop where
  fw : FrW w (fitF o x) (fitD o)
  fs : FrS (fitF o x)
  tx : (fitD o).tx.length ≤ 140737488355000
  old : ∀ ad, (fitF o x).tx.ao = some ad → 0 < (fitD o).tx.length → ad.block < w.heap.size
theorem OpW.gro {w w' : World} {o : OpH} (H : OpW w o) (G : Gro w w') : OpW w' o := ⟨H.nc.gro G, H.fw.gro G, H.fr⟩
theorem FitW.gro {w w' : World} {o : OpH} {x : ES} (H : FitW w o x) (G : Gro w w') : FitW w' o x := ⟨H.fw.gro G, H.fs, H.tx, fun ad ha h0 => Nat.lt_of_lt_of_le (H.old ad ha h0) G.size⟩
def Bth (B0 : Nat) (S : List Nat) (w : World) (p r : Nat) (id : Nat → Nat) (x y : ES) : Prop := ∃ mua tba mub tbb, EX w p id x mua tba ∧ DX w r id y mub tbb ∧ (∀ k ∈ mua, B0 ≤ k) ∧ (∀ k ∈ mub, B0 ≤ k) ∧ Dis mua mub ∧ Dis tba S ∧ Dis tbb S
section
variable {B0 : Nat} {S : List Nat} {w w' : World} {p r : Nat} {id : Nat → Nat} {x y : ES}
theorem Bth.gro (H : Bth B0 S w p r id x y) (G : Gro w w') : Bth B0 S w' p r id x y := by
  obtain ⟨a, b, c, d, h1, h2, h3⟩ := H
  exact ⟨a, b, c, d, h1.gro G, h2.gro G, h3⟩
theorem Bth.none (H : Bth B0 S w p r id x y) : Bth B0 [] w p r id x y := by
  obtain ⟨a, b, c, d, h1, h2, h3, h4, h5, _⟩ := H
  exact ⟨a, b, c, d, h1, h2, h3, h4, h5, fun _ _ h => (by cases h), fun _ _ h => (by cases h)⟩
theorem Bth.stT (H : Bth B0 S w p r id x y) {g : Nat} {t' : TypeId} (h98 : t' ≠ 98) (h121 : t' ≠ 121) (h36 : t' ≠ 36) (h5 : t' ≠ 5) (h34 : t' ≠ 34) {cs : Array Value} {o : Obj} (hg : w.heap[g]? = some (.cells cs t' (0, 0))) (St : Stored w w' g o) : Bth B0 S w' p r id x y := by
  obtain ⟨a, b, c, d, h1, h2, h3⟩ := H
  exact ⟨a, b, c, d, h1.stT h98 h121 h36 h5 hg St, h2.stT h34 h36 h5 hg St, h3⟩
theorem Bth.fst (H : Bth B0 S w p r id x y) (hB : B0 ≤ w.heap.size) (hS : ∀ k ∈ S, k < w.heap.size) : ∃ mu tb, EX w p id x mu tb ∧ (∀ k ∈ mu, B0 ≤ k) ∧ ∀ w' x' mu' tb', EX w' p id x' mu' tb' → GroS mu w w' → Fresh w mu mu' → Fresh w tb tb' → Bth B0 S w' p r id x' y := by
  obtain ⟨a, b, c, d, h1, h2, h3, h4, h5, h6, h7⟩ := H
  refine ⟨a, b, h1, h3, fun w' x' mu' tb' h G F F2 => ⟨mu', tb', c, d, h, h2.gros G h5 h1.own, fun k hk => (F k hk).elim (h3 k) fun h => Nat.le_trans hB h, h4, h5.fresh F h2.lt, h6.fresh F2 hS, h7⟩⟩
theorem Bth.snd (H : Bth B0 S w p r id x y) (hB : B0 ≤ w.heap.size) (hS : ∀ k ∈ S, k < w.heap.size) : ∃ mu tb, DX w r id y mu tb ∧ (∀ k ∈ mu, B0 ≤ k) ∧ ∀ w' y' mu' tb', DX w' r id y' mu' tb' → GroS mu w w' → Fresh w mu mu' → Fresh w tb tb' → Bth B0 S w' p r id x y' := by
  obtain ⟨a, b, c, d, h1, h2, h3, h4, h5, h6, h7⟩ := H
  refine ⟨c, d, h2, h4, fun w' x' mu' tb' h G F F2 => ⟨a, b, mu', tb', h1.gros G h5.symm h2.own, h, h3, fun k hk => (F k hk).elim (h4 k) fun h => Nat.le_trans hB h, (h5.symm.fresh F h1.lt).symm, h6, h7.fresh F2 hS⟩⟩
end
structure Bd (n : Nat) (x : ES) : Prop where
  k : x.k + x.q.length ≤ n
  c : x.c ≤ n
  dn : x.up = false → x = ES.new
theorem Bd.mono {n m : Nat} {x : ES} (h : Bd n x) (hm : n ≤ m) : Bd m x := ⟨Nat.le_trans h.k hm, Nat.le_trans h.c hm, h.dn⟩
theorem Bd.new (n : Nat) : Bd n ES.new := ⟨Nat.zero_le _, Nat.zero_le _, fun _ => rfl⟩
theorem Bd.rise {n : Nat} {x : ES} (h : Bd n x) (id : Nat → Nat) (i k : Int) : Bd n (riseS id x i k).1 := by
  unfold riseS
  split
  · exact h
  · exact ⟨h.k, h.c, fun e => by cases e⟩
theorem Bd.send {n : Nat} {x : ES} (h : Bd n x) (l : List Nat) : Bd (n + 1) (sendS x l).1 := by
  unfold sendS
  split
  · rename_i ho
    split
    · exact h.mono (Nat.le_succ _)
    · refine ⟨?_, Nat.le_succ_of_le h.c, fun e => ?_⟩
      · have := h.k
        simp only [List.length_append, List.length_cons, List.length_nil]
        omega
      · have := h.dn e
        rw [this] at ho
        cases ho
  · exact h.mono (Nat.le_succ _)
theorem ZV {n : Nat} {x : ES} (hk : x.k + x.q.length ≤ n) (hc : x.c ≤ n) (hu : x.up = true) (id : Nat → Nat) (d : Bool) (m : PF) : Bd n (metS id d x m).1 := by
  unfold metS
  split
  · split
    · exact ⟨hk, hc, fun e => by rw [hu] at e; cases e⟩
    · exact ⟨hk, hc, fun e => by simp only at e; rw [hu] at e; cases e⟩
  · exact ⟨hk, hc, fun e => by rw [hu] at e; cases e⟩
theorem Bd.hear {n : Nat} {x : ES} (h : Bd n x) (id : Nat → Nat) (m : PF) (ni nn : Int) : Bd (n + 1) (hearS id x m ni nn).1 := by
  have h1 := h.mono (Nat.le_succ n)
  unfold hearS
  split
  · rename_i hu
    split
    · unfold helloS
      split
      · exact h1
      · split
        · exact (ZV (n := n) (x := anewS x m ni nn) (Nat.zero_le _) (Nat.zero_le _) hu id x.op m).mono (Nat.le_succ _)
        · exact (ZV h.k h.c hu id false m).mono (Nat.le_succ _)
    · split
      · split
        · unfold cameS
          split
          · exact ⟨Nat.le_succ_of_le h.k, Nat.succ_le_succ h.c, fun e => by simp only at e; rw [hu] at e; cases e⟩
          · exact ⟨h1.k, h1.c, fun e => by simp only at e; rw [hu] at e; cases e⟩
        · exact h1
      · split
        · split
          · unfold ackS
            split
            · rename_i ha
              refine ⟨?_, h1.c, fun e => by simp only at e; rw [hu] at e; cases e⟩
              have := h1.k
              simp only [List.length_drop]
              simp only at ha
              omega
            · exact ⟨h1.k, h1.c, fun e => by simp only at e; rw [hu] at e; cases e⟩
          · exact h1
        · exact h1
  · exact h1
end Go.Proofs.Ytlfanecaglbomaa
