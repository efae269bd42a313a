/- Two ends and what is under way between them, in memory. -/
import Derived.Test.YtlfanecaglbomaaEO1
import Derived.Test.YtlfanecaglbomaaEH14
namespace Go.Proofs.Ytlfanecaglbomaa
open Go.RowKit
def c83 (x0 : Option Addr) (x1 : Option Addr) (x2 : Sl) (x3 : Sl) (x4 : Int) (x5 : Int) (x6 : Sl) (x7 : Sl) (x8 : Sl) (x9 : Sl) : Array Value := #[.pointer x0, .pointer x1, .slice x2.ao x2.n x2.cap, .slice x3.ao x3.n x3.cap, iK x4, iK x5, .slice x6.ao x6.n x6.cap, .slice x7.ao x7.n x7.cap, .slice x8.ao x8.n x8.cap, .slice x9.ao x9.n x9.cap]
theorem jS {o : Oper} {A : Act} (x y : Operand) (ho : o.op = .indexAddr 77 x y) (g off j : Nat) (hj : j < 2) (hx : A.eval x = pK g off) (hy : A.eval y = iK (j : Int)) (w : World) : (execOp A.eval o).run Try.prog w = .ok (.value (.pointer (some ⟨g, off + j, none⟩))) w := by
  have hs : (sizeOf 25).run Try.prog w = .ok 1 w := by kernel_rfl
  have h : (Instr.indexAt 77 (pK g off) (iK (j : Int))).run Try.prog w = .ok (.pointer (some ⟨g, off + j, none⟩)) w := by
    have hjj : (j : Int) < 2 := by omega
    simp only [Instr.indexAt, Sem.run_bind, run_underlying Try.underlying77, Result.andThen_ok]
    simp [Instr.sureAddr, asIntOf, hjj, zA]
  unfold execOp
  simp only [ho, hx, hy, Sem.run_bind, h, Result.andThen_ok, Sem.run_pure]
theorem jB {o : Oper} {A : Act} (x y : Operand) (ho : o.op = .indexAddr 78 x y) (g off j : Nat) (hj : j < 2) (hx : A.eval x = pK g off) (hy : A.eval y = iK (j : Int)) (w : World) : (execOp A.eval o).run Try.prog w = .ok (.value (.pointer (some ⟨g, off + j, none⟩))) w := by
  have hs : (sizeOf 50).run Try.prog w = .ok 1 w := by kernel_rfl
  have h : (Instr.indexAt 78 (pK g off) (iK (j : Int))).run Try.prog w = .ok (.pointer (some ⟨g, off + j, none⟩)) w := by
    have hjj : (j : Int) < 2 := by omega
    simp only [Instr.indexAt, Sem.run_bind, run_underlying Try.underlying78, Result.andThen_ok]
    simp [Instr.sureAddr, asIntOf, hjj, zA]
  unfold execOp
  simp only [ho, hx, hy, Sem.run_bind, h, Result.andThen_ok, Sem.run_pure]
theorem zu {o : Oper} {A : Act} (x y : Operand) (ho : o.op = .indexAddr 79 x y) (g off j : Nat) (hj : j < 2) (hx : A.eval x = pK g off) (hy : A.eval y = iK (j : Int)) (w : World) : (execOp A.eval o).run Try.prog w = .ok (.value (.pointer (some ⟨g, off + j, none⟩))) w := by
  have hs : (sizeOf 2).run Try.prog w = .ok 1 w := by kernel_rfl
  have h : (Instr.indexAt 79 (pK g off) (iK (j : Int))).run Try.prog w = .ok (.pointer (some ⟨g, off + j, none⟩)) w := by
    have hjj : (j : Int) < 2 := by omega
    simp only [Instr.indexAt, Sem.run_bind, run_underlying Try.underlying79, Result.andThen_ok]
    simp [Instr.sureAddr, asIntOf, hjj, zA]
  unfold execOp
  simp only [ho, hx, hy, Sem.run_bind, h, Result.andThen_ok, Sem.run_pure]
theorem jY {o : Oper} {A : Act} (x y : Operand) (ho : o.op = .indexAddr 81 x y) (g off j : Nat) (hj : j < 2) (hx : A.eval x = pK g off) (hy : A.eval y = iK (j : Int)) (w : World) : (execOp A.eval o).run Try.prog w = .ok (.value (.pointer (some ⟨g, off + j, none⟩))) w := by
  have hs : (sizeOf 80).run Try.prog w = .ok 1 w := by kernel_rfl
  have h : (Instr.indexAt 81 (pK g off) (iK (j : Int))).run Try.prog w = .ok (.pointer (some ⟨g, off + j, none⟩)) w := by
    have hjj : (j : Int) < 2 := by omega
    simp only [Instr.indexAt, Sem.run_bind, run_underlying Try.underlying81, Result.andThen_ok]
    simp [Instr.sureAddr, asIntOf, hjj, zA]
  unfold execOp
  simp only [ho, hx, hy, Sem.run_bind, h, Result.andThen_ok, Sem.run_pure]
def seV (y : SE) : List Value := (c88 y.ai y.an y.bi y.bn (bas y.tx)).toList
def cellsS (l : List SE) : List Value := l.flatMap seV
theorem vX (l r : List SE) : cellsS (l ++ r) = cellsS l ++ cellsS r := by simp [cellsS]
set_option maxRecDepth 100000 in
theorem rS : RowT Try.prog 80 88 5 48 (.agg (c88 0 0 0 0 ByteArray.empty)) := ⟨Try.underlying80, ym (by kernel_rfl), by kernel_rfl, by decide⟩
abbrev SR (w : World) (B : Nat) (ao : Option Addr) (cap : Nat) (l : List SE) : Prop := OY w 88 5 B ao cap l.length (cellsS l)
def Sep (l : List (Option Addr)) : Prop := l.Pairwise fun x y => Dis (blk x) (blk y)
theorem Sep.set {m : Nat} : ∀ {l : List (Option Addr)}, Sep l → (∀ x ∈ l, ∀ k ∈ blk x, k < m) → ∀ {i : Nat} {a b : Option Addr}, l[i]? = some a → Kept m a b → Sep (l.set i b)
  | [], _, _, _, _, _, h, _ => by simp at h
  | x :: l, h, hlt, 0, a, b, hi, hk => by
    cases Option.some.inj hi
    obtain ⟨h1, h2⟩ := List.pairwise_cons.1 h
    refine List.pairwise_cons.2 ⟨fun y hy k k1 k2 => ?_, h2⟩
    rcases hk k k1 with h3 | h3
    · exact h1 y hy k h3 k2
    · have := hlt y (List.mem_cons_of_mem _ hy) k k2
      omega
  | x :: l, h, hlt, i + 1, a, b, hi, hk => by
    obtain ⟨h1, h2⟩ := List.pairwise_cons.1 h
    have hi' : l[i]? = some a := hi
    refine List.pairwise_cons.2 ⟨fun y hy k k1 k2 => ?_, Sep.set h2 (fun y hy => hlt y (List.mem_cons_of_mem _ hy)) hi' hk⟩
    rcases List.mem_or_eq_of_mem_set hy with hy | rfl
    · exact h1 y hy k k1 k2
    · rcases hk k k2 with h3 | h3
      · exact h1 a (List.mem_of_getElem? hi') k k1 h3
      · have := hlt x List.mem_cons_self k k1
        omega
theorem Sep.get {l : List (Option Addr)} (h : Sep l) {i j : Nat} {a b : Option Addr} (hi : l[i]? = some a) (hj : l[j]? = some b) (hn : i ≠ j) : Dis (blk a) (blk b) := by
  obtain ⟨h1, rfl⟩ := List.getElem?_eq_some_iff.1 hi
  obtain ⟨h2, rfl⟩ := List.getElem?_eq_some_iff.1 hj
  rcases Nat.lt_or_gt_of_ne hn with h3 | h3
  · exact List.pairwise_iff_getElem.1 h i j h1 h2 h3
  · exact (List.pairwise_iff_getElem.1 h j i h2 h1 h3).symm
structure Tk (B : Nat) (w : World) (tp : Nat) (q0 : Nat) (q1 : Nat) (id0 : Nat → Nat) (id1 : Nat → Nat) (x0 : ES) (x1 : ES) (n0 : Nat) (n1 : Nat) (a0 : Option Addr) (c0 : Nat) (f0 : List (PF × Fr)) (a1 : Option Addr) (c1 : Nat) (f1 : List (PF × Fr)) (b0 : Option Addr) (e0 : Nat) (s0 : List SE) (b1 : Option Addr) (e1 : Nat) (s1 : List SE) (d0 : Option Addr) (k0 : Nat) (r0 : List SE) (d1 : Option Addr) (k1 : Nat) (r1 : List SE) : Prop where
  box : w.heap[tp]? = some (.cells (c83 (some ⟨q0, 0, none⟩) (some ⟨q1, 0, none⟩) ⟨a0, f0.length, c0⟩ ⟨a1, f1.length, c1⟩ ((n0 : Nat) : Int) ((n1 : Nat) : Int) ⟨b0, s0.length, e0⟩ ⟨b1, s1.length, e1⟩ ⟨d0, r0.length, k0⟩ ⟨d1, r1.length, k1⟩) 83 (0, 0))
  base : B ≤ tp
  two : Two B w q0 id0 x0 q1 id1 x1
  l0 : LF w B a0 c0 f0
  l1 : LF w B a1 c1 f1
  t0 : SR w B b0 e0 s0
  t1 : SR w B b1 e1 s1
  u0 : SR w B d0 k0 r0
  u1 : SR w B d1 k1 r1
  sep : Sep [a0, a1, b0, b1, d0, d1]
section
variable {B : Nat} {w w' : World} {tp : Nat} {q0 : Nat} {q1 : Nat} {id0 : Nat → Nat} {id1 : Nat → Nat} {x0 : ES} {x1 : ES} {n0 : Nat} {n1 : Nat} {a0 : Option Addr} {c0 : Nat} {f0 : List (PF × Fr)} {a1 : Option Addr} {c1 : Nat} {f1 : List (PF × Fr)} {b0 : Option Addr} {e0 : Nat} {s0 : List SE} {b1 : Option Addr} {e1 : Nat} {s1 : List SE} {d0 : Option Addr} {k0 : Nat} {r0 : List SE} {d1 : Option Addr} {k1 : Nat} {r1 : List SE}
theorem Tk.gro (H : Tk B w tp q0 q1 id0 id1 x0 x1 n0 n1 a0 c0 f0 a1 c1 f1 b0 e0 s0 b1 e1 s1 d0 k0 r0 d1 k1 r1) (G : Gro w w') : Tk B w' tp q0 q1 id0 id1 x0 x1 n0 n1 a0 c0 f0 a1 c1 f1 b0 e0 s0 b1 e1 s1 d0 k0 r0 d1 k1 r1 := ⟨G.has H.box, H.base, H.two.gro G, H.l0.gro G, H.l1.gro G, H.t0.gro G, H.t1.gro G, H.u0.gro G, H.u1.gro G, H.sep⟩
theorem Tk.lt (H : Tk B w tp q0 q1 id0 id1 x0 x1 n0 n1 a0 c0 f0 a1 c1 f1 b0 e0 s0 b1 e1 s1 d0 k0 r0 d1 k1 r1) : ∀ x ∈ [a0, a1, b0, b1, d0, d1], ∀ k ∈ blk x, k < w.heap.size := fun x hx => by
  simp only [List.mem_cons, List.not_mem_nil, or_false] at hx
  rcases hx with rfl | rfl | rfl | rfl | rfl | rfl
  · exact H.l0.row.lt
  · exact H.l1.row.lt
  · exact H.t0.lt
  · exact H.t1.lt
  · exact H.u0.lt
  · exact H.u1.lt
def TkN (w : World) (a0 a1 : Option Addr) (S : List Nat) : Prop := ∀ k ∈ S, ∃ c t, w.heap[k]? = some (.cells c t (0, 0)) ∧ (t ≠ 98 ∧ t ≠ 121 ∧ t ≠ 36 ∧ t ≠ 5) ∧ t ≠ 88 ∧ t ≠ 83 ∧ (t = 46 → k ∉ blk a0 ∧ k ∉ blk a1)
theorem Tk.gros (H : Tk B w tp q0 q1 id0 id1 x0 x1 n0 n1 a0 c0 f0 a1 c1 f1 b0 e0 s0 b1 e1 s1 d0 k0 r0 d1 k1 r1) {S : List Nat} (G : GroS S w w') (hS : TkN w a0 a1 S) : Tk B w' tp q0 q1 id0 id1 x0 x1 n0 n1 a0 c0 f0 a1 c1 f1 b0 e0 s0 b1 e1 s1 d0 k0 r0 d1 k1 r1 := by
  have h5 : No5 w S := fun k hk => by
    obtain ⟨c, t, h, h1, _⟩ := hS k hk
    exact ⟨c, t, h, h1.2.2.2⟩
  have h88 : ∀ {ao : Option Addr} {cap : Nat} {l : List SE}, SR w B ao cap l → ∀ k ∈ blk ao, k ∉ S := fun R k h1 h2 => by
    obtain ⟨_, cur, hc⟩ := R.at k h1
    obtain ⟨c, t, h, _, h3, _⟩ := hS k h2
    exact jy h hc h3 rfl
  have h46 : ∀ {ao : Option Addr} {cap : Nat} {l : List (PF × Fr)}, LF w B ao cap l → (∀ k ∈ S, k ∈ blk a0 ∨ k ∈ blk a1 → False) → (ao = a0 ∨ ao = a1) → ∀ k ∈ blk ao, k ∉ S := fun R hn ha k h1 h2 => by
    rcases ha with rfl | rfl
    · exact hn k h2 (.inl h1)
    · exact hn k h2 (.inr h1)
  have hn : ∀ k ∈ S, k ∈ blk a0 ∨ k ∈ blk a1 → False := fun k hk hm => by
    obtain ⟨c, t, h, _, _, _, h3⟩ := hS k hk
    have ht : t = 46 := by
      rcases hm with hm | hm
      · obtain ⟨_, cur, hc⟩ := H.l0.row.at k hm
        exact Classical.byContradiction fun hne => jy h hc hne rfl
      · obtain ⟨_, cur, hc⟩ := H.l1.row.at k hm
        exact Classical.byContradiction fun hne => jy h hc hne rfl
    rcases hm with hm | hm
    · exact (h3 ht).1 hm
    · exact (h3 ht).2 hm
  refine ⟨G.has H.box fun hm => ?_, H.base, H.two.gros G (fun k hk => ?_), H.l0.gros G h5 (h46 H.l0 hn (.inl rfl)), H.l1.gros G h5 (h46 H.l1 hn (.inr rfl)), H.t0.gros G (h88 H.t0), H.t1.gros G (h88 H.t1), H.u0.gros G (h88 H.u0), H.u1.gros G (h88 H.u1), H.sep⟩
  · obtain ⟨c, t, h, _, _, h3, _⟩ := hS tp hm
    rw [H.box] at h
    cases h
    exact h3 rfl
  · obtain ⟨c, t, h, h1, _⟩ := hS k hk
    exact ⟨c, t, h, h1⟩
theorem Tk.stT (H : Tk B w tp q0 q1 id0 id1 x0 x1 n0 n1 a0 c0 f0 a1 c1 f1 b0 e0 s0 b1 e1 s1 d0 k0 r0 d1 k1 r1) {g : Nat} {t : TypeId} {cs : Array Value} {o : Obj} (hg : w.heap[g]? = some (.cells cs t (0, 0))) (z1 : t ≠ 98 ∧ t ≠ 121 ∧ t ≠ 36 ∧ t ≠ 5) (z2 : t ≠ 88) (z3 : t ≠ 83) (z4 : t ≠ 46) (St : Stored w w' g o) : Tk B w' tp q0 q1 id0 id1 x0 x1 n0 n1 a0 c0 f0 a1 c1 f1 b0 e0 s0 b1 e1 s1 d0 k0 r0 d1 k1 r1 :=
  H.gros (S := [g]) ((GroS.refl [g] w).st St (.inr (by simp))) fun k hk => by cases List.mem_singleton.1 hk; exact ⟨_, _, hg, z1, z2, z3, fun e => absurd e z4⟩
theorem Tk.end0 (H : Tk B w tp q0 q1 id0 id1 x0 x1 n0 n1 a0 c0 f0 a1 c1 f1 b0 e0 s0 b1 e1 s1 d0 k0 r0 d1 k1 r1) (hB : B ≤ w.heap.size) : ∃ mu tb, EX w q0 id0 x0 mu tb ∧ (∀ k ∈ mu, B ≤ k) ∧ ∀ w' x' mu' tb', EX w' q0 id0 x' mu' tb' → GroS mu w w' → Fresh w mu mu' → Tk B w' tp q0 q1 id0 id1 x' x1 n0 n1 a0 c0 f0 a1 c1 f1 b0 e0 s0 b1 e1 s1 d0 k0 r0 d1 k1 r1 := by
  obtain ⟨mu, tb, HM, hge, hnext⟩ := H.two.fst hB
  refine ⟨mu, tb, HM, hge, fun w' x' mu' tb' HX G F => ?_⟩
  have h88 : ∀ {ao : Option Addr} {cap : Nat} {l : List SE}, SR w B ao cap l → ∀ k ∈ blk ao, k ∉ mu := fun R k h1 => by
    obtain ⟨_, cur, hc⟩ := R.at k h1
    exact HM.not hc (by decide) (by decide) (by decide)
  exact ⟨G.has H.box (HM.not H.box (by decide) (by decide) (by decide)), H.base, hnext w' x' mu' tb' HX G F, H.l0.no46 G HM.no46, H.l1.no46 G HM.no46, H.t0.gros G (h88 H.t0), H.t1.gros G (h88 H.t1), H.u0.gros G (h88 H.u0), H.u1.gros G (h88 H.u1), H.sep⟩
theorem Tk.end1 (H : Tk B w tp q0 q1 id0 id1 x0 x1 n0 n1 a0 c0 f0 a1 c1 f1 b0 e0 s0 b1 e1 s1 d0 k0 r0 d1 k1 r1) (hB : B ≤ w.heap.size) : ∃ mu tb, EX w q1 id1 x1 mu tb ∧ (∀ k ∈ mu, B ≤ k) ∧ ∀ w' x' mu' tb', EX w' q1 id1 x' mu' tb' → GroS mu w w' → Fresh w mu mu' → Tk B w' tp q0 q1 id0 id1 x0 x' n0 n1 a0 c0 f0 a1 c1 f1 b0 e0 s0 b1 e1 s1 d0 k0 r0 d1 k1 r1 := by
  obtain ⟨mu, tb, HM, hge, hnext⟩ := H.two.snd hB
  refine ⟨mu, tb, HM, hge, fun w' x' mu' tb' HX G F => ?_⟩
  have h88 : ∀ {ao : Option Addr} {cap : Nat} {l : List SE}, SR w B ao cap l → ∀ k ∈ blk ao, k ∉ mu := fun R k h1 => by
    obtain ⟨_, cur, hc⟩ := R.at k h1
    exact HM.not hc (by decide) (by decide) (by decide)
  exact ⟨G.has H.box (HM.not H.box (by decide) (by decide) (by decide)), H.base, hnext w' x' mu' tb' HX G F, H.l0.no46 G HM.no46, H.l1.no46 G HM.no46, H.t0.gros G (h88 H.t0), H.t1.gros G (h88 H.t1), H.u0.gros G (h88 H.u0), H.u1.gros G (h88 H.u1), H.sep⟩
theorem Tk.puta0 (H : Tk B w tp q0 q1 id0 id1 x0 x1 n0 n1 a0 c0 f0 a1 c1 f1 b0 e0 s0 b1 e1 s1 d0 k0 r0 d1 k1 r1) {a2 : Option Addr} {c2 : Nat} {f2 : List (PF × Fr)} {w1 : World} (G : GroS (blk a0) w w1) (K : Kept w.heap.size a0 a2) (R : LF w1 B a2 c2 f2) (St : Stored w1 w' tp (.cells (c83 (some ⟨q0, 0, none⟩) (some ⟨q1, 0, none⟩) ⟨a2, f2.length, c2⟩ ⟨a1, f1.length, c1⟩ ((n0 : Nat) : Int) ((n1 : Nat) : Int) ⟨b0, s0.length, e0⟩ ⟨b1, s1.length, e1⟩ ⟨d0, r0.length, k0⟩ ⟨d1, r1.length, k1⟩) 83 (0, 0))) : Tk B w' tp q0 q1 id0 id1 x0 x1 n0 n1 a2 c2 f2 a1 c1 f1 b0 e0 s0 b1 e1 s1 d0 k0 r0 d1 k1 r1 := by
  have ht : ∀ k ∈ blk a0, ∃ cur, w.heap[k]? = some (.cells cur 46 (0, 0)) := fun k hk => (H.l0.row.at k hk).2
  have h5 : No5 w (blk a0) := fun k hk => by
    obtain ⟨cur, hc⟩ := ht k hk
    exact ⟨_, _, hc, by decide⟩
  have hs : ∀ (i : Nat) {x : Option Addr}, [a0, a1, b0, b1, d0, d1][i]? = some x → i ≠ 0 → ∀ k ∈ blk x, k ∉ blk a0 := fun i x hx hi => H.sep.get hx (show [a0, a1, b0, b1, d0, d1][0]? = some a0 from rfl) hi
  have hb : w1.heap[tp]? = some (.cells (c83 (some ⟨q0, 0, none⟩) (some ⟨q1, 0, none⟩) ⟨a0, f0.length, c0⟩ ⟨a1, f1.length, c1⟩ ((n0 : Nat) : Int) ((n1 : Nat) : Int) ⟨b0, s0.length, e0⟩ ⟨b1, s1.length, e1⟩ ⟨d0, r0.length, k0⟩ ⟨d1, r1.length, k1⟩) 83 (0, 0)) := G.has H.box (H.l0.row.ne H.box (by decide))
  have h2 : Two B w1 q0 id0 x0 q1 id1 x1 := H.two.gros G fun k hk => by
    obtain ⟨cur, hc⟩ := ht k hk
    exact ⟨_, _, hc, by decide, by decide, by decide, by decide⟩
  exact ⟨St.new, H.base, h2.stT (by decide) (by decide) (by decide) (by decide) hb St, R.gros ((GroS.refl [tp] _).st St (.inr (by simp))) (jv hb (by decide)) (fun k hk hm => by cases List.mem_singleton.1 hm; exact R.row.ne hb (by decide) hk), (H.l1.gros G h5 (hs 1 rfl (by decide))).gros ((GroS.refl [tp] _).st St (.inr (by simp))) (jv hb (by decide)) (fun k hk hm => by cases List.mem_singleton.1 hm; exact (H.l1.gros G h5 (hs 1 rfl (by decide))).row.ne hb (by decide) hk), (H.t0.gros G (hs 2 rfl (by decide))).gros ((GroS.refl [tp] _).st St (.inr (by simp))) (fun k hk hm => by cases List.mem_singleton.1 hm; exact (H.t0.gros G (hs 2 rfl (by decide))).ne hb (by decide) hk), (H.t1.gros G (hs 3 rfl (by decide))).gros ((GroS.refl [tp] _).st St (.inr (by simp))) (fun k hk hm => by cases List.mem_singleton.1 hm; exact (H.t1.gros G (hs 3 rfl (by decide))).ne hb (by decide) hk), (H.u0.gros G (hs 4 rfl (by decide))).gros ((GroS.refl [tp] _).st St (.inr (by simp))) (fun k hk hm => by cases List.mem_singleton.1 hm; exact (H.u0.gros G (hs 4 rfl (by decide))).ne hb (by decide) hk), (H.u1.gros G (hs 5 rfl (by decide))).gros ((GroS.refl [tp] _).st St (.inr (by simp))) (fun k hk hm => by cases List.mem_singleton.1 hm; exact (H.u1.gros G (hs 5 rfl (by decide))).ne hb (by decide) hk), H.sep.set (i := 0) H.lt rfl K⟩
theorem Tk.puta1 (H : Tk B w tp q0 q1 id0 id1 x0 x1 n0 n1 a0 c0 f0 a1 c1 f1 b0 e0 s0 b1 e1 s1 d0 k0 r0 d1 k1 r1) {a2 : Option Addr} {c2 : Nat} {f2 : List (PF × Fr)} {w1 : World} (G : GroS (blk a1) w w1) (K : Kept w.heap.size a1 a2) (R : LF w1 B a2 c2 f2) (St : Stored w1 w' tp (.cells (c83 (some ⟨q0, 0, none⟩) (some ⟨q1, 0, none⟩) ⟨a0, f0.length, c0⟩ ⟨a2, f2.length, c2⟩ ((n0 : Nat) : Int) ((n1 : Nat) : Int) ⟨b0, s0.length, e0⟩ ⟨b1, s1.length, e1⟩ ⟨d0, r0.length, k0⟩ ⟨d1, r1.length, k1⟩) 83 (0, 0))) : Tk B w' tp q0 q1 id0 id1 x0 x1 n0 n1 a0 c0 f0 a2 c2 f2 b0 e0 s0 b1 e1 s1 d0 k0 r0 d1 k1 r1 := by
  have ht : ∀ k ∈ blk a1, ∃ cur, w.heap[k]? = some (.cells cur 46 (0, 0)) := fun k hk => (H.l1.row.at k hk).2
  have h5 : No5 w (blk a1) := fun k hk => by
    obtain ⟨cur, hc⟩ := ht k hk
    exact ⟨_, _, hc, by decide⟩
  have hs : ∀ (i : Nat) {x : Option Addr}, [a0, a1, b0, b1, d0, d1][i]? = some x → i ≠ 1 → ∀ k ∈ blk x, k ∉ blk a1 := fun i x hx hi => H.sep.get hx (show [a0, a1, b0, b1, d0, d1][1]? = some a1 from rfl) hi
  have hb : w1.heap[tp]? = some (.cells (c83 (some ⟨q0, 0, none⟩) (some ⟨q1, 0, none⟩) ⟨a0, f0.length, c0⟩ ⟨a1, f1.length, c1⟩ ((n0 : Nat) : Int) ((n1 : Nat) : Int) ⟨b0, s0.length, e0⟩ ⟨b1, s1.length, e1⟩ ⟨d0, r0.length, k0⟩ ⟨d1, r1.length, k1⟩) 83 (0, 0)) := G.has H.box (H.l1.row.ne H.box (by decide))
  have h2 : Two B w1 q0 id0 x0 q1 id1 x1 := H.two.gros G fun k hk => by
    obtain ⟨cur, hc⟩ := ht k hk
    exact ⟨_, _, hc, by decide, by decide, by decide, by decide⟩
  exact ⟨St.new, H.base, h2.stT (by decide) (by decide) (by decide) (by decide) hb St, (H.l0.gros G h5 (hs 0 rfl (by decide))).gros ((GroS.refl [tp] _).st St (.inr (by simp))) (jv hb (by decide)) (fun k hk hm => by cases List.mem_singleton.1 hm; exact (H.l0.gros G h5 (hs 0 rfl (by decide))).row.ne hb (by decide) hk), R.gros ((GroS.refl [tp] _).st St (.inr (by simp))) (jv hb (by decide)) (fun k hk hm => by cases List.mem_singleton.1 hm; exact R.row.ne hb (by decide) hk), (H.t0.gros G (hs 2 rfl (by decide))).gros ((GroS.refl [tp] _).st St (.inr (by simp))) (fun k hk hm => by cases List.mem_singleton.1 hm; exact (H.t0.gros G (hs 2 rfl (by decide))).ne hb (by decide) hk), (H.t1.gros G (hs 3 rfl (by decide))).gros ((GroS.refl [tp] _).st St (.inr (by simp))) (fun k hk hm => by cases List.mem_singleton.1 hm; exact (H.t1.gros G (hs 3 rfl (by decide))).ne hb (by decide) hk), (H.u0.gros G (hs 4 rfl (by decide))).gros ((GroS.refl [tp] _).st St (.inr (by simp))) (fun k hk hm => by cases List.mem_singleton.1 hm; exact (H.u0.gros G (hs 4 rfl (by decide))).ne hb (by decide) hk), (H.u1.gros G (hs 5 rfl (by decide))).gros ((GroS.refl [tp] _).st St (.inr (by simp))) (fun k hk hm => by cases List.mem_singleton.1 hm; exact (H.u1.gros G (hs 5 rfl (by decide))).ne hb (by decide) hk), H.sep.set (i := 1) H.lt rfl K⟩
theorem Tk.putb0 (H : Tk B w tp q0 q1 id0 id1 x0 x1 n0 n1 a0 c0 f0 a1 c1 f1 b0 e0 s0 b1 e1 s1 d0 k0 r0 d1 k1 r1) {a2 : Option Addr} {c2 : Nat} {f2 : List SE} {w1 : World} (G : GroS (blk b0) w w1) (K : Kept w.heap.size b0 a2) (R : SR w1 B a2 c2 f2) (St : Stored w1 w' tp (.cells (c83 (some ⟨q0, 0, none⟩) (some ⟨q1, 0, none⟩) ⟨a0, f0.length, c0⟩ ⟨a1, f1.length, c1⟩ ((n0 : Nat) : Int) ((n1 : Nat) : Int) ⟨a2, f2.length, c2⟩ ⟨b1, s1.length, e1⟩ ⟨d0, r0.length, k0⟩ ⟨d1, r1.length, k1⟩) 83 (0, 0))) : Tk B w' tp q0 q1 id0 id1 x0 x1 n0 n1 a0 c0 f0 a1 c1 f1 a2 c2 f2 b1 e1 s1 d0 k0 r0 d1 k1 r1 := by
  have ht : ∀ k ∈ blk b0, ∃ cur, w.heap[k]? = some (.cells cur 88 (0, 0)) := fun k hk => (H.t0.at k hk).2
  have h5 : No5 w (blk b0) := fun k hk => by
    obtain ⟨cur, hc⟩ := ht k hk
    exact ⟨_, _, hc, by decide⟩
  have hs : ∀ (i : Nat) {x : Option Addr}, [a0, a1, b0, b1, d0, d1][i]? = some x → i ≠ 2 → ∀ k ∈ blk x, k ∉ blk b0 := fun i x hx hi => H.sep.get hx (show [a0, a1, b0, b1, d0, d1][2]? = some b0 from rfl) hi
  have hb : w1.heap[tp]? = some (.cells (c83 (some ⟨q0, 0, none⟩) (some ⟨q1, 0, none⟩) ⟨a0, f0.length, c0⟩ ⟨a1, f1.length, c1⟩ ((n0 : Nat) : Int) ((n1 : Nat) : Int) ⟨b0, s0.length, e0⟩ ⟨b1, s1.length, e1⟩ ⟨d0, r0.length, k0⟩ ⟨d1, r1.length, k1⟩) 83 (0, 0)) := G.has H.box (H.t0.ne H.box (by decide))
  have h2 : Two B w1 q0 id0 x0 q1 id1 x1 := H.two.gros G fun k hk => by
    obtain ⟨cur, hc⟩ := ht k hk
    exact ⟨_, _, hc, by decide, by decide, by decide, by decide⟩
  exact ⟨St.new, H.base, h2.stT (by decide) (by decide) (by decide) (by decide) hb St, (H.l0.gros G h5 (hs 0 rfl (by decide))).gros ((GroS.refl [tp] _).st St (.inr (by simp))) (jv hb (by decide)) (fun k hk hm => by cases List.mem_singleton.1 hm; exact (H.l0.gros G h5 (hs 0 rfl (by decide))).row.ne hb (by decide) hk), (H.l1.gros G h5 (hs 1 rfl (by decide))).gros ((GroS.refl [tp] _).st St (.inr (by simp))) (jv hb (by decide)) (fun k hk hm => by cases List.mem_singleton.1 hm; exact (H.l1.gros G h5 (hs 1 rfl (by decide))).row.ne hb (by decide) hk), R.gros ((GroS.refl [tp] _).st St (.inr (by simp))) (fun k hk hm => by cases List.mem_singleton.1 hm; exact R.ne hb (by decide) hk), (H.t1.gros G (hs 3 rfl (by decide))).gros ((GroS.refl [tp] _).st St (.inr (by simp))) (fun k hk hm => by cases List.mem_singleton.1 hm; exact (H.t1.gros G (hs 3 rfl (by decide))).ne hb (by decide) hk), (H.u0.gros G (hs 4 rfl (by decide))).gros ((GroS.refl [tp] _).st St (.inr (by simp))) (fun k hk hm => by cases List.mem_singleton.1 hm; exact (H.u0.gros G (hs 4 rfl (by decide))).ne hb (by decide) hk), (H.u1.gros G (hs 5 rfl (by decide))).gros ((GroS.refl [tp] _).st St (.inr (by simp))) (fun k hk hm => by cases List.mem_singleton.1 hm; exact (H.u1.gros G (hs 5 rfl (by decide))).ne hb (by decide) hk), H.sep.set (i := 2) H.lt rfl K⟩
theorem Tk.putb1 (H : Tk B w tp q0 q1 id0 id1 x0 x1 n0 n1 a0 c0 f0 a1 c1 f1 b0 e0 s0 b1 e1 s1 d0 k0 r0 d1 k1 r1) {a2 : Option Addr} {c2 : Nat} {f2 : List SE} {w1 : World} (G : GroS (blk b1) w w1) (K : Kept w.heap.size b1 a2) (R : SR w1 B a2 c2 f2) (St : Stored w1 w' tp (.cells (c83 (some ⟨q0, 0, none⟩) (some ⟨q1, 0, none⟩) ⟨a0, f0.length, c0⟩ ⟨a1, f1.length, c1⟩ ((n0 : Nat) : Int) ((n1 : Nat) : Int) ⟨b0, s0.length, e0⟩ ⟨a2, f2.length, c2⟩ ⟨d0, r0.length, k0⟩ ⟨d1, r1.length, k1⟩) 83 (0, 0))) : Tk B w' tp q0 q1 id0 id1 x0 x1 n0 n1 a0 c0 f0 a1 c1 f1 b0 e0 s0 a2 c2 f2 d0 k0 r0 d1 k1 r1 := by
  have ht : ∀ k ∈ blk b1, ∃ cur, w.heap[k]? = some (.cells cur 88 (0, 0)) := fun k hk => (H.t1.at k hk).2
  have h5 : No5 w (blk b1) := fun k hk => by
    obtain ⟨cur, hc⟩ := ht k hk
    exact ⟨_, _, hc, by decide⟩
  have hs : ∀ (i : Nat) {x : Option Addr}, [a0, a1, b0, b1, d0, d1][i]? = some x → i ≠ 3 → ∀ k ∈ blk x, k ∉ blk b1 := fun i x hx hi => H.sep.get hx (show [a0, a1, b0, b1, d0, d1][3]? = some b1 from rfl) hi
  have hb : w1.heap[tp]? = some (.cells (c83 (some ⟨q0, 0, none⟩) (some ⟨q1, 0, none⟩) ⟨a0, f0.length, c0⟩ ⟨a1, f1.length, c1⟩ ((n0 : Nat) : Int) ((n1 : Nat) : Int) ⟨b0, s0.length, e0⟩ ⟨b1, s1.length, e1⟩ ⟨d0, r0.length, k0⟩ ⟨d1, r1.length, k1⟩) 83 (0, 0)) := G.has H.box (H.t1.ne H.box (by decide))
  have h2 : Two B w1 q0 id0 x0 q1 id1 x1 := H.two.gros G fun k hk => by
    obtain ⟨cur, hc⟩ := ht k hk
    exact ⟨_, _, hc, by decide, by decide, by decide, by decide⟩
  exact ⟨St.new, H.base, h2.stT (by decide) (by decide) (by decide) (by decide) hb St, (H.l0.gros G h5 (hs 0 rfl (by decide))).gros ((GroS.refl [tp] _).st St (.inr (by simp))) (jv hb (by decide)) (fun k hk hm => by cases List.mem_singleton.1 hm; exact (H.l0.gros G h5 (hs 0 rfl (by decide))).row.ne hb (by decide) hk), (H.l1.gros G h5 (hs 1 rfl (by decide))).gros ((GroS.refl [tp] _).st St (.inr (by simp))) (jv hb (by decide)) (fun k hk hm => by cases List.mem_singleton.1 hm; exact (H.l1.gros G h5 (hs 1 rfl (by decide))).row.ne hb (by decide) hk), (H.t0.gros G (hs 2 rfl (by decide))).gros ((GroS.refl [tp] _).st St (.inr (by simp))) (fun k hk hm => by cases List.mem_singleton.1 hm; exact (H.t0.gros G (hs 2 rfl (by decide))).ne hb (by decide) hk), R.gros ((GroS.refl [tp] _).st St (.inr (by simp))) (fun k hk hm => by cases List.mem_singleton.1 hm; exact R.ne hb (by decide) hk), (H.u0.gros G (hs 4 rfl (by decide))).gros ((GroS.refl [tp] _).st St (.inr (by simp))) (fun k hk hm => by cases List.mem_singleton.1 hm; exact (H.u0.gros G (hs 4 rfl (by decide))).ne hb (by decide) hk), (H.u1.gros G (hs 5 rfl (by decide))).gros ((GroS.refl [tp] _).st St (.inr (by simp))) (fun k hk hm => by cases List.mem_singleton.1 hm; exact (H.u1.gros G (hs 5 rfl (by decide))).ne hb (by decide) hk), H.sep.set (i := 3) H.lt rfl K⟩
theorem Tk.putd0 (H : Tk B w tp q0 q1 id0 id1 x0 x1 n0 n1 a0 c0 f0 a1 c1 f1 b0 e0 s0 b1 e1 s1 d0 k0 r0 d1 k1 r1) {a2 : Option Addr} {c2 : Nat} {f2 : List SE} {w1 : World} (G : GroS (blk d0) w w1) (K : Kept w.heap.size d0 a2) (R : SR w1 B a2 c2 f2) (St : Stored w1 w' tp (.cells (c83 (some ⟨q0, 0, none⟩) (some ⟨q1, 0, none⟩) ⟨a0, f0.length, c0⟩ ⟨a1, f1.length, c1⟩ ((n0 : Nat) : Int) ((n1 : Nat) : Int) ⟨b0, s0.length, e0⟩ ⟨b1, s1.length, e1⟩ ⟨a2, f2.length, c2⟩ ⟨d1, r1.length, k1⟩) 83 (0, 0))) : Tk B w' tp q0 q1 id0 id1 x0 x1 n0 n1 a0 c0 f0 a1 c1 f1 b0 e0 s0 b1 e1 s1 a2 c2 f2 d1 k1 r1 := by
  have ht : ∀ k ∈ blk d0, ∃ cur, w.heap[k]? = some (.cells cur 88 (0, 0)) := fun k hk => (H.u0.at k hk).2
  have h5 : No5 w (blk d0) := fun k hk => by
    obtain ⟨cur, hc⟩ := ht k hk
    exact ⟨_, _, hc, by decide⟩
  have hs : ∀ (i : Nat) {x : Option Addr}, [a0, a1, b0, b1, d0, d1][i]? = some x → i ≠ 4 → ∀ k ∈ blk x, k ∉ blk d0 := fun i x hx hi => H.sep.get hx (show [a0, a1, b0, b1, d0, d1][4]? = some d0 from rfl) hi
  have hb : w1.heap[tp]? = some (.cells (c83 (some ⟨q0, 0, none⟩) (some ⟨q1, 0, none⟩) ⟨a0, f0.length, c0⟩ ⟨a1, f1.length, c1⟩ ((n0 : Nat) : Int) ((n1 : Nat) : Int) ⟨b0, s0.length, e0⟩ ⟨b1, s1.length, e1⟩ ⟨d0, r0.length, k0⟩ ⟨d1, r1.length, k1⟩) 83 (0, 0)) := G.has H.box (H.u0.ne H.box (by decide))
  have h2 : Two B w1 q0 id0 x0 q1 id1 x1 := H.two.gros G fun k hk => by
    obtain ⟨cur, hc⟩ := ht k hk
    exact ⟨_, _, hc, by decide, by decide, by decide, by decide⟩
  exact ⟨St.new, H.base, h2.stT (by decide) (by decide) (by decide) (by decide) hb St, (H.l0.gros G h5 (hs 0 rfl (by decide))).gros ((GroS.refl [tp] _).st St (.inr (by simp))) (jv hb (by decide)) (fun k hk hm => by cases List.mem_singleton.1 hm; exact (H.l0.gros G h5 (hs 0 rfl (by decide))).row.ne hb (by decide) hk), (H.l1.gros G h5 (hs 1 rfl (by decide))).gros ((GroS.refl [tp] _).st St (.inr (by simp))) (jv hb (by decide)) (fun k hk hm => by cases List.mem_singleton.1 hm; exact (H.l1.gros G h5 (hs 1 rfl (by decide))).row.ne hb (by decide) hk), (H.t0.gros G (hs 2 rfl (by decide))).gros ((GroS.refl [tp] _).st St (.inr (by simp))) (fun k hk hm => by cases List.mem_singleton.1 hm; exact (H.t0.gros G (hs 2 rfl (by decide))).ne hb (by decide) hk), (H.t1.gros G (hs 3 rfl (by decide))).gros ((GroS.refl [tp] _).st St (.inr (by simp))) (fun k hk hm => by cases List.mem_singleton.1 hm; exact (H.t1.gros G (hs 3 rfl (by decide))).ne hb (by decide) hk), R.gros ((GroS.refl [tp] _).st St (.inr (by simp))) (fun k hk hm => by cases List.mem_singleton.1 hm; exact R.ne hb (by decide) hk), (H.u1.gros G (hs 5 rfl (by decide))).gros ((GroS.refl [tp] _).st St (.inr (by simp))) (fun k hk hm => by cases List.mem_singleton.1 hm; exact (H.u1.gros G (hs 5 rfl (by decide))).ne hb (by decide) hk), H.sep.set (i := 4) H.lt rfl K⟩
theorem Tk.putd1 (H : Tk B w tp q0 q1 id0 id1 x0 x1 n0 n1 a0 c0 f0 a1 c1 f1 b0 e0 s0 b1 e1 s1 d0 k0 r0 d1 k1 r1) {a2 : Option Addr} {c2 : Nat} {f2 : List SE} {w1 : World} (G : GroS (blk d1) w w1) (K : Kept w.heap.size d1 a2) (R : SR w1 B a2 c2 f2) (St : Stored w1 w' tp (.cells (c83 (some ⟨q0, 0, none⟩) (some ⟨q1, 0, none⟩) ⟨a0, f0.length, c0⟩ ⟨a1, f1.length, c1⟩ ((n0 : Nat) : Int) ((n1 : Nat) : Int) ⟨b0, s0.length, e0⟩ ⟨b1, s1.length, e1⟩ ⟨d0, r0.length, k0⟩ ⟨a2, f2.length, c2⟩) 83 (0, 0))) : Tk B w' tp q0 q1 id0 id1 x0 x1 n0 n1 a0 c0 f0 a1 c1 f1 b0 e0 s0 b1 e1 s1 d0 k0 r0 a2 c2 f2 := by
  have ht : ∀ k ∈ blk d1, ∃ cur, w.heap[k]? = some (.cells cur 88 (0, 0)) := fun k hk => (H.u1.at k hk).2
  have h5 : No5 w (blk d1) := fun k hk => by
    obtain ⟨cur, hc⟩ := ht k hk
    exact ⟨_, _, hc, by decide⟩
  have hs : ∀ (i : Nat) {x : Option Addr}, [a0, a1, b0, b1, d0, d1][i]? = some x → i ≠ 5 → ∀ k ∈ blk x, k ∉ blk d1 := fun i x hx hi => H.sep.get hx (show [a0, a1, b0, b1, d0, d1][5]? = some d1 from rfl) hi
  have hb : w1.heap[tp]? = some (.cells (c83 (some ⟨q0, 0, none⟩) (some ⟨q1, 0, none⟩) ⟨a0, f0.length, c0⟩ ⟨a1, f1.length, c1⟩ ((n0 : Nat) : Int) ((n1 : Nat) : Int) ⟨b0, s0.length, e0⟩ ⟨b1, s1.length, e1⟩ ⟨d0, r0.length, k0⟩ ⟨d1, r1.length, k1⟩) 83 (0, 0)) := G.has H.box (H.u1.ne H.box (by decide))
  have h2 : Two B w1 q0 id0 x0 q1 id1 x1 := H.two.gros G fun k hk => by
    obtain ⟨cur, hc⟩ := ht k hk
    exact ⟨_, _, hc, by decide, by decide, by decide, by decide⟩
  exact ⟨St.new, H.base, h2.stT (by decide) (by decide) (by decide) (by decide) hb St, (H.l0.gros G h5 (hs 0 rfl (by decide))).gros ((GroS.refl [tp] _).st St (.inr (by simp))) (jv hb (by decide)) (fun k hk hm => by cases List.mem_singleton.1 hm; exact (H.l0.gros G h5 (hs 0 rfl (by decide))).row.ne hb (by decide) hk), (H.l1.gros G h5 (hs 1 rfl (by decide))).gros ((GroS.refl [tp] _).st St (.inr (by simp))) (jv hb (by decide)) (fun k hk hm => by cases List.mem_singleton.1 hm; exact (H.l1.gros G h5 (hs 1 rfl (by decide))).row.ne hb (by decide) hk), (H.t0.gros G (hs 2 rfl (by decide))).gros ((GroS.refl [tp] _).st St (.inr (by simp))) (fun k hk hm => by cases List.mem_singleton.1 hm; exact (H.t0.gros G (hs 2 rfl (by decide))).ne hb (by decide) hk), (H.t1.gros G (hs 3 rfl (by decide))).gros ((GroS.refl [tp] _).st St (.inr (by simp))) (fun k hk hm => by cases List.mem_singleton.1 hm; exact (H.t1.gros G (hs 3 rfl (by decide))).ne hb (by decide) hk), (H.u0.gros G (hs 4 rfl (by decide))).gros ((GroS.refl [tp] _).st St (.inr (by simp))) (fun k hk hm => by cases List.mem_singleton.1 hm; exact (H.u0.gros G (hs 4 rfl (by decide))).ne hb (by decide) hk), R.gros ((GroS.refl [tp] _).st St (.inr (by simp))) (fun k hk hm => by cases List.mem_singleton.1 hm; exact R.ne hb (by decide) hk), H.sep.set (i := 5) H.lt rfl K⟩
theorem Tk.cnt0 (H : Tk B w tp q0 q1 id0 id1 x0 x1 n0 n1 a0 c0 f0 a1 c1 f1 b0 e0 s0 b1 e1 s1 d0 k0 r0 d1 k1 r1) {m : Nat} (St : Stored w w' tp (.cells (c83 (some ⟨q0, 0, none⟩) (some ⟨q1, 0, none⟩) ⟨a0, f0.length, c0⟩ ⟨a1, f1.length, c1⟩ ((m : Nat) : Int) ((n1 : Nat) : Int) ⟨b0, s0.length, e0⟩ ⟨b1, s1.length, e1⟩ ⟨d0, r0.length, k0⟩ ⟨d1, r1.length, k1⟩) 83 (0, 0))) : Tk B w' tp q0 q1 id0 id1 x0 x1 m n1 a0 c0 f0 a1 c1 f1 b0 e0 s0 b1 e1 s1 d0 k0 r0 d1 k1 r1 :=
  ⟨St.new, H.base, H.two.stT (by decide) (by decide) (by decide) (by decide) H.box St, H.l0.gros ((GroS.refl [tp] _).st St (.inr (by simp))) (jv H.box (by decide)) (fun k hk hm => by cases List.mem_singleton.1 hm; exact H.l0.row.ne H.box (by decide) hk), H.l1.gros ((GroS.refl [tp] _).st St (.inr (by simp))) (jv H.box (by decide)) (fun k hk hm => by cases List.mem_singleton.1 hm; exact H.l1.row.ne H.box (by decide) hk), H.t0.gros ((GroS.refl [tp] _).st St (.inr (by simp))) (fun k hk hm => by cases List.mem_singleton.1 hm; exact H.t0.ne H.box (by decide) hk), H.t1.gros ((GroS.refl [tp] _).st St (.inr (by simp))) (fun k hk hm => by cases List.mem_singleton.1 hm; exact H.t1.ne H.box (by decide) hk), H.u0.gros ((GroS.refl [tp] _).st St (.inr (by simp))) (fun k hk hm => by cases List.mem_singleton.1 hm; exact H.u0.ne H.box (by decide) hk), H.u1.gros ((GroS.refl [tp] _).st St (.inr (by simp))) (fun k hk hm => by cases List.mem_singleton.1 hm; exact H.u1.ne H.box (by decide) hk), H.sep⟩
theorem Tk.cnt1 (H : Tk B w tp q0 q1 id0 id1 x0 x1 n0 n1 a0 c0 f0 a1 c1 f1 b0 e0 s0 b1 e1 s1 d0 k0 r0 d1 k1 r1) {m : Nat} (St : Stored w w' tp (.cells (c83 (some ⟨q0, 0, none⟩) (some ⟨q1, 0, none⟩) ⟨a0, f0.length, c0⟩ ⟨a1, f1.length, c1⟩ ((n0 : Nat) : Int) ((m : Nat) : Int) ⟨b0, s0.length, e0⟩ ⟨b1, s1.length, e1⟩ ⟨d0, r0.length, k0⟩ ⟨d1, r1.length, k1⟩) 83 (0, 0))) : Tk B w' tp q0 q1 id0 id1 x0 x1 n0 m a0 c0 f0 a1 c1 f1 b0 e0 s0 b1 e1 s1 d0 k0 r0 d1 k1 r1 :=
  ⟨St.new, H.base, H.two.stT (by decide) (by decide) (by decide) (by decide) H.box St, H.l0.gros ((GroS.refl [tp] _).st St (.inr (by simp))) (jv H.box (by decide)) (fun k hk hm => by cases List.mem_singleton.1 hm; exact H.l0.row.ne H.box (by decide) hk), H.l1.gros ((GroS.refl [tp] _).st St (.inr (by simp))) (jv H.box (by decide)) (fun k hk hm => by cases List.mem_singleton.1 hm; exact H.l1.row.ne H.box (by decide) hk), H.t0.gros ((GroS.refl [tp] _).st St (.inr (by simp))) (fun k hk hm => by cases List.mem_singleton.1 hm; exact H.t0.ne H.box (by decide) hk), H.t1.gros ((GroS.refl [tp] _).st St (.inr (by simp))) (fun k hk hm => by cases List.mem_singleton.1 hm; exact H.t1.ne H.box (by decide) hk), H.u0.gros ((GroS.refl [tp] _).st St (.inr (by simp))) (fun k hk hm => by cases List.mem_singleton.1 hm; exact H.u0.ne H.box (by decide) hk), H.u1.gros ((GroS.refl [tp] _).st St (.inr (by simp))) (fun k hk hm => by cases List.mem_singleton.1 hm; exact H.u1.ne H.box (by decide) hk), H.sep⟩
end
end Go.Proofs.Ytlfanecaglbomaa
