/- Choices, neighbours and rows of them in memory. -/
import Derived.Test.YtipfllalfifheaaP12
import Derived.Test.YtipfllalfifheaaR1
namespace Go.Proofs.Ytipfllalfifheaa
open Classical
open Go.RowKit Go.Maps

def nrL (x : Nr) : List Value := [.int .i64 x.n] ++ (idA x.id).toList
def chL (c : Ch) : List Value := (idA c.id).toList ++ ([.bool c.near] ++ (paL c.p ++ [.int .i64 c.n]))
def nrA (x : Nr) : Array Value := (nrL x).toArray
def chA (c : Ch) : Array Value := (chL c).toArray
theorem nrL_len (x : Nr) : (nrL x).length = 17 := by simp [nrL, idA]
theorem chL_len (c : Ch) : (chL c).length = 35 := by simp [chL, paL, idA]
theorem nrA_size (x : Nr) : (nrA x).size = 17 := nrL_len x
theorem chA_size (c : Ch) : (chA c).size = 35 := chL_len c
theorem idL_one (n : Nat) : ∀ v ∈ (idA n).toList, v.oneCell' = true := fun v hv => Array.all_eq_true_iff_forall_mem.1 (idA_one n) v (by simpa using hv)
theorem nrL_one (x : Nr) : ∀ v ∈ nrL x, v.oneCell' = true := fun v hv => by
  rcases List.mem_append.1 hv with hv | hv
  · rw [List.mem_singleton.1 hv]; rfl
  · exact idL_one x.id v hv
theorem chL_one (c : Ch) : ∀ v ∈ chL c, v.oneCell' = true := fun v hv => by
  rcases List.mem_append.1 hv with hv | hv
  · exact idL_one c.id v hv
  rcases List.mem_append.1 hv with hv | hv
  · rw [List.mem_singleton.1 hv]; rfl
  rcases List.mem_append.1 hv with hv | hv
  · exact paL_one c.p v hv
  · rw [List.mem_singleton.1 hv]; rfl
theorem nrA_one (x : Nr) : (nrA x).all (·.oneCell') = true := by
  rw [Array.all_eq_true_iff_forall_mem]
  exact fun v hv => nrL_one x v (by simpa [nrA] using hv)
theorem chA_one (x : Ch) : (chA x).all (·.oneCell') = true := by
  rw [Array.all_eq_true_iff_forall_mem]
  exact fun v hv => chL_one x v (by simpa [chA] using hv)
theorem nrA_sz (a b : Nr) : (nrA a).size = (nrA b).size := (nrA_size a).trans (nrA_size b).symm
theorem chA_sz (a b : Ch) : (chA a).size = (chA b).size := (chA_size a).trans (chA_size b).symm
theorem nrA_fit (a b : Nr) : 0 + (nrA a).size ≤ (nrA b).size := by rw [nrA_size, nrA_size]; exact Nat.le_refl _
theorem chA_fit (a b : Ch) : 0 + (chA a).size ≤ (chA b).size := by rw [chA_size, chA_size]; exact Nat.le_refl _
theorem aC_0 (c : Ch) : (chA c).extract 0 (0 + 35) = chA c := by kernel_rfl
theorem aC_id (c : Ch) : (chA c).extract 0 (0 + 16) = idA c.id := by kernel_rfl
theorem aC_b (c : Ch) : (chA c)[16]? = some (.bool c.near) := by kernel_rfl
theorem aC_p (c : Ch) : (chA c).extract 17 (17 + 17) = paA c.p := by kernel_rfl
theorem aC_n (c : Ch) : (chA c)[34]? = some (.int .i64 c.n) := by kernel_rfl
theorem aN_0 (x : Nr) : (nrA x).extract 0 (0 + 17) = nrA x := by kernel_rfl
theorem aN_n (x : Nr) : (nrA x)[0]? = some (.int .i64 x.n) := by kernel_rfl
theorem aN_id (x : Nr) : (nrA x).extract 1 (1 + 16) = idA x.id := by kernel_rfl
theorem dN_id (x : Nr) : ((nrL x).drop 1).take 16 = (idA x.id).toList := by kernel_rfl
theorem dN_n (x : Nr) : (nrL x)[0]? = some (.int .i64 x.n) := by kernel_rfl
theorem spC_id (c : Ch) (i : Nat) : splice (chA c) 0 (idA i) = chA { c with id := i } := by kernel_rfl
theorem siC : (Try.prog.info? 40).map (·.size) = some 35 := by kernel_rfl
theorem siD : (Try.prog.info? 42).map (·.size) = some 35 := by kernel_rfl
theorem siN : (Try.prog.info? 55).map (·.size) = some 17 := by kernel_rfl
theorem siC' (x : Ch) : (Try.prog.info? 40).map (·.size) = some (chA x).size := by rw [chA_size]; exact siC
theorem siD' (x : Ch) : (Try.prog.info? 42).map (·.size) = some (chA x).size := by rw [chA_size]; exact siD
theorem siN' (x : Nr) : (Try.prog.info? 55).map (·.size) = some (nrA x).size := by rw [nrA_size]; exact siN
theorem zeroC (w : World) : (zeroValue 40).run Try.prog w = .ok (.agg (chA zC)) w := by rw [Try.zeroValue40]; kernel_rfl
theorem zeroD (w : World) : (zeroValue 42).run Try.prog w = .ok (.agg (chA zC)) w := by rw [Try.zeroValue42]; kernel_rfl
theorem zeroN (w : World) : (zeroValue 55).run Try.prog w = .ok (.agg (nrA zN)) w := by rw [Try.zeroValue55]; kernel_rfl
theorem ldC0 {o : Oper} {A : Act} {w : World} {x : Ch} (y : Operand) (ho : o.op = .load 40 y) (g : Nat) (hx : A.eval y = .pointer (some ⟨g, 0, none⟩)) (hg : w.heap[g]? = some (.cells (chA x) 40 (0, 0))) : (execOp A.eval o).run Try.prog w = .ok (.value (.agg (chA x))) w :=
  run_lda 40 y ho g 0 35 hx 40 _ hg _ Try.underlying40 rfl siC (by rw [chA_size]; decide) _ (aC_0 x)
theorem ldCi {o : Oper} {A : Act} {w : World} {x : Ch} (y : Operand) (ho : o.op = .load 23 y) (g : Nat) (hx : A.eval y = .pointer (some ⟨g, 0, none⟩)) (hg : w.heap[g]? = some (.cells (chA x) 40 (0, 0))) : (execOp A.eval o).run Try.prog w = .ok (.value (.agg (idA x.id))) w :=
  run_lda 23 y ho g 0 16 hx 40 _ hg _ Try.underlying23 rfl size23 (by rw [chA_size]; decide) _ (aC_id x)
theorem ldCp {o : Oper} {A : Act} {w : World} {x : Ch} (y : Operand) (ho : o.op = .load 38 y) (g : Nat) (hx : A.eval y = .pointer (some ⟨g, 17, none⟩)) (hg : w.heap[g]? = some (.cells (chA x) 40 (0, 0))) : (execOp A.eval o).run Try.prog w = .ok (.value (.agg (paA x.p))) w :=
  run_lda 38 y ho g 17 17 hx 40 _ hg _ Try.underlying38 rfl si31 (by rw [chA_size]; decide) _ (aC_p x)
theorem ldCn {o : Oper} {A : Act} {w : World} {x : Ch} (y : Operand) (ho : o.op = .load 3 y) (g : Nat) (hx : A.eval y = .pointer (some ⟨g, 34, none⟩)) (hg : w.heap[g]? = some (.cells (chA x) 40 (0, 0))) : (execOp A.eval o).run Try.prog w = .ok (.value (.int .i64 x.n)) w :=
  run_ldc 3 y ho g 34 hx 40 _ hg (na3 w) _ (aC_n x)
theorem ldCb {o : Oper} {A : Act} {w : World} {x : Ch} (y : Operand) (ho : o.op = .load 4 y) (g : Nat) (hx : A.eval y = .pointer (some ⟨g, 16, none⟩)) (hg : w.heap[g]? = some (.cells (chA x) 40 (0, 0))) (b : Bool) (hb : x.near = b) : (execOp A.eval o).run Try.prog w = .ok (.value (.bool b)) w :=
  run_ldc 4 y ho g 16 hx 40 _ hg (na4 w) _ (by rw [aC_b, hb])
theorem ldD0 {o : Oper} {A : Act} {w : World} {x : Ch} (y : Operand) (ho : o.op = .load 42 y) (g : Nat) (hx : A.eval y = .pointer (some ⟨g, 0, none⟩)) (hg : w.heap[g]? = some (.cells (chA x) 42 (0, 0))) : (execOp A.eval o).run Try.prog w = .ok (.value (.agg (chA x))) w :=
  run_lda 42 y ho g 0 35 hx 42 _ hg _ Try.underlying42 rfl siD (by rw [chA_size]; decide) _ (aC_0 x)
theorem ldDi {o : Oper} {A : Act} {w : World} {x : Ch} (y : Operand) (ho : o.op = .load 23 y) (g : Nat) (hx : A.eval y = .pointer (some ⟨g, 0, none⟩)) (hg : w.heap[g]? = some (.cells (chA x) 42 (0, 0))) : (execOp A.eval o).run Try.prog w = .ok (.value (.agg (idA x.id))) w :=
  run_lda 23 y ho g 0 16 hx 42 _ hg _ Try.underlying23 rfl size23 (by rw [chA_size]; decide) _ (aC_id x)
theorem ldDp {o : Oper} {A : Act} {w : World} {x : Ch} (y : Operand) (ho : o.op = .load 38 y) (g : Nat) (hx : A.eval y = .pointer (some ⟨g, 17, none⟩)) (hg : w.heap[g]? = some (.cells (chA x) 42 (0, 0))) : (execOp A.eval o).run Try.prog w = .ok (.value (.agg (paA x.p))) w :=
  run_lda 38 y ho g 17 17 hx 42 _ hg _ Try.underlying38 rfl si31 (by rw [chA_size]; decide) _ (aC_p x)
theorem ldDn {o : Oper} {A : Act} {w : World} {x : Ch} (y : Operand) (ho : o.op = .load 3 y) (g : Nat) (hx : A.eval y = .pointer (some ⟨g, 34, none⟩)) (hg : w.heap[g]? = some (.cells (chA x) 42 (0, 0))) : (execOp A.eval o).run Try.prog w = .ok (.value (.int .i64 x.n)) w :=
  run_ldc 3 y ho g 34 hx 42 _ hg (na3 w) _ (aC_n x)
theorem ldDb {o : Oper} {A : Act} {w : World} {x : Ch} (y : Operand) (ho : o.op = .load 4 y) (g : Nat) (hx : A.eval y = .pointer (some ⟨g, 16, none⟩)) (hg : w.heap[g]? = some (.cells (chA x) 42 (0, 0))) (b : Bool) (hb : x.near = b) : (execOp A.eval o).run Try.prog w = .ok (.value (.bool b)) w :=
  run_ldc 4 y ho g 16 hx 42 _ hg (na4 w) _ (by rw [aC_b, hb])
theorem ldR0 {o : Oper} {A : Act} {w : World} {x : Nr} (y : Operand) (ho : o.op = .load 55 y) (g : Nat) (hx : A.eval y = .pointer (some ⟨g, 0, none⟩)) (hg : w.heap[g]? = some (.cells (nrA x) 55 (0, 0))) : (execOp A.eval o).run Try.prog w = .ok (.value (.agg (nrA x))) w :=
  run_lda 55 y ho g 0 17 hx 55 _ hg _ Try.underlying55 rfl siN (by rw [nrA_size]; decide) _ (aN_0 x)
theorem ldRi {o : Oper} {A : Act} {w : World} {x : Nr} (y : Operand) (ho : o.op = .load 23 y) (g : Nat) (hx : A.eval y = .pointer (some ⟨g, 1, none⟩)) (hg : w.heap[g]? = some (.cells (nrA x) 55 (0, 0))) : (execOp A.eval o).run Try.prog w = .ok (.value (.agg (idA x.id))) w :=
  run_lda 23 y ho g 1 16 hx 55 _ hg _ Try.underlying23 rfl size23 (by rw [nrA_size]; decide) _ (aN_id x)
theorem ldRn {o : Oper} {A : Act} {w : World} {x : Nr} (y : Operand) (ho : o.op = .load 3 y) (g : Nat) (hx : A.eval y = .pointer (some ⟨g, 0, none⟩)) (hg : w.heap[g]? = some (.cells (nrA x) 55 (0, 0))) : (execOp A.eval o).run Try.prog w = .ok (.value (.int .i64 x.n)) w :=
  run_ldc 3 y ho g 0 hx 55 _ hg (na3 w) _ (aN_n x)
/-! ### Likeness -/
theorem fieldsC : Try.prog.fieldsOf 40 = #[{ name := "ID", type := 23, offset := 0, embedded := false, tag := "", pkgPath := "", byteOffset := 0 }, { name := "Near", type := 4, offset := 16, embedded := false, tag := "", pkgPath := "", byteOffset := 16 }, { name := "P", type := 38, offset := 17, embedded := false, tag := "", pkgPath := "", byteOffset := 24 }, { name := "N", type := 3, offset := 34, embedded := false, tag := "", pkgPath := "", byteOffset := 48 }] := by kernel_rfl
theorem undC : Try.prog.underlying 40 = some (.struct (Try.prog.fieldsOf 40)) := by rw [fieldsC]; exact Try.underlying40
theorem beqB_dec (a b : Bool) : (a == b) = decide (a = b) := by cases a <;> cases b <;> rfl
theorem eqFC (d : Nat) (x y : Ch) (hx : x.ok) (hy : y.ok) (w : World) : (Op.equalIn (d + 1 + 1 + 1 + 1) 40 (.agg (chA x)) (.agg (chA y))).run Try.prog w = .ok (decide (x = y)) w := by
  have p1 : ∀ z : Ch, (part 23 (chA z) 0).run Try.prog w = .ok (.agg (idA z.id)) w := fun z => by kernel_rfl
  have p2 : ∀ z : Ch, (part 4 (chA z) 16).run Try.prog w = .ok (.bool z.near) w := fun z => by kernel_rfl
  have p3 : ∀ z : Ch, (part 38 (chA z) 17).run Try.prog w = .ok (.agg (paA z.p)) w := fun z => by kernel_rfl
  have p4 : ∀ z : Ch, (part 3 (chA z) 34).run Try.prog w = .ok (.int .i64 z.n) w := fun z => by kernel_rfl
  have h1 := eqI_id (d + 1) x.id y.id hx.id hy.id w
  have h2 := run_equalIn_bool (P := Try.prog) w (d + 1 + 1) 4 x.near y.near Try.underlying4
  have h3 := eqF31 d x.p y.p hx.p hy.p w
  have h4 := run_equalIn_int (P := Try.prog) w (d + 1 + 1) 3 .i64 .i64 x.n y.n Try.underlying3
  rw [beqB_dec] at h2
  rw [beq_dec] at h4
  have e : decide (x = y) = (decide (x.id = y.id) && (decide (x.near = y.near) && (decide (x.p = y.p) && decide (x.n = y.n)))) := by
    obtain ⟨q1, q2, q3, q4⟩ := x
    obtain ⟨r1, r2, r3, r4⟩ := y
    simp
  rw [e, run_equalIn_struct w (d + 1 + 1 + 1) 40 _ _ undC (by kernel_rfl), fieldsC]
  clear e hx hy
  generalize decide (x.id = y.id) = P1 at *
  generalize decide (x.near = y.near) = P2 at *
  generalize decide (x.p = y.p) = P3 at *
  generalize decide (x.n = y.n) = P4 at *
  unfold Op.eqFields
  rw [if_pos (by decide), Sem.run_bind, p1, Result.andThen_ok, Sem.run_bind, p1, Result.andThen_ok, Sem.run_bind, h1, Result.andThen_ok]
  cases P1
  · rfl
  rw [if_neg (by decide)]
  unfold Op.eqFields
  rw [if_pos (by decide), Sem.run_bind, p2, Result.andThen_ok, Sem.run_bind, p2, Result.andThen_ok, Sem.run_bind, h2, Result.andThen_ok]
  cases P2
  · rfl
  rw [if_neg (by decide)]
  unfold Op.eqFields
  rw [if_pos (by decide), Sem.run_bind, p3, Result.andThen_ok, Sem.run_bind, p3, Result.andThen_ok, Sem.run_bind, h3, Result.andThen_ok]
  cases P3
  · rfl
  rw [if_neg (by decide)]
  unfold Op.eqFields
  rw [if_pos (by decide), Sem.run_bind, p4, Result.andThen_ok, Sem.run_bind, p4, Result.andThen_ok, Sem.run_bind, h4, Result.andThen_ok]
  cases P4 <;> rfl
theorem run_eqC {o : Oper} {A : Act} {w : World} (x y : Operand) (t2 : TypeId) (ho : o.op = .binOp .eql 40 x y t2) (n m : Ch) (hx : A.eval x = .agg (chA n)) (hy : A.eval y = .agg (chA m)) (hn : n.ok) (hm : m.ok) (p : Bool) (hp : decide (n = m) = p) :
    (execOp A.eval o).run Try.prog w = .ok (.value (.bool p)) w := by
  subst hp
  exact run_cmpA .eql 40 x y t2 ho _ _ hx hy (by kernel_rfl) _ (by rw [run_eql_struct, eqFC 9996 n m hn hm w]; rfl)
/-! ### Rows of whatever -/
structure Kd (α : Type) where
  E : α → List Value
  sz : Nat
  ok : α → Prop
  z : α
  len : ∀ x, (E x).length = sz
  one : ∀ x, ∀ v ∈ E x, v.oneCell' = true
def kC : Kd Ch := ⟨chL, 35, Ch.ok, zC, chL_len, chL_one⟩
def kN : Kd Nr := ⟨nrL, 17, Nr.ok, zN, nrL_len, nrL_one⟩
section
variable {α : Type}
/-- A row as it is read, and one's own. -/
structure RK (K : Kd α) (w : World) (ao : Option Addr) (cap : Nat) (l : List α) : Prop where
  xc : XC w K.sz ao cap l.length (l.flatMap K.E)
  all : ∀ x ∈ l, K.ok x
structure OW (K : Kd α) (e : TypeId) (w : World) (B : Nat) (ao : Option Addr) (cap : Nat) (l : List α) : Prop where
  own : OY w e K.sz B ao cap l.length (l.flatMap K.E)
  all : ∀ x ∈ l, K.ok x
variable {K : Kd α} {e : TypeId} {w w' : World} {ao : Option Addr} {cap B b g : Nat} {l : List α} {L : List En}
theorem fl_oneK : ∀ v ∈ l.flatMap K.E, v.oneCell' = true := fun v hv => by
  obtain ⟨n, _, hn⟩ := List.mem_flatMap.1 hv
  exact K.one n v hn
theorem RK.gro (h : RK K w ao cap l) (G : Gro w w') : RK K w' ao cap l := ⟨h.xc.gro G, h.all⟩
theorem RK.nil (w : World) : RK K w none 0 [] := ⟨XC.nil w K.sz, fun _ h => by cases h⟩
theorem RK.lt (h : RK K w ao cap l) : ∀ ad, ao = some ad → 0 < (l.flatMap K.E).length → ad.block < w.heap.size := h.xc.lt
theorem RK.ne (h : RK K w ao cap l) (e : w.heap.size = g) : NE ao (l.flatMap K.E).length g := fun ad ha h0 => by
  have := h.lt ad ha h0
  omega
theorem RK.st {x : Obj} (h : RK K w ao cap l) (St : Stored w w' g x) (hn : NE ao (l.flatMap K.E).length g) : RK K w' ao cap l := ⟨XC.st h.xc St hn, h.all⟩
theorem RK.gros {S : List Nat} (h : RK K w ao cap l) (G : GroS S w w') (hs : ∀ ad, ao = some ad → 0 < (l.flatMap K.E).length → ad.block ∉ S) : RK K w' ao cap l :=
  ⟨⟨h.xc.len, h.xc.fit, h.xc.bare, fun ad ha j v hv => by
    have h0 : 0 < (l.flatMap K.E).length := by have := (List.getElem?_eq_some_iff.1 hv).1; omega
    exact (World.cell?_of_block (by rw [add_block]; exact G.old _ (h.lt ad ha h0) (hs ad ha h0))).trans (h.xc.cell ad ha j v hv), h.xc.one⟩, h.all⟩
theorem RK.below (h : RK K w ao cap l) {B : Nat} (G : Below B w w') (hb : ∀ ad, ao = some ad → 0 < (l.flatMap K.E).length → ad.block < B) : RK K w' ao cap l := ⟨h.xc.below G hb, h.all⟩
theorem RK.mapw (h : RK K w ao cap l) (HT : TM w b L) (G : GroS [b] w w') : RK K w' ao cap l := h.gros G fun ad ha h0 => by
  have := h.xc.cell ad ha 0 (l.flatMap K.E)[0] (List.getElem?_eq_getElem h0)
  have h1 := HT.cell this
  rw [add_block] at h1
  simpa using h1
theorem RK.at (h : RK K w ao cap l) {j : Nat} (hj : j < l.length) : K.ok (l.getD j K.z) := by
  have : l.getD j K.z = l[j] := by simp [List.getD_eq_getElem?_getD, hj]
  rw [this]
  exact h.all _ (List.getElem_mem hj)
theorem RK.blk {t : TypeId} {fr : Nat × Nat} (hg : w.heap[g]? = some (.cells (l.flatMap K.E).toArray t fr)) (hl : ∀ x ∈ l, K.ok x) (hc : l.length ≤ cap) : RK K w (some ⟨g, 0, none⟩) cap l := by
  refine ⟨⟨flx_len K.len _, hc, fun h => (by cases h), fun ad ha j v hv => ?_, fl_oneK⟩, hl⟩
  cases ha
  rw [add_at, Nat.zero_add, cell_of_row w g j _ t _ hg]
  simpa using hv
theorem OW.re (h : OW K e w B ao cap l) : RK K w ao cap l := ⟨h.own.xc, h.all⟩
theorem OW.gro (h : OW K e w B ao cap l) (G : Gro w w') : OW K e w' B ao cap l := ⟨h.own.gro G, h.all⟩
theorem OW.nil (w : World) (B : Nat) : OW K e w B none 0 [] := ⟨OY.nil w e K.sz B, fun _ h => by cases h⟩
theorem OW.mono (h : OW K e w B ao cap l) {B' : Nat} (hB : B' ≤ B) : OW K e w B' ao cap l := ⟨h.own.mono hB, h.all⟩
theorem OW.gros {S : List Nat} (h : OW K e w B ao cap l) (G : GroS S w w') (hs : ∀ k ∈ Go.Proofs.Ytipfllalfifheaa.blk ao, k ∉ S) : OW K e w' B ao cap l := ⟨h.own.gros G hs, h.all⟩
theorem OW.ne (h : OW K e w B ao cap l) (e : w.heap.size = g) : g ∉ Go.Proofs.Ytipfllalfifheaa.blk ao := fun hm => by
  have := h.own.lt g hm
  omega
theorem OW.st {x : Obj} (h : OW K e w B ao cap l) (St : Stored w w' g x) (hn : g ∉ Go.Proofs.Ytipfllalfifheaa.blk ao) : OW K e w' B ao cap l := h.gros St.gros fun k hk hm => hn (by rw [List.mem_singleton] at hm; exact hm ▸ hk)
theorem OW.blk (hg : w.heap[g]? = some (.cells (l.flatMap K.E).toArray e (0, 0))) (hl : ∀ x ∈ l, K.ok x) (hB : B ≤ g) (hm : l.length ≤ 1000000) : OW K e w B (some ⟨g, 0, none⟩) l.length l :=
  ⟨⟨flx_len K.len l, .inr ⟨g, 0, _, rfl, hB, hg, Nat.le_refl _, by unfold maxLen; omega, by simp only [List.size_toArray, flx_len K.len]; omega, by simp only [List.drop_zero]; rw [← flx_len K.len l]; exact List.take_length⟩, fl_oneK⟩, hl⟩
theorem OW.belowB (h : OW K e w B ao cap l) (G : GroS (Go.Proofs.Ytipfllalfifheaa.blk ao) w w') (hB : B ≤ w.heap.size) : Below B w w' :=
  ⟨G.os, G.tape, G.output, G.size, fun k hk => G.old k (by omega) (fun hm => by have := h.own.base k hm; omega)⟩
/-- A call that answers a new row. -/
def RowK (K : Kd α) (e : TypeId) (w : World) (L : List α) (x : Ending) (w' : World) : Prop := ∃ ao cap, x = .returned (.slice ao L.length cap) ∧ Gro w w' ∧ OW K e w' w.heap.size ao cap L
/-- A row that an operation of a region makes. -/
def rowK (K : Kd α) (L : List α) : PostE := PostE.ex (fun v x => ∃ ao cap, v = .slice ao L.length cap ∧ RK K x ao cap L) (fun _ _ _ G ⟨a, c, h1, h2⟩ => ⟨a, c, h1, h2.gro G⟩)
theorem fill_rowK (L : List α) (v : Value) : (rowK K L).fill v = v := rfl
/-- Where a part of an element stands. -/
def pK (K : Kd α) (ao : Option Addr) (j q : Nat) : Option Addr := ao.map (·.add (j * K.sz + q))
variable {o : Oper} {A : Act} {t s : TypeId} {z : Value}
theorem run_ixK (R : RowT Try.prog t e K.sz s z) (h : RK K w ao cap l) (x y : Operand) (ho : o.op = .indexAddr t x y) (hx : A.eval x = .slice ao l.length cap) (j : Nat) (hy : A.eval y = .int .i64 (j : Int)) (hj : j < l.length) :
    (execOp A.eval o).run Try.prog w = .ok (.value (.pointer (pK K ao j 0))) w := by
  obtain ⟨ad, rfl⟩ := h.xc.some (by omega)
  exact run_idxX R x y ho ad _ _ j hx hy hj w
theorem el_fitK {j q k : Nat} (hj : j < l.length) (hq : q + k ≤ K.sz) : j * K.sz + q + k ≤ (l.flatMap K.E).length := by
  rw [flx_len K.len]
  have := Nat.mul_le_mul_right K.sz (show j + 1 ≤ l.length from hj)
  rw [Nat.add_mul, Nat.one_mul] at this
  omega
theorem run_ldK (h : RK K w ao cap l) (ty : TypeId) (d : TypeDesc) (hu : Try.prog.underlying ty = some d) (hd : (match d with | .struct _ | .array _ _ => true | _ => false) = true) (q k : Nat) (hi : (Try.prog.info? ty).map (·.size) = some k) (hq : q + k ≤ K.sz) (x : Operand) (ho : o.op = .load ty x) (j : Nat) (hx : A.eval x = .pointer (pK K ao j q)) (hj : j < l.length) (v : Array Value) (hv : ((K.E (l.getD j K.z)).drop q).take k = v.toList) :
    (execOp A.eval o).run Try.prog w = .ok (.value (.agg v)) w := by
  obtain ⟨ad, rfl⟩ := h.xc.some (by omega)
  rw [run_ldXa ty d hu (by cases d <;> first | rfl | cases hd) k hi x ho (j * K.sz + q) hx h.xc (el_fitK hj hq), flx_el K.len K.z l j hj q k hq, hv]
theorem run_ldKc (h : RK K w ao cap l) (ty : TypeId) (hu : (isAgg ty).run Try.prog w = .ok false w) (q : Nat) (hq : q < K.sz) (x : Operand) (ho : o.op = .load ty x) (j : Nat) (hx : A.eval x = .pointer (pK K ao j q)) (hj : j < l.length) (v : Value) (hv : (K.E (l.getD j K.z))[q]? = some v) :
    (execOp A.eval o).run Try.prog w = .ok (.value v) w := by
  obtain ⟨ad, rfl⟩ := h.xc.some (by omega)
  exact run_ldXc ty hu x ho (j * K.sz + q) hx h.xc _ (by rw [flx_cell K.len K.z l j hj q hq, hv])
theorem run_fdK (h : RK K w ao cap l) (ty : TypeId) (x : Operand) (i q : Nat) (hf : ∀ ad, (Instr.fieldAt ty (.pointer (some ad)) i).run Try.prog w = .ok (.pointer (some (ad.add q))) w) (ho : o.op = .fieldAddr ty x i) (j : Nat) (hx : A.eval x = .pointer (pK K ao j 0)) (hj : j < l.length) :
    (execOp A.eval o).run Try.prog w = .ok (.value (.pointer (pK K ao j q))) w := by
  obtain ⟨ad, rfl⟩ := h.xc.some (by omega)
  have := hf (ad.add (j * K.sz + 0))
  rw [add_add, Nat.add_zero] at this
  exact run_fdA ty x i ho hx _ this
variable {ops : Array Oper} {rest : List Oper} {T : List Value} {ds : List Deferred} {Q : Exit → Act → World → Prop}
/-- Onto one's own row. -/
theorem s_appK (R : RowT Try.prog t e K.sz s z) (hs1 : 0 < s) (hs2 : s ≤ 100) (dst : Nat) (hd : o.dst = some dst) (hgd : o.guard = none) (a x : Operand) (ho : o.op = .call { callee := .builtin .append, args := #[a, x], argTypes := #[t, t] })
    (hs : (⟨T.toArray, ds⟩ : Act).eval a = .slice ao l.length cap) (hown : OW K e w B ao cap l)
    {ao' : Option Addr} {cap' : Nat} {l' : List α} (hx : (⟨T.toArray, ds⟩ : Act).eval x = .slice ao' l'.length cap') (hsrc : RK K w ao' cap' l') (hb : l.length + l'.length ≤ 1000000) (hB : B ≤ w.heap.size)
    (h : ∀ ao2 cap2 w', OW K e w' B ao2 cap2 (l ++ l') → GroS (Go.Proofs.Ytipfllalfifheaa.blk ao) w w' → Kept w.heap.size ao ao2 → wpList Try.prog ops Q rest ⟨(T.set dst (.slice ao2 (l ++ l').length cap2)).toArray, ds⟩ w') : wpList Try.prog ops Q (o :: rest) ⟨T.toArray, ds⟩ w := by
  refine s_appY R dst hd hgd a x ho hs hown.own hx hsrc.xc (Nat.le_trans (Nat.mul_le_mul hb hs2) (by decide)) hs1 hB ?_
  intro ao2 cap2 w' h1 h2 h3
  rw [← List.flatMap_append, ← List.length_append] at h1
  have := h ao2 cap2 w' ⟨h1, fun x hx => (List.mem_append.1 hx).elim (hown.all x) (hsrc.all x)⟩ h2 h3
  rw [List.length_append] at this
  exact this
end
theorem rC : RowT Try.prog 32 40 kC.sz 56 (.agg (chA zC)) := ⟨Try.underlying32, info_of (by kernel_rfl), chA_size zC, by decide⟩
theorem rD : RowT Try.prog 34 42 kC.sz 56 (.agg (chA zC)) := ⟨Try.underlying34, info_of (by kernel_rfl), chA_size zC, by decide⟩
theorem rN : RowT Try.prog 24 55 kN.sz 24 (.agg (nrA zN)) := ⟨Try.underlying24, info_of (by kernel_rfl), nrA_size zN, by decide⟩
section
variable {o : Oper} {A : Act} {w : World} {ao : Option Addr} {cap : Nat}
theorem run_ldKC {l : List Ch} (h : RK kC w ao cap l) (x : Operand) (ho : o.op = .load 40 x) (j : Nat) (hx : A.eval x = .pointer (pK kC ao j 0)) (hj : j < l.length) : (execOp A.eval o).run Try.prog w = .ok (.value (.agg (chA (l.getD j zC)))) w :=
  run_ldK h 40 _ Try.underlying40 rfl 0 35 siC (by decide) x ho j hx hj _ (by kernel_rfl)
theorem run_ldKD {l : List Ch} (h : RK kC w ao cap l) (x : Operand) (ho : o.op = .load 42 x) (j : Nat) (hx : A.eval x = .pointer (pK kC ao j 0)) (hj : j < l.length) : (execOp A.eval o).run Try.prog w = .ok (.value (.agg (chA (l.getD j zC)))) w :=
  run_ldK h 42 _ Try.underlying42 rfl 0 35 siD (by decide) x ho j hx hj _ (by kernel_rfl)
theorem run_ldKN {l : List Nr} (h : RK kN w ao cap l) (x : Operand) (ho : o.op = .load 55 x) (j : Nat) (hx : A.eval x = .pointer (pK kN ao j 0)) (hj : j < l.length) : (execOp A.eval o).run Try.prog w = .ok (.value (.agg (nrA (l.getD j zN)))) w :=
  run_ldK h 55 _ Try.underlying55 rfl 0 17 siN (by decide) x ho j hx hj _ (by kernel_rfl)
theorem run_ldKNi {l : List Nr} (h : RK kN w ao cap l) (x : Operand) (ho : o.op = .load 23 x) (j : Nat) (hx : A.eval x = .pointer (pK kN ao j 1)) (hj : j < l.length) : (execOp A.eval o).run Try.prog w = .ok (.value (.agg (idA (l.getD j zN).id))) w :=
  run_ldK h 23 _ Try.underlying23 rfl 1 16 size23 (by decide) x ho j hx hj _ (dN_id _)
theorem run_ldKNn {l : List Nr} (h : RK kN w ao cap l) (x : Operand) (ho : o.op = .load 3 x) (j : Nat) (hx : A.eval x = .pointer (pK kN ao j 0)) (hj : j < l.length) : (execOp A.eval o).run Try.prog w = .ok (.value (.int .i64 (l.getD j zN).n)) w :=
  run_ldKc h 3 (na3 w) 0 (by decide) x ho j hx hj _ (dN_n _)
theorem fdN_0 (w : World) (ad : Addr) : (Instr.fieldAt 55 (.pointer (some ad)) 0).run Try.prog w = .ok (.pointer (some (ad.add 0))) w := by kernel_rfl
theorem fdN_1 (w : World) (ad : Addr) : (Instr.fieldAt 55 (.pointer (some ad)) 1).run Try.prog w = .ok (.pointer (some (ad.add 1))) w := by kernel_rfl
end
theorem bsC (a : Ch) (w : World) : (Instr.buildSlice 32 1 #[(0, .agg (chA a))]).run Try.prog w = .ok (.slice (some ⟨w.heap.size, 0, none⟩) 1 1) (w.alloc (.cells ([a].flatMap kC.E).toArray 40)) := by kernel_rfl
theorem bsD (a : Ch) (w : World) : (Instr.buildSlice 34 1 #[(0, .agg (chA a))]).run Try.prog w = .ok (.slice (some ⟨w.heap.size, 0, none⟩) 1 1) (w.alloc (.cells ([a].flatMap kC.E).toArray 42)) := by kernel_rfl
theorem bsN (a : Nr) (w : World) : (Instr.buildSlice 24 1 #[(0, .agg (nrA a))]).run Try.prog w = .ok (.slice (some ⟨w.heap.size, 0, none⟩) 1 1) (w.alloc (.cells ([a].flatMap kN.E).toArray 55)) := by kernel_rfl
theorem one_all {α : Type} {p : α → Prop} {x : α} (h : p x) : ∀ y ∈ [x], p y := fun y hy => by rw [List.mem_singleton.1 hy]; exact h
/-- A region's operation that builds a row of one. -/
theorem opE_bs {ops : Array Oper} {o : Oper} {A : Act} {w : World} {α : Type} {K : Kd α} {e : TypeId} (hw : Region.wanted o (yielded ops A.tmps) = true) (t : TypeId) (l : List (Nat × Operand)) (ho : o.op = .buildSlice t 1 l.toArray) (vals : List (Nat × Value)) (hv : (l.map fun p => (p.1, A.eval p.2)) = vals) (x : α) (hx : K.ok x)
    (hr : (Instr.buildSlice t 1 vals.toArray).run Try.prog w = .ok (.slice (some ⟨w.heap.size, 0, none⟩) 1 1) (w.alloc (.cells ([x].flatMap K.E).toArray e))) : OpE Try.prog ops (rowK K [x]) o A w :=
  opE_new (rowK K [x]) hw (run_bsl t 1 l ho vals hv hr) (gro_alloc _ _) ⟨_, _, rfl, RK.blk (heap_alloc_new _ _) (one_all hx) (Nat.le_refl _)⟩
/-- A region's call of a function value. -/
theorem opE_callF {ops : Array Oper} {o : Oper} {A : Act} {w : World} (k : PostE) (hw : Region.wanted o (yielded ops A.tmps) = true) (c : Call) (f : FuncId) (cb : Array Value) (hen : ∀ args w, (callFunc f args).run Try.prog w = .ok (.enter f args) w) (ho : o.op = .call c) (x : Operand) (hc : c.callee = .value x) (hx : A.eval x = .func (.func f) #[] cb) (xs : List Operand) (hxs : c.args = xs.toArray) (vs : List Value) (hvs : xs.map A.eval = vs)
    (H : Calls Try.prog f (vs.toArray ++ cb) w fun e w' => ∃ v, e = .returned v ∧ Gro w w' ∧ k.p v w') : OpE Try.prog ops k o A w :=
  ⟨by rw [if_pos hw, run_callF c f cb hen ho x hc hx, hxs, List.map_toArray, hvs]; exact H⟩
theorem ok_callF {ops : Array Oper} {o : Oper} {A : Act} {w : World} (hgd : o.guard = none) (c : Call) (f : FuncId) (cb : Array Value) (hen : ∀ args w, (callFunc f args).run Try.prog w = .ok (.enter f args) w) (ho : o.op = .call c) (x : Operand) (hc : c.callee = .value x) (hx : A.eval x = .func (.func f) #[] cb) (xs : List Operand) (hxs : c.args = xs.toArray) (vs : List Value) (hvs : xs.map A.eval = vs) (v : Value)
    (H : Calls Try.prog f (vs.toArray ++ cb) w fun e w' => e = .returned v ∧ Gro w w') : OpOK Try.prog ops (.val v) o A w := by
  constructor
  rw [if_pos (wanted_none hgd _), run_callF c f cb hen ho x hc hx, hxs, List.map_toArray, hvs]
  exact H.mono fun e w' ⟨he, hg⟩ => ⟨v, he, hg, rfl⟩
/-! ### A place -/
def plA (s : Nat) (an : Option Addr) (n cn : Nat) (ae : Option Addr) (m ce : Nat) : Array Value := ((idA s).toList ++ [Value.slice an n cn, Value.slice ae m ce]).toArray
section
variable {s : Nat} {an : Option Addr} {n cn : Nat} {ae : Option Addr} {m ce : Nat}
theorem plA_size : (plA s an n cn ae m ce).size = 18 := by simp [plA, idA]
theorem plA_one : (plA s an n cn ae m ce).all (·.oneCell') = true := by kernel_rfl
theorem siP : (Try.prog.info? 27).map (·.size) = some 18 := by kernel_rfl
theorem siP' : (Try.prog.info? 27).map (·.size) = some (plA s an n cn ae m ce).size := by rw [plA_size]; exact siP
theorem naN (w : World) : (isAgg 24).run Try.prog w = .ok false w := by kernel_rfl
theorem naE (w : World) : (isAgg 25).run Try.prog w = .ok false w := by kernel_rfl
variable {o : Oper} {A : Act} {w : World}
theorem ldLs (y : Operand) (ho : o.op = .load 23 y) (g : Nat) (hx : A.eval y = .pointer (some ⟨g, 0, none⟩)) (hg : w.heap[g]? = some (.cells (plA s an n cn ae m ce) 27 (0, 0))) : (execOp A.eval o).run Try.prog w = .ok (.value (.agg (idA s))) w :=
  run_lda 23 y ho g 0 16 hx 27 _ hg _ Try.underlying23 rfl size23 (by rw [plA_size]; decide) _ (by kernel_rfl)
theorem ldLn (y : Operand) (ho : o.op = .load 24 y) (g : Nat) (hx : A.eval y = .pointer (some ⟨g, 16, none⟩)) (hg : w.heap[g]? = some (.cells (plA s an n cn ae m ce) 27 (0, 0))) : (execOp A.eval o).run Try.prog w = .ok (.value (.slice an n cn)) w :=
  run_ldc 24 y ho g 16 hx 27 _ hg (naN w) _ (by kernel_rfl)
theorem ldLe (y : Operand) (ho : o.op = .load 25 y) (g : Nat) (hx : A.eval y = .pointer (some ⟨g, 17, none⟩)) (hg : w.heap[g]? = some (.cells (plA s an n cn ae m ce) 27 (0, 0))) : (execOp A.eval o).run Try.prog w = .ok (.value (.slice ae m ce)) w :=
  run_ldc 25 y ho g 17 hx 27 _ hg (naE w) _ (by kernel_rfl)
theorem spLn (an2 : Option Addr) (n2 cn2 : Nat) : splice (plA s an n cn ae m ce) 16 #[.slice an2 n2 cn2] = plA s an2 n2 cn2 ae m ce := by kernel_rfl
theorem spLe (ae2 : Option Addr) (m2 ce2 : Nat) : splice (plA s an n cn ae m ce) 17 #[.slice ae2 m2 ce2] = plA s an n cn ae2 m2 ce2 := by kernel_rfl
theorem siRN : (Try.prog.info? 24).map (·.size) = some 1 := by kernel_rfl
theorem siRE : (Try.prog.info? 25).map (·.size) = some 1 := by kernel_rfl
end
theorem sl_one (ao : Option Addr) (n cap : Nat) : (#[Value.slice ao n cap]).all (·.oneCell') = true := by kernel_rfl
end Go.Proofs.Ytipfllalfifheaa
