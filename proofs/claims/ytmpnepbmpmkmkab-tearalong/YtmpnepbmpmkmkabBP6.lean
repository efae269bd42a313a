/- Steps on keys, entries and tables. -/
import Derived.Test.YtmpnepbmpmkmkabBP5
import Derived.Test.YtmpnepbmpmkmkabBLaw10
namespace Go.Proofs.Ytmpnepbmpmkmkab
open Go.RowKit Go.Maps
theorem ldE0 {o : Oper} {A : Act} {w : World} {x : En} (y : Operand) (ho : o.op = .load 39 y) (g : Nat) (hx : A.eval y = .pointer (some ⟨g, 0, none⟩)) (hg : w.heap[g]? = some (.cells (enA x) 39 (0, 0))) : (execOp A.eval o).run Try.prog w = .ok (.value (.agg (enA x))) w :=
  run_lda 39 y ho g 0 51 hx 39 _ hg _ Try.underlying39 rfl si33 (by rw [enA_size]; decide) _ (aE_0 x)
theorem ldEp {o : Oper} {A : Act} {w : World} {x : En} (y : Operand) (ho : o.op = .load 26 y) (g : Nat) (hx : A.eval y = .pointer (some ⟨g, 0, none⟩)) (hg : w.heap[g]? = some (.cells (enA x) 39 (0, 0))) : (execOp A.eval o).run Try.prog w = .ok (.value (.agg (paA x.p))) w :=
  run_lda 26 y ho g 0 17 hx 39 _ hg _ Try.underlying26 rfl si31 (by rw [enA_size]; decide) _ (aE_p x)
theorem ldEa {o : Oper} {A : Act} {w : World} {x : En} (y : Operand) (ho : o.op = .load 24 y) (g : Nat) (hx : A.eval y = .pointer (some ⟨g, 17, none⟩)) (hg : w.heap[g]? = some (.cells (enA x) 39 (0, 0))) : (execOp A.eval o).run Try.prog w = .ok (.value (.agg (idA x.a))) w :=
  run_lda 24 y ho g 17 16 hx 39 _ hg _ Try.underlying24 rfl size23 (by rw [enA_size]; decide) _ (aE_a x)
theorem ldEb {o : Oper} {A : Act} {w : World} {x : En} (y : Operand) (ho : o.op = .load 24 y) (g : Nat) (hx : A.eval y = .pointer (some ⟨g, 33, none⟩)) (hg : w.heap[g]? = some (.cells (enA x) 39 (0, 0))) : (execOp A.eval o).run Try.prog w = .ok (.value (.agg (idA x.b))) w :=
  run_lda 24 y ho g 33 16 hx 39 _ hg _ Try.underlying24 rfl size23 (by rw [enA_size]; decide) _ (aE_b x)
theorem ldEna {o : Oper} {A : Act} {w : World} {x : En} (y : Operand) (ho : o.op = .load 3 y) (g : Nat) (hx : A.eval y = .pointer (some ⟨g, 49, none⟩)) (hg : w.heap[g]? = some (.cells (enA x) 39 (0, 0))) : (execOp A.eval o).run Try.prog w = .ok (.value (.int .i64 x.na)) w :=
  run_ldc 3 y ho g 49 hx 39 _ hg (na3 w) _ (aE_na x)
theorem ldEnb {o : Oper} {A : Act} {w : World} {x : En} (y : Operand) (ho : o.op = .load 3 y) (g : Nat) (hx : A.eval y = .pointer (some ⟨g, 50, none⟩)) (hg : w.heap[g]? = some (.cells (enA x) 39 (0, 0))) : (execOp A.eval o).run Try.prog w = .ok (.value (.int .i64 x.nb)) w :=
  run_ldc 3 y ho g 50 hx 39 _ hg (na3 w) _ (aE_nb x)
theorem ldP0 {o : Oper} {A : Act} {w : World} {x : Pa} (y : Operand) (ho : o.op = .load 26 y) (g : Nat) (hx : A.eval y = .pointer (some ⟨g, 0, none⟩)) (hg : w.heap[g]? = some (.cells (paA x) 26 (0, 0))) : (execOp A.eval o).run Try.prog w = .ok (.value (.agg (paA x))) w :=
  run_lda 26 y ho g 0 17 hx 26 _ hg _ Try.underlying26 rfl si31 (by rw [paA_size]; decide) _ (aP_0 x)
theorem ldPw {o : Oper} {A : Act} {w : World} {x : Pa} (y : Operand) (ho : o.op = .load 24 y) (g : Nat) (hx : A.eval y = .pointer (some ⟨g, 0, none⟩)) (hg : w.heap[g]? = some (.cells (paA x) 26 (0, 0))) : (execOp A.eval o).run Try.prog w = .ok (.value (.agg (idA x.who))) w :=
  run_lda 24 y ho g 0 16 hx 26 _ hg _ Try.underlying24 rfl size23 (by rw [paA_size]; decide) _ (aP_w x)
theorem ldPn {o : Oper} {A : Act} {w : World} {x : Pa} (y : Operand) (ho : o.op = .load 2 y) (g : Nat) (hx : A.eval y = .pointer (some ⟨g, 16, none⟩)) (hg : w.heap[g]? = some (.cells (paA x) 26 (0, 0))) : (execOp A.eval o).run Try.prog w = .ok (.value (.int .i64 x.n)) w :=
  run_ldc 2 y ho g 16 hx 26 _ hg (na2 w) _ (aP_n x)
theorem ldN0 {o : Oper} {A : Act} {w : World} {x : Int} (y : Operand) (ho : o.op = .load 3 y) (g : Nat) (hx : A.eval y = .pointer (some ⟨g, 0, none⟩)) (hg : w.heap[g]? = some (.cells (#[.int .i64 x]) 3 (0, 0))) : (execOp A.eval o).run Try.prog w = .ok (.value (.int .i64 x)) w :=
  run_ldc 3 y ho g 0 hx 3 _ hg (na3 w) _ (rfl)
theorem na41 (w : World) : (isAgg 63).run Try.prog w = .ok false w := by kernel_rfl
theorem na57 (w : World) : (isAgg 67).run Try.prog w = .ok false w := by kernel_rfl
/-- A table's cells. -/
def tbA (room b : Nat) : Array Value := #[.int .i64 ((room : Nat) : Int), .map (some b)]
def rbA (ao : Option Addr) (n cap most : Nat) : Array Value := #[.slice ao n cap, .int .i64 ((most : Nat) : Int)]
theorem ldTr {o : Oper} {A : Act} {w : World} {room b : Nat} (y : Operand) (ho : o.op = .load 3 y) (g : Nat) (hx : A.eval y = .pointer (some ⟨g, 0, none⟩)) (hg : w.heap[g]? = some (.cells (tbA room b) 69 (0, 0))) : (execOp A.eval o).run Try.prog w = .ok (.value (.int .i64 ((room : Nat) : Int))) w :=
  run_ldc 3 y ho g 0 hx 69 _ hg (na3 w) _ (rfl)
theorem ldTm {o : Oper} {A : Act} {w : World} {room b : Nat} (y : Operand) (ho : o.op = .load 67 y) (g : Nat) (hx : A.eval y = .pointer (some ⟨g, 1, none⟩)) (hg : w.heap[g]? = some (.cells (tbA room b) 69 (0, 0))) : (execOp A.eval o).run Try.prog w = .ok (.value (.map (some b))) w :=
  run_ldc 67 y ho g 1 hx 69 _ hg (na57 w) _ (rfl)
theorem ldRl {o : Oper} {A : Act} {w : World} {ao : Option Addr} {n cap most : Nat} (y : Operand) (ho : o.op = .load 63 y) (g : Nat) (hx : A.eval y = .pointer (some ⟨g, 0, none⟩)) (hg : w.heap[g]? = some (.cells (rbA ao n cap most) 78 (0, 0))) : (execOp A.eval o).run Try.prog w = .ok (.value (.slice ao n cap)) w :=
  run_ldc 63 y ho g 0 hx 78 _ hg (na41 w) _ (rfl)
theorem ldRm {o : Oper} {A : Act} {w : World} {ao : Option Addr} {n cap most : Nat} (y : Operand) (ho : o.op = .load 3 y) (g : Nat) (hx : A.eval y = .pointer (some ⟨g, 1, none⟩)) (hg : w.heap[g]? = some (.cells (rbA ao n cap most) 78 (0, 0))) : (execOp A.eval o).run Try.prog w = .ok (.value (.int .i64 ((most : Nat) : Int))) w :=
  run_ldc 3 y ho g 1 hx 78 _ hg (na3 w) _ (rfl)
theorem enA_fit (a b : En) : 0 + (enA a).size ≤ (enA b).size := by rw [enA_size, enA_size]; exact Nat.le_refl _
theorem enA_sz (a b : En) : (enA a).size = (enA b).size := (enA_size a).trans (enA_size b).symm
theorem i_one (x : Int) : (#[Value.int .i64 x]).all (·.oneCell') = true := by kernel_rfl
section
variable {P : Program} {o : Oper} {A : Act}
theorem run_addI (t : TypeId) (x y : Operand) (t2 : TypeId) (ho : o.op = .binOp .add t x y t2) (a b r : Int) (hx : A.eval x = .int .i64 a) (hy : A.eval y = .int .i64 b) (hr : a + b = r) (h1 : -9223372036854775808 ≤ r) (h2 : r < 9223372036854775808) (w : World) : (execOp A.eval o).run P w = .ok (.value (.int .i64 r)) w := by
  subst hr
  refine run_binop .add t x y t2 ho _ _ _ hx hy (by simp [eqGuard]) ?_
  simp [go_sem]
  exact wrap_in _ h1 h2
theorem run_subI (t : TypeId) (x y : Operand) (t2 : TypeId) (ho : o.op = .binOp .sub t x y t2) (a b r : Int) (hx : A.eval x = .int .i64 a) (hy : A.eval y = .int .i64 b) (hr : a - b = r) (h1 : -9223372036854775808 ≤ r) (h2 : r < 9223372036854775808) (w : World) : (execOp A.eval o).run P w = .ok (.value (.int .i64 r)) w := by
  subst hr
  refine run_binop .sub t x y t2 ho _ _ _ hx hy (by simp [eqGuard]) ?_
  simp [go_sem]
  exact wrap_in _ h1 h2
theorem run_minI (x y : Operand) (ats : Array TypeId) (ho : o.op = .call { callee := .builtin .min, args := #[x, y], argTypes := ats }) (n m : Int) (hx : A.eval x = .int .i64 n) (hy : A.eval y = .int .i64 m) (w : World) : (execOp A.eval o).run P w = .ok (.value (.int .i64 (min n m))) w := by
  unfold execOp
  simp only [ho, hx, hy, List.map_toArray, List.map_cons, List.map_nil, resolve, invoke]
  simp [builtin, Builtin.min_, Builtin.min2, go_sem]
  omega
theorem run_maxI (x y : Operand) (ats : Array TypeId) (ho : o.op = .call { callee := .builtin .max, args := #[x, y], argTypes := ats }) (n m : Int) (hx : A.eval x = .int .i64 n) (hy : A.eval y = .int .i64 m) (w : World) : (execOp A.eval o).run P w = .ok (.value (.int .i64 (max n m))) w := by
  unfold execOp
  simp only [ho, hx, hy, List.map_toArray, List.map_cons, List.map_nil, resolve, invoke]
  simp [builtin, Builtin.max_, Builtin.max2, go_sem]
  omega
theorem run_mkF {w : World} (f : FuncId) (x : Operand) (ho : o.op = .makeFunc (.func f) #[] #[x]) (v : Value) (hx : A.eval x = v) : (execOp A.eval o).run P w = .ok (.value (.func (.func f) #[] #[v])) w := by
  unfold execOp
  simp only [ho, List.map_toArray, List.map_cons, List.map_nil, hx]
  rfl
theorem run_callF {w : World} (c : Call) (f : FuncId) (cb : Array Value) (hen : ∀ args w, (callFunc f args).run P w = .ok (.enter f args) w) (ho : o.op = .call c) (x : Operand) (hc : c.callee = .value x) (hx : A.eval x = .func (.func f) #[] cb) :
    (execOp A.eval o).run P w = .ok (.enter f (c.args.map A.eval ++ cb)) w := by
  unfold execOp
  simp only [ho, resolve, hc, hx]
  simp [go_sem, hen, Deferred.ofValue]
variable {ops : Array Oper} {rest : List Oper} {T : List Value} {ds : List Deferred} {w : World} {Q : Exit → Act → World → Prop}
/-- A call of a function value. -/
theorem s_callF (dst : Nat) (hd : o.dst = some dst) (hgd : o.guard = none) (c : Call) (f : FuncId) (cb : Array Value) (hen : ∀ args w, (callFunc f args).run P w = .ok (.enter f args) w) (ho : o.op = .call c) (x : Operand) (hc : c.callee = .value x) (hx : (⟨T.toArray, ds⟩ : Act).eval x = .func (.func f) #[] cb) (xs : List Operand) (hxs : c.args = xs.toArray) (vs : List Value) (hvs : xs.map (Act.eval ⟨T.toArray, ds⟩) = vs)
    {v : Value} {R : World → Prop} (H : Calls P f (vs.toArray ++ cb) w fun e w' => e = .returned v ∧ R w')
    (h : ∀ w', R w' → wpList P ops Q rest ⟨(T.set dst v).toArray, ds⟩ w') : wpList P ops Q (o :: rest) ⟨T.toArray, ds⟩ w :=
  wpList_plain hgd fun _ hK => by
    unfold Oper.wp
    rw [run_callF c f cb hen ho x hc hx, hxs, List.map_toArray, hvs, Oper.upon_enter]
    refine H.mono fun e w' hR => ?_
    obtain ⟨rfl, hR⟩ := hR
    have := h w' hR
    rw [← put_list, ← hd] at this
    exact hK _ _ this
end
section
variable {o : Oper} {A : Act} {w : World}
theorem run_bdE (ho : o.op = .build 39 #[]) (w : World) : (execOp A.eval o).run Try.prog w = .ok (.value (.agg (enA zE))) w := by
  have h1 : (Instr.build 39 #[]).run Try.prog w = .ok (.agg (enA zE)) w := by kernel_rfl
  unfold execOp
  simp only [ho, List.map_toArray, List.map_nil, Sem.run_bind, h1, Result.andThen_ok, Sem.run_pure]
theorem run_lkE {b : Nat} {L : List En} (h : TM w b L) (x y : Operand) (ho : o.op = .lookup 67 x y true) (hx : A.eval x = .map (some b)) (p : Pa) (hy : A.eval y = .agg (paA p)) (hp : p.ok) (q : Bool) (hq : hasL L p = q) :
    (execOp A.eval o).run Try.prog w = .ok (.value (.tuple #[.agg (enA (getV L p)), .bool q])) w := by
  subst hq
  unfold execOp
  simp only [ho, hx, hy, Sem.run_bind, TM.look h hp, Result.andThen_ok, Sem.run_pure]
theorem run_mlen {b : Nat} {L : List En} (h : TM w b L) (x : Operand) (ho : o.op = .call { callee := .builtin .len, args := #[x], argTypes := #[67] }) (hx : A.eval x = .map (some b)) :
    (execOp A.eval o).run Try.prog w = .ok (.value (.int .i64 ((L.length : Nat) : Int))) w := by
  unfold execOp
  simp [ho, resolve, invoke, builtin, hx, h.len]
end
theorem Calls.bool {P : Program} {f : FuncId} {args : Array Value} {w : World} {R : World → World → Prop} {p q : Bool} (h : Calls P f args w fun e w' => e = .returned (.bool p) ∧ R w w') (e : p = q) : Calls P f args w fun e w' => e = .returned (.bool q) ∧ R w w' := e ▸ h
theorem Calls.valV {P : Program} {f : FuncId} {args : Array Value} {w : World} {R : World → World → Prop} {u v : Value} (h : Calls P f args w fun e w' => e = .returned u ∧ R w w') (e : u = v) : Calls P f args w fun e w' => e = .returned v ∧ R w w' := e ▸ h
/-- Blocks of a row. -/
def NE (ao : Option Addr) (n g : Nat) : Prop := ∀ ad, ao = some ad → 0 < n → ad.block ≠ g
section
variable {w w' : World} {ao : Option Addr} {cap : Nat} {l : List En} {g : Nat} {B b r : Nat} {L S : List En}
theorem XC.st {sz n : Nat} {cs : List Value} {x : Obj} (h : XC w sz ao cap n cs) (St : Stored w w' g x) (hn : NE ao cs.length g) : XC w' sz ao cap n cs :=
  ⟨h.len, h.fit, h.bare, fun ad ha j v hv => (World.cell?_of_block (St.old _ (by rw [add_block]; exact hn ad ha (by have := (List.getElem?_eq_some_iff.1 hv).1; omega)))).trans (h.cell ad ha j v hv), h.one⟩
theorem RE.ne (h : RE w ao cap l) (e : w.heap.size = g) : NE ao (flE l).length g := fun ad ha h0 => by
  have := h.lt ad ha h0
  omega
theorem RE.st {x : Obj} (h : RE w ao cap l) (St : Stored w w' g x) (hn : NE ao (flE l).length g) : RE w' ao cap l := ⟨XC.st h.xc St hn, h.all⟩
theorem RQ.ne {l : List Oq} (h : RQ w ao cap l) (e : w.heap.size = g) : NE ao (flO l).length g := fun ad ha h0 => by
  have := h.lt ad ha h0
  omega
theorem RQ.st {l : List Oq} {x : Obj} (h : RQ w ao cap l) (St : Stored w w' g x) (hn : NE ao (flO l).length g) : RQ w' ao cap l := ⟨XC.st h.xc St hn, h.all⟩
theorem OE.ne (h : OE w B ao cap l) (e : w.heap.size = g) : g ∉ Go.Proofs.Ytmpnepbmpmkmkab.blk ao := fun hm => by
  have := h.own.lt g hm
  omega
theorem Stored.gros {x : Obj} (St : Stored w w' g x) : GroS [g] w w' := ⟨St.os, St.tape, St.output, Nat.le_of_eq St.size.symm, fun k _ hk => St.old k (by simpa using hk)⟩
theorem OE.st {x : Obj} (h : OE w B ao cap l) (St : Stored w w' g x) (hn : g ∉ Go.Proofs.Ytmpnepbmpmkmkab.blk ao) : OE w' B ao cap l := h.gros St.gros fun k hk hm => hn (by rw [List.mem_singleton] at hm; exact hm ▸ hk)
theorem TM.ne (h : TM w b L) (e : w.heap.size = g) : b ≠ g := by have := h.lt; omega
theorem TM.st {x : Obj} (h : TM w b L) (St : Stored w w' g x) (hn : b ≠ g) : TM w' b L := h.gros St.gros (by simpa using hn)
theorem RgM.st {x : Obj} (h : RgM w b r L S) (St : Stored w w' g x) (hb : b ≠ g) (hr : r ≠ g) : RgM w' b r L S := by
  obtain ⟨Y, c, Z, seen, h1, h2, h3⟩ := h
  exact ⟨Y, c, Z, seen, ⟨St.has hb h1.at_, h1.perm, h1.lt, h1.nd, h1.all, h1.kn⟩, St.has hr h2, h3⟩
end
/-- A call that answers a new row. -/
def RowP (w : World) (L : List En) (e : Ending) (w' : World) : Prop := ∃ ao cap, e = .returned (.slice ao L.length cap) ∧ Gro w w' ∧ OE w' w.heap.size ao cap L
theorem bs1 (a : En) (w : World) : (Instr.buildSlice 63 1 #[(0, .agg (enA a))]).run Try.prog w = .ok (.slice (some ⟨w.heap.size, 0, none⟩) 1 1) (w.alloc (.cells (flE [a]).toArray 39)) := by kernel_rfl
end Go.Proofs.Ytmpnepbmpmkmkab
