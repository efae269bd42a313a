/- Rows of whatever kind; items and versions in memory. -/
import Derived.Test.YtjahegiopigblaaHQ1
import Derived.Test.YtjahegiopigblaaHB4
import Derived.Test.YtjahegiopigblaaHLaw3
import Derived.Test.YtjahegiopigblaaHW14
namespace Go.Proofs.Ytjahegiopigblaa
open Go.RowKit
theorem idA_len (n : Nat) : (idA n).toList.length = 16 := by simp [idA]
theorem idL_one (n : Nat) : ∀ v ∈ (idA n).toList, v.oneCell' = true := fun v hv => Array.all_eq_true_iff_forall_mem.1 (idA_one n) v (by simpa using hv)
theorem idA_fit (a b : Nat) : 0 + (idA a).size ≤ (idA b).size := by rw [idA_size, idA_size]; exact Nat.le_refl _
theorem idA_sz (a b : Nat) : (idA a).size = (idA b).size := (idA_size a).trans (idA_size b).symm
theorem beq_dec (a b : Int) : (a == b) = decide (a = b) := rfl
theorem eqI_id (d : Nat) (a b : Nat) (ha : a < top) (hb : b < top) (w : World) : (Op.equalIn (d + 1 + 1) 23 (.agg (idA a)) (.agg (idA b))).run Try.prog w = .ok (decide (a = b)) w := by
  refine run_equalIn_row _ 23 5 16 Try.underlying23 w (Try.sizeOf5 w) (idA a) (idA b) (fun i => .int .u8 (byt a i)) (fun i => .int .u8 (byt b i)) (fun i => (byt a i : Int) == byt b i)
    (fun i hi => part_id a i hi w) (fun i hi => part_id b i hi w) (fun i _ => run_equalIn_int w _ 5 .u8 .u8 _ _ Try.underlying5) _ ?_
  rw [decide_eq_true_iff]
  constructor
  · rintro rfl i _; simp
  · intro h
    exact eq_of_bytes ha hb fun i hi => by have := h i hi; simp at this; omega
theorem run_cmpA {o : Oper} {A : Act} {w : World} (op : BinOp) (t : TypeId) (x y : Operand) (t2 : TypeId) (ho : o.op = .binOp op t x y t2) (c d : Array Value) (hx : A.eval x = .agg c) (hy : A.eval y = .agg d) (hm : Try.prog.eqGuardType Try.prog.depth t = false) (v : Value) (h : (binOp op t (.agg c) (.agg d)).run Try.prog w = .ok v w) : (execOp A.eval o).run Try.prog w = .ok (.value v) w :=
  run_binop op t x y t2 ho _ _ _ hx hy (run_eqGuard_agg w op t x y c d hm) h
section
variable {o : Oper} {A : Act} {w : World}
theorem run_eqI (x y : Operand) (t2 : TypeId) (ho : o.op = .binOp .eql 23 x y t2) (n m : Nat) (hx : A.eval x = .agg (idA n)) (hy : A.eval y = .agg (idA m)) (hn : n < top) (hm : m < top) (p : Bool) (hp : decide (n = m) = p) :
    (execOp A.eval o).run Try.prog w = .ok (.value (.bool p)) w := by
  subst hp
  exact run_eqlop_id x y t2 ho n m hx hy _ (fun w => run_eql_id n m hn hm w) w
theorem run_neI (x y : Operand) (t2 : TypeId) (ho : o.op = .binOp .neq 23 x y t2) (n m : Nat) (hx : A.eval x = .agg (idA n)) (hy : A.eval y = .agg (idA m)) (hn : n < top) (hm : m < top) (p : Bool) (hp : decide (n = m) = !p) :
    (execOp A.eval o).run Try.prog w = .ok (.value (.bool p)) w := by
  have : p = !decide (n = m) := by rw [hp]; simp
  subst this
  exact run_eqlop_id x y t2 ho n m hx hy _ (fun w => run_neq_id n m hn hm w) w
end
section
variable {α : Type} {enc : α → List Value} {sz : Nat}
theorem flx_len (h : ∀ x, (enc x).length = sz) : ∀ l : List α, (l.flatMap enc).length = l.length * sz
  | [] => by simp
  | n :: l => by rw [List.flatMap_cons, List.length_append, h, flx_len h l, List.length_cons, Nat.add_mul, Nat.one_mul, Nat.add_comm]
theorem flx_drop (h : ∀ x, (enc x).length = sz) : ∀ (i : Nat) (l : List α), (l.flatMap enc).drop (i * sz) = (l.drop i).flatMap enc
  | 0, l => by simp
  | i + 1, [] => by simp
  | i + 1, n :: l => by
    rw [List.flatMap_cons, List.drop_succ_cons, ← flx_drop h i l, show (i + 1) * sz = (enc n).length + i * sz by rw [h, Nat.add_mul, Nat.one_mul, Nat.add_comm], List.drop_length_add_append]
theorem flx_take (h : ∀ x, (enc x).length = sz) : ∀ (i : Nat) (l : List α), (l.flatMap enc).take (i * sz) = (l.take i).flatMap enc
  | 0, l => by simp
  | i + 1, [] => by simp
  | i + 1, n :: l => by
    rw [List.flatMap_cons, List.take_succ_cons, List.flatMap_cons, ← flx_take h i l, show (i + 1) * sz = (enc n).length + i * sz by rw [h, Nat.add_mul, Nat.one_mul, Nat.add_comm], List.take_length_add_append]
theorem flx_at (h : ∀ x, (enc x).length = sz) (z : α) (l : List α) (j : Nat) (hj : j < l.length) : (l.flatMap enc).drop (j * sz) = enc (l.getD j z) ++ (l.drop (j + 1)).flatMap enc := by
  rw [flx_drop h, List.drop_eq_getElem_cons hj, List.flatMap_cons]
  simp [List.getD_eq_getElem?_getD, hj]
theorem flx_el (h : ∀ x, (enc x).length = sz) (z : α) (l : List α) (j : Nat) (hj : j < l.length) (q k : Nat) (hq : q + k ≤ sz) : ((l.flatMap enc).drop (j * sz + q)).take k = ((enc (l.getD j z)).drop q).take k := by
  rw [← List.drop_drop, flx_at h z l j hj, List.drop_append_of_le_length (by rw [h]; omega), List.take_append_of_le_length (by rw [List.length_drop, h]; omega)]
theorem flx_cell (h : ∀ x, (enc x).length = sz) (z : α) (l : List α) (j : Nat) (hj : j < l.length) (q : Nat) (hq : q < sz) : (l.flatMap enc)[j * sz + q]? = (enc (l.getD j z))[q]? := by
  have := flx_at h z l j hj
  rw [← List.getElem?_drop, this, List.getElem?_append_left (by rw [h]; exact hq)]
end
section
variable {P : Program} {o : Oper} {A : Act} {w : World} {sz cap n : Nat} {cs : List Value} {ad : Addr}
theorem run_ldXa (ty : TypeId) (d : TypeDesc) (hu : P.underlying ty = some d) (hd : (match d with | .struct _ | .array _ _ => true | _ => false) = true) (k : Nat) (hi : (P.info? ty).map (·.size) = some k) (x : Operand) (ho : o.op = .load ty x) (q : Nat) (hx : A.eval x = .pointer (some (ad.add q))) (h : XC w sz (some ad) cap n cs) (hq : q + k ≤ cs.length) :
    (execOp A.eval o).run P w = .ok (.value (.agg ((cs.drop q).take k).toArray)) w := by
  have hlen : ((cs.drop q).take k).length = k := by rw [List.length_take, List.length_drop]; omega
  have hld : (loadCells (ad.add q) k).run P w = .ok ((cs.drop q).take k).toArray w := by
    have := run_loadCells_list (P := P) w (ad.add q) ((cs.drop q).take k) fun i v hv => by
      rw [List.getElem?_take] at hv
      split at hv
      · rw [List.getElem?_drop] at hv
        rw [add_add]
        exact h.cell ad rfl _ v hv
      · cases hv
    rwa [hlen] at this
  have hagg : (isAgg ty).run P w = .ok true w := by
    unfold isAgg
    rw [Sem.run_bind, run_underlying hu w]
    cases d <;> simp_all
  have hsz : (sizeOf ty).run P w = .ok k w := by
    cases e : P.info? ty with
    | none => rw [e] at hi; cases hi
    | some i =>
      rw [e] at hi
      cases hi
      simp [sizeOf, typeInfo, e]
  have hv : (loadVar ty (ad.add q)).run P w = .ok (.agg ((cs.drop q).take k).toArray) w := by
    simp [loadVar, hagg, hsz, hld]
  unfold execOp
  simp only [ho, hx, Instr.loadAt, Instr.sureAddr, Sem.run_bind, Sem.run_pure, Result.andThen_ok, hv]
theorem run_ldXc (ty : TypeId) (hu : (isAgg ty).run P w = .ok false w) (x : Operand) (ho : o.op = .load ty x) (q : Nat) (hx : A.eval x = .pointer (some (ad.add q))) (h : XC w sz (some ad) cap n cs) (v : Value) (hv : cs[q]? = some v) :
    (execOp A.eval o).run P w = .ok (.value v) w := by
  have hc := h.cell ad rfl q v hv
  unfold execOp
  simp only [ho, hx]
  simp [Instr.loadAt, Instr.sureAddr, Sem.run_bind, loadVar, hu, hc, go_sem]
theorem run_fdA (s : TypeId) (x : Operand) (i : Nat) (ho : o.op = .fieldAddr s x i) (hx : A.eval x = .pointer (some ad)) (r : Addr)
    (hf : (Instr.fieldAt s (.pointer (some ad)) i).run P w = .ok (.pointer (some r)) w) : (execOp A.eval o).run P w = .ok (.value (.pointer (some r))) w := by
  unfold execOp
  simp only [ho, hx, Sem.run_bind, hf, Result.andThen_ok, Sem.run_pure]
end
section
variable {P : Program} {o : Oper} {A : Act}
theorem run_addI (t : TypeId) (x y : Operand) (t2 : TypeId) (ho : o.op = .binOp .add t x y t2) (a b r : Int) (hx : A.eval x = .int .i64 a) (hy : A.eval y = .int .i64 b) (hr : a + b = r) (h1 : -9223372036854775808 ≤ r) (h2 : r < 9223372036854775808) (w : World) : (execOp A.eval o).run P w = .ok (.value (.int .i64 r)) w := by
  subst hr
  refine run_binop .add t x y t2 ho _ _ _ hx hy (by simp [eqGuard]) ?_
  simp [go_sem]
  exact wrap_in _ h1 h2
theorem run_callF {w : World} (c : Call) (f : FuncId) (cb : Array Value) (hen : ∀ args w, (callFunc f args).run P w = .ok (.enter f args) w) (ho : o.op = .call c) (x : Operand) (hc : c.callee = .value x) (hx : A.eval x = .func (.func f) #[] cb) :
    (execOp A.eval o).run P w = .ok (.enter f (c.args.map A.eval ++ cb)) w := by
  unfold execOp
  simp only [ho, resolve, hc, hx]
  simp [go_sem, hen, Deferred.ofValue]
variable {ops : Array Oper} {rest : List Oper} {T : List Value} {ds : List Deferred} {w : World} {Q : Exit → Act → World → Prop}
/-- A call of a function value. -/
theorem s_callF (dst : Nat) (hd : o.dst = some dst) (hgd : o.guard = none) (c : Call) (f : FuncId) (cb : Array Value) (hen : ∀ args w, (callFunc f args).run P w = .ok (.enter f args) w) (ho : o.op = .call c) (x : Operand) (hc : c.callee = .value x) (hx : (⟨T.toArray, ds⟩ : Act).eval x = .func (.func f) #[] cb) (xs : List Operand) (hxs : c.args = xs.toArray) (vs : List Value) (hvs : xs.map (Act.eval ⟨T.toArray, ds⟩) = vs)
    {v : Value} {R : World → Prop} (H : Calls P f (vs.toArray ++ cb) w fun e w' => e = .returned v ∧ R w')
    (h : ∀ w', R w' → wpList P ops Q rest ⟨(T.set dst v).toArray, ds⟩ w') : wpList P ops Q (o :: rest) ⟨T.toArray, ds⟩ w :=
  wpList_plain hgd fun _ hK => by
    unfold Oper.wp
    rw [run_callF c f cb hen ho x hc hx, hxs, List.map_toArray, hvs, Oper.upon_enter]
    refine H.mono fun e w' hR => ?_
    obtain ⟨rfl, hR⟩ := hR
    have := h w' hR
    rw [← put_list, ← hd] at this
    exact hK _ _ this
end
theorem Calls.bool {P : Program} {f : FuncId} {args : Array Value} {w : World} {R : World → World → Prop} {p q : Bool} (h : Calls P f args w fun e w' => e = .returned (.bool p) ∧ R w w') (e : p = q) : Calls P f args w fun e w' => e = .returned (.bool q) ∧ R w w' := e ▸ h
theorem Calls.valV {P : Program} {f : FuncId} {args : Array Value} {w : World} {R : World → World → Prop} {u v : Value} (h : Calls P f args w fun e w' => e = .returned u ∧ R w w') (e : u = v) : Calls P f args w fun e w' => e = .returned v ∧ R w w' := e ▸ h
/-- Blocks of a row. -/
def NE (ao : Option Addr) (n g : Nat) : Prop := ∀ ad, ao = some ad → 0 < n → ad.block ≠ g
section
variable {w w' : World} {ao : Option Addr} {cap g : Nat}
theorem XC.st {sz n : Nat} {cs : List Value} {x : Obj} (h : XC w sz ao cap n cs) (St : Stored w w' g x) (hn : NE ao cs.length g) : XC w' sz ao cap n cs :=
  ⟨h.len, h.fit, h.bare, fun ad ha j v hv => (World.cell?_of_block (St.old _ (by rw [add_block]; exact hn ad ha (by have := (List.getElem?_eq_some_iff.1 hv).1; omega)))).trans (h.cell ad ha j v hv), h.one⟩
theorem Stored.gros {x : Obj} (St : Stored w w' g x) : GroS [g] w w' := ⟨St.os, St.tape, St.output, Nat.le_of_eq St.size.symm, fun k _ hk => St.old k (by simpa using hk)⟩
end
/-! ### Candidates and keys -/
theorem ldI0 {o : Oper} {A : Act} {w : World} {x : Nat} (y : Operand) (ho : o.op = .load 23 y) (g : Nat) (hx : A.eval y = .pointer (some ⟨g, 0, none⟩)) (hg : w.heap[g]? = some (.cells (idA x) 23 (0, 0))) : (execOp A.eval o).run Try.prog w = .ok (.value (.agg (idA x))) w :=
  run_lda 23 y ho g 0 16 hx 23 _ hg _ Try.underlying23 rfl size23 (by rw [idA_size]; decide) _ (extract_id x)
/-! ### Likeness -/
/-! ### Rows of whatever -/
structure Kd (α : Type) where
  E : α → List Value
  sz : Nat
  ok : α → Prop
  z : α
  len : ∀ x, (E x).length = sz
  one : ∀ x, ∀ v ∈ E x, v.oneCell' = true
section
variable {α : Type}
/-- A row as it is read, and one's own. -/
structure RK (K : Kd α) (w : World) (ao : Option Addr) (cap : Nat) (l : List α) : Prop where
  xc : XC w K.sz ao cap l.length (l.flatMap K.E)
  all : ∀ x ∈ l, K.ok x
structure OW (K : Kd α) (e : TypeId) (w : World) (B : Nat) (ao : Option Addr) (cap : Nat) (l : List α) : Prop where
  own : OY w e K.sz B ao cap l.length (l.flatMap K.E)
  all : ∀ x ∈ l, K.ok x
variable {K : Kd α} {e : TypeId} {w w' : World} {ao : Option Addr} {cap B b g : Nat} {l : List α}
theorem fl_oneK : ∀ v ∈ l.flatMap K.E, v.oneCell' = true := fun v hv => by
  obtain ⟨n, _, hn⟩ := List.mem_flatMap.1 hv
  exact K.one n v hn
theorem RK.gro (h : RK K w ao cap l) (G : Gro w w') : RK K w' ao cap l := ⟨h.xc.gro G, h.all⟩
theorem RK.nil (w : World) : RK K w none 0 [] := ⟨XC.nil w K.sz, fun _ h => by cases h⟩
theorem RK.lt (h : RK K w ao cap l) : ∀ ad, ao = some ad → 0 < (l.flatMap K.E).length → ad.block < w.heap.size := h.xc.lt
theorem RK.ne (h : RK K w ao cap l) (e : w.heap.size = g) : NE ao (l.flatMap K.E).length g := fun ad ha h0 => by
  have := h.lt ad ha h0
  omega
theorem RK.st {x : Obj} (h : RK K w ao cap l) (St : Stored w w' g x) (hn : NE ao (l.flatMap K.E).length g) : RK K w' ao cap l := ⟨XC.st h.xc St hn, h.all⟩
theorem RK.gros {S : List Nat} (h : RK K w ao cap l) (G : GroS S w w') (hs : ∀ ad, ao = some ad → 0 < (l.flatMap K.E).length → ad.block ∉ S) : RK K w' ao cap l :=
  ⟨⟨h.xc.len, h.xc.fit, h.xc.bare, fun ad ha j v hv => by
    have h0 : 0 < (l.flatMap K.E).length := by have := (List.getElem?_eq_some_iff.1 hv).1; omega
    exact (World.cell?_of_block (by rw [add_block]; exact G.old _ (h.lt ad ha h0) (hs ad ha h0))).trans (h.xc.cell ad ha j v hv), h.xc.one⟩, h.all⟩
theorem RK.below (h : RK K w ao cap l) {B : Nat} (G : Below B w w') (hb : ∀ ad, ao = some ad → 0 < (l.flatMap K.E).length → ad.block < B) : RK K w' ao cap l := ⟨h.xc.below G hb, h.all⟩
theorem RK.at (h : RK K w ao cap l) {j : Nat} (hj : j < l.length) : K.ok (l.getD j K.z) := by
  have : l.getD j K.z = l[j] := by simp [List.getD_eq_getElem?_getD, hj]
  rw [this]
  exact h.all _ (List.getElem_mem hj)
theorem RK.blk {t : TypeId} {fr : Nat × Nat} (hg : w.heap[g]? = some (.cells (l.flatMap K.E).toArray t fr)) (hl : ∀ x ∈ l, K.ok x) (hc : l.length ≤ cap) : RK K w (some ⟨g, 0, none⟩) cap l := by
  refine ⟨⟨flx_len K.len _, hc, fun h => (by cases h), fun ad ha j v hv => ?_, fl_oneK⟩, hl⟩
  cases ha
  rw [add_at, Nat.zero_add, cell_of_row w g j _ t _ hg]
  simpa using hv
theorem OW.re (h : OW K e w B ao cap l) : RK K w ao cap l := ⟨h.own.xc, h.all⟩
theorem OW.gro (h : OW K e w B ao cap l) (G : Gro w w') : OW K e w' B ao cap l := ⟨h.own.gro G, h.all⟩
theorem OW.nil (w : World) (B : Nat) : OW K e w B none 0 [] := ⟨OY.nil w e K.sz B, fun _ h => by cases h⟩
theorem OW.mono (h : OW K e w B ao cap l) {B' : Nat} (hB : B' ≤ B) : OW K e w B' ao cap l := ⟨h.own.mono hB, h.all⟩
theorem OW.gros {S : List Nat} (h : OW K e w B ao cap l) (G : GroS S w w') (hs : ∀ k ∈ Go.Proofs.Ytjahegiopigblaa.blk ao, k ∉ S) : OW K e w' B ao cap l := ⟨h.own.gros G hs, h.all⟩
theorem OW.ne (h : OW K e w B ao cap l) (e : w.heap.size = g) : g ∉ Go.Proofs.Ytjahegiopigblaa.blk ao := fun hm => by
  have := h.own.lt g hm
  omega
theorem OW.st {x : Obj} (h : OW K e w B ao cap l) (St : Stored w w' g x) (hn : g ∉ Go.Proofs.Ytjahegiopigblaa.blk ao) : OW K e w' B ao cap l := h.gros St.gros fun k hk hm => hn (by rw [List.mem_singleton] at hm; exact hm ▸ hk)
theorem OW.blk (hg : w.heap[g]? = some (.cells (l.flatMap K.E).toArray e (0, 0))) (hl : ∀ x ∈ l, K.ok x) (hB : B ≤ g) (hm : l.length ≤ 1000000) : OW K e w B (some ⟨g, 0, none⟩) l.length l :=
  ⟨⟨flx_len K.len l, .inr ⟨g, 0, _, rfl, hB, hg, Nat.le_refl _, by unfold maxLen; omega, by simp only [List.size_toArray, flx_len K.len]; omega, by simp only [List.drop_zero]; rw [← flx_len K.len l]; exact List.take_length⟩, fl_oneK⟩, hl⟩
/-- A row that an operation of a region makes. -/
def rowK (K : Kd α) (L : List α) : PostE := PostE.ex (fun v x => ∃ ao cap, v = .slice ao L.length cap ∧ RK K x ao cap L) (fun _ _ _ G ⟨a, c, h1, h2⟩ => ⟨a, c, h1, h2.gro G⟩)
theorem fill_rowK (L : List α) (v : Value) : (rowK K L).fill v = v := rfl
/-- Where a part of an element stands. -/
def pK (K : Kd α) (ao : Option Addr) (j q : Nat) : Option Addr := ao.map (·.add (j * K.sz + q))
variable {o : Oper} {A : Act} {t s : TypeId} {z : Value}
theorem run_ixK (R : RowT Try.prog t e K.sz s z) (h : RK K w ao cap l) (x y : Operand) (ho : o.op = .indexAddr t x y) (hx : A.eval x = .slice ao l.length cap) (j : Nat) (hy : A.eval y = .int .i64 (j : Int)) (hj : j < l.length) :
    (execOp A.eval o).run Try.prog w = .ok (.value (.pointer (pK K ao j 0))) w := by
  obtain ⟨ad, rfl⟩ := h.xc.some (by omega)
  exact run_idxX R x y ho ad _ _ j hx hy hj w
theorem el_fitK {j q k : Nat} (hj : j < l.length) (hq : q + k ≤ K.sz) : j * K.sz + q + k ≤ (l.flatMap K.E).length := by
  rw [flx_len K.len]
  have := Nat.mul_le_mul_right K.sz (show j + 1 ≤ l.length from hj)
  rw [Nat.add_mul, Nat.one_mul] at this
  omega
theorem run_ldK (h : RK K w ao cap l) (ty : TypeId) (d : TypeDesc) (hu : Try.prog.underlying ty = some d) (hd : (match d with | .struct _ | .array _ _ => true | _ => false) = true) (q k : Nat) (hi : (Try.prog.info? ty).map (·.size) = some k) (hq : q + k ≤ K.sz) (x : Operand) (ho : o.op = .load ty x) (j : Nat) (hx : A.eval x = .pointer (pK K ao j q)) (hj : j < l.length) (v : Array Value) (hv : ((K.E (l.getD j K.z)).drop q).take k = v.toList) :
    (execOp A.eval o).run Try.prog w = .ok (.value (.agg v)) w := by
  obtain ⟨ad, rfl⟩ := h.xc.some (by omega)
  rw [run_ldXa ty d hu (by cases d <;> first | rfl | cases hd) k hi x ho (j * K.sz + q) hx h.xc (el_fitK hj hq), flx_el K.len K.z l j hj q k hq, hv]
theorem run_ldKc (h : RK K w ao cap l) (ty : TypeId) (hu : (isAgg ty).run Try.prog w = .ok false w) (q : Nat) (hq : q < K.sz) (x : Operand) (ho : o.op = .load ty x) (j : Nat) (hx : A.eval x = .pointer (pK K ao j q)) (hj : j < l.length) (v : Value) (hv : (K.E (l.getD j K.z))[q]? = some v) :
    (execOp A.eval o).run Try.prog w = .ok (.value v) w := by
  obtain ⟨ad, rfl⟩ := h.xc.some (by omega)
  exact run_ldXc ty hu x ho (j * K.sz + q) hx h.xc _ (by rw [flx_cell K.len K.z l j hj q hq, hv])
theorem run_fdK (h : RK K w ao cap l) (ty : TypeId) (x : Operand) (i q : Nat) (hf : ∀ ad, (Instr.fieldAt ty (.pointer (some ad)) i).run Try.prog w = .ok (.pointer (some (ad.add q))) w) (ho : o.op = .fieldAddr ty x i) (j : Nat) (hx : A.eval x = .pointer (pK K ao j 0)) (hj : j < l.length) :
    (execOp A.eval o).run Try.prog w = .ok (.value (.pointer (pK K ao j q))) w := by
  obtain ⟨ad, rfl⟩ := h.xc.some (by omega)
  have := hf (ad.add (j * K.sz + 0))
  rw [add_add, Nat.add_zero] at this
  exact run_fdA ty x i ho hx _ this
variable {ops : Array Oper} {rest : List Oper} {T : List Value} {ds : List Deferred} {Q : Exit → Act → World → Prop}
/-- Onto one's own row. -/
theorem s_appK (R : RowT Try.prog t e K.sz s z) (hs1 : 0 < s) (dst : Nat) (hd : o.dst = some dst) (hgd : o.guard = none) (a x : Operand) (ho : o.op = .call { callee := .builtin .append, args := #[a, x], argTypes := #[t, t] })
    (hs : (⟨T.toArray, ds⟩ : Act).eval a = .slice ao l.length cap) (hown : OW K e w B ao cap l)
    {ao' : Option Addr} {cap' : Nat} {l' : List α} (hx : (⟨T.toArray, ds⟩ : Act).eval x = .slice ao' l'.length cap') (hsrc : RK K w ao' cap' l') (hb : (l.length + l'.length) * s ≤ 140737488355328) (hB : B ≤ w.heap.size)
    (h : ∀ ao2 cap2 w', OW K e w' B ao2 cap2 (l ++ l') → GroS (Go.Proofs.Ytjahegiopigblaa.blk ao) w w' → Kept w.heap.size ao ao2 → wpList Try.prog ops Q rest ⟨(T.set dst (.slice ao2 (l ++ l').length cap2)).toArray, ds⟩ w') : wpList Try.prog ops Q (o :: rest) ⟨T.toArray, ds⟩ w := by
  refine s_appY R dst hd hgd a x ho hs hown.own hx hsrc.xc hb hs1 hB ?_
  intro ao2 cap2 w' h1 h2 h3
  rw [← List.flatMap_append, ← List.length_append] at h1
  have := h ao2 cap2 w' ⟨h1, fun x hx => (List.mem_append.1 hx).elim (hown.all x) (hsrc.all x)⟩ h2 h3
  rw [List.length_append] at this
  exact this
end
theorem one_all {α : Type} {p : α → Prop} {x : α} (h : p x) : ∀ y ∈ [x], p y := fun y hy => by rw [List.mem_singleton.1 hy]; exact h
/-- A region's operation that builds a row of one. -/
theorem opE_bs {ops : Array Oper} {o : Oper} {A : Act} {w : World} {α : Type} {K : Kd α} {e : TypeId} (hw : Region.wanted o (yielded ops A.tmps) = true) (t : TypeId) (l : List (Nat × Operand)) (ho : o.op = .buildSlice t 1 l.toArray) (vals : List (Nat × Value)) (hv : (l.map fun p => (p.1, A.eval p.2)) = vals) (x : α) (hx : K.ok x)
    (hr : (Instr.buildSlice t 1 vals.toArray).run Try.prog w = .ok (.slice (some ⟨w.heap.size, 0, none⟩) 1 1) (w.alloc (.cells ([x].flatMap K.E).toArray e))) : OpE Try.prog ops (rowK K [x]) o A w :=
  opE_new (rowK K [x]) hw (run_bsl t 1 l ho vals hv hr) (gro_alloc _ _) ⟨_, _, rfl, RK.blk (heap_alloc_new _ _) (one_all hx) (Nat.le_refl _)⟩
/-- A region's call of a function value. -/
theorem opE_callF {ops : Array Oper} {o : Oper} {A : Act} {w : World} (k : PostE) (hw : Region.wanted o (yielded ops A.tmps) = true) (c : Call) (f : FuncId) (cb : Array Value) (hen : ∀ args w, (callFunc f args).run Try.prog w = .ok (.enter f args) w) (ho : o.op = .call c) (x : Operand) (hc : c.callee = .value x) (hx : A.eval x = .func (.func f) #[] cb) (xs : List Operand) (hxs : c.args = xs.toArray) (vs : List Value) (hvs : xs.map A.eval = vs)
    (H : Calls Try.prog f (vs.toArray ++ cb) w fun e w' => ∃ v, e = .returned v ∧ Gro w w' ∧ k.p v w') : OpE Try.prog ops k o A w :=
  ⟨by rw [if_pos hw, run_callF c f cb hen ho x hc hx, hxs, List.map_toArray, hvs]; exact H⟩
theorem sl_one (ao : Option Addr) (n cap : Nat) : (#[Value.slice ao n cap]).all (·.oneCell') = true := by kernel_rfl
def kI : Kd Nat := ⟨fun n => (idA n).toList, 16, fun n => n < top, 0, idA_len, idL_one⟩
/-! ### Stores into rows -/
/-- Some of a list written over. -/
def spl {α : Type} (l : List α) (j : Nat) (vs : List α) : List α := l.take j ++ (vs ++ l.drop (j + vs.length))
theorem spl_get {α : Type} (l : List α) (j : Nat) (vs : List α) (h : j + vs.length ≤ l.length) (i : Nat) : (spl l j vs)[i]? = if i < j then l[i]? else if i < j + vs.length then vs[i - j]? else l[i]? := by
  unfold spl
  have h1 : (l.take j).length = j := by rw [List.length_take]; omega
  by_cases c1 : i < j
  · rw [if_pos c1, List.getElem?_append_left (by omega), List.getElem?_take, if_pos c1]
  · rw [if_neg c1, List.getElem?_append_right (by omega), h1]
    by_cases c2 : i < j + vs.length
    · rw [if_pos c2, List.getElem?_append_left (by omega)]
    · rw [if_neg c2, List.getElem?_append_right (by omega), List.getElem?_drop]
      congr 1
      omega
theorem spl_len {α : Type} (l : List α) (j : Nat) (vs : List α) (h : j + vs.length ≤ l.length) : (spl l j vs).length = l.length := by
  unfold spl
  simp only [List.length_append, List.length_take, List.length_drop]
  omega
theorem spl_all {α : Type} {p : α → Prop} {l : List α} {j : Nat} {vs : List α} (h : ∀ x ∈ l, p x) (k : ∀ x ∈ vs, p x) : ∀ x ∈ spl l j vs, p x := fun x hx => by
  unfold spl at hx
  rcases List.mem_append.1 hx with hx | hx
  · exact h x (List.mem_of_mem_take hx)
  rcases List.mem_append.1 hx with hx | hx
  · exact k x hx
  · exact h x (List.mem_of_mem_drop hx)
theorem spl_within {α : Type} (l : List α) (d m j : Nat) (vs : List α) (h : j + vs.length ≤ m) (hm : d + m ≤ l.length) : ((spl l (d + j) vs).drop d).take m = spl ((l.drop d).take m) j vs := by
  apply List.ext_getElem?
  intro i
  rw [spl_get _ _ _ (by rw [List.length_take, List.length_drop]; omega), List.getElem?_take, List.getElem?_drop, spl_get _ _ _ (by omega), List.getElem?_take, List.getElem?_drop]
  by_cases c0 : i < m
  · rw [if_pos c0, if_pos c0]
    by_cases c1 : i < j
    · rw [if_pos c1, if_pos (by omega)]
    · rw [if_neg c1, if_neg (by omega)]
      by_cases c2 : i < j + vs.length
      · rw [if_pos c2, if_pos (by omega)]
        congr 1
        omega
      · rw [if_neg c2, if_neg (by omega)]
  · rw [if_neg c0, if_neg c0, if_neg (by omega), if_neg (by omega)]
theorem OY.put {w : World} {e : TypeId} {sz B : Nat} {ao : Option Addr} {cap n : Nat} {cs : List Value} (h : OY w e sz B ao cap n cs) {j : Nat} (vs : List Value) (hj : j + vs.length ≤ n * sz) (h0 : 0 < vs.length) (hv : ∀ v ∈ vs, v.oneCell' = true) : ∃ g d cur, ao = some ⟨g, d, none⟩ ∧ B ≤ g ∧ w.heap[g]? = some (.cells cur e (0, 0)) ∧ d + j + vs.length ≤ cur.size ∧
    ∀ w', Stored w w' g (.cells (splice cur (d + j) vs.toArray) e (0, 0)) → OY w' e sz B ao cap n (spl cs j vs) := by
  rcases h.row with ⟨_, _, h3⟩ | ⟨g, d, cur, h1, h2, h3, h4, h5, h6, h7⟩
  · rw [h3, Nat.zero_mul] at hj
    omega
  have hm2 : n * sz ≤ cap * sz := Nat.mul_le_mul_right _ h4
  have e1 : (splice cur (d + j) vs.toArray).toList = spl cur.toList (d + j) vs := by simp [splice, spl, List.append_assoc]
  have hle : d + j + vs.length ≤ cur.size := by omega
  refine ⟨g, d, cur, h1, h2, h3, hle, fun w' St => ⟨by rw [spl_len _ _ _ (by rw [h.len]; exact hj)]; exact h.len, .inr ⟨g, d, _, h1, h2, St.new, h4, h5, ?_, ?_⟩, spl_all h.one hv⟩⟩
  · have : (splice cur (d + j) vs.toArray).size = cur.size := splice_size _ _ _ (by simpa using hle)
    omega
  · rw [e1, spl_within _ _ _ _ _ hj (by rw [Array.length_toList]; omega), h7]
theorem atI {w : World} {ao : Option Addr} {cap : Nat} {l : List Nat} (h : RK kI w ao cap l) {j : Nat} (hj : j < l.length) : l.getD j 0 < top := h.at hj
theorem take_at {α : Type} (z : α) (l : List α) (i : Nat) (hi : i < l.length) : l.take (i + 1) = l.take i ++ [l.getD i z] := by
  have hg : l.getD i z = l[i] := by simp [List.getD_eq_getElem?_getD, hi]
  rw [List.take_add_one, List.getElem?_eq_getElem hi, Option.toList_some, hg]
/-! ### Items and versions -/
structure VM where
  n : Int
  who : Nat
structure IM where
  key : Nat
  n : Int
  who : Nat
  ao : Option Addr
  cap : Nat
  val : List Nat
def I64 (x : Int) : Prop := -9223372036854775808 ≤ x ∧ x < 9223372036854775808
structure VM.ok (x : VM) : Prop where
  n : I64 x.n
  who : x.who < top
structure IM.ok (x : IM) : Prop where
  key : x.key < top
  n : I64 x.n
  who : x.who < top
def zV : VM := ⟨0, 0⟩
def zM : IM := ⟨0, 0, 0, none, 0, []⟩
def IM.ver (x : IM) : VM := ⟨x.n, x.who⟩
theorem top_0' : 0 < top := by unfold top; decide
theorem zV_ok : zV.ok := ⟨⟨by decide, by decide⟩, top_0'⟩
theorem IM.ok.ver {x : IM} (h : x.ok) : x.ver.ok := ⟨h.n, h.who⟩
def veL (x : VM) : List Value := .int .i64 x.n :: (idA x.who).toList
def veA (x : VM) : Array Value := (veL x).toArray
def itL (x : IM) : List Value := (idA x.key).toList ++ (.int .i64 x.n :: ((idA x.who).toList ++ [.slice x.ao x.val.length x.cap]))
def itA (x : IM) : Array Value := (itL x).toArray
theorem veL_len (x : VM) : (veL x).length = 17 := by simp [veL, idA]
theorem veA_size (x : VM) : (veA x).size = 17 := veL_len x
theorem itL_len (x : IM) : (itL x).length = 34 := by simp [itL, idA]
theorem itA_size (x : IM) : (itA x).size = 34 := itL_len x
theorem veL_one (x : VM) : ∀ v ∈ veL x, v.oneCell' = true := fun v hv => by
  rcases List.mem_cons.1 hv with rfl | h
  · rfl
  · exact idL_one _ _ h
theorem itL_one (x : IM) : ∀ v ∈ itL x, v.oneCell' = true := fun v hv => by
  rcases List.mem_append.1 hv with h | h
  · exact idL_one _ _ h
  · rcases List.mem_cons.1 h with rfl | h
    · rfl
    · rcases List.mem_append.1 h with h | h
      · exact idL_one _ _ h
      · rw [List.mem_singleton.1 h]
        rfl
theorem veA_one (x : VM) : (veA x).all (·.oneCell') = true := by
  rw [Array.all_eq_true_iff_forall_mem]
  exact fun v hv => veL_one x v (by simpa [veA] using hv)
theorem itA_one (x : IM) : (itA x).all (·.oneCell') = true := by
  rw [Array.all_eq_true_iff_forall_mem]
  exact fun v hv => itL_one x v (by simpa [itA] using hv)
theorem veA_sz (a b : VM) : (veA a).size = (veA b).size := (veA_size a).trans (veA_size b).symm
theorem veA_fit (a b : VM) : 0 + (veA a).size ≤ (veA b).size := by rw [veA_size, veA_size]; exact Nat.le_refl _
theorem itA_sz (a b : IM) : (itA a).size = (itA b).size := (itA_size a).trans (itA_size b).symm
theorem itA_fit (a b : IM) : 0 + (itA a).size ≤ (itA b).size := by rw [itA_size, itA_size]; exact Nat.le_refl _
theorem siIt : (Try.prog.info? 46).map (·.size) = some 34 := by kernel_rfl
theorem siVe : (Try.prog.info? 39).map (·.size) = some 17 := by kernel_rfl
theorem siIt' (x : IM) : (Try.prog.info? 46).map (·.size) = some (itA x).size := by rw [itA_size]; exact siIt
theorem siVe' (x : VM) : (Try.prog.info? 39).map (·.size) = some (veA x).size := by rw [veA_size]; exact siVe
theorem zeroIt (w : World) : (zeroValue 46).run Try.prog w = .ok (.agg (itA zM)) w := by rw [Try.zeroValue46]; kernel_rfl
theorem zeroVe (w : World) : (zeroValue 39).run Try.prog w = .ok (.agg (veA zV)) w := by rw [Try.zeroValue39]; kernel_rfl
def kM : Kd IM := ⟨itL, 34, IM.ok, zM, itL_len, itL_one⟩
theorem na44v (w : World) : (isAgg 44).run Try.prog w = .ok false w := by kernel_rfl
theorem aI_0 (x : IM) : (itA x).extract 0 (0 + 34) = itA x := by kernel_rfl
theorem aI_k (x : IM) : (itA x).extract 0 (0 + 16) = idA x.key := by kernel_rfl
theorem aI_v (x : IM) : (itA x).extract 16 (16 + 17) = veA x.ver := by kernel_rfl
theorem aI_r (x : IM) : (itA x)[33]? = some (.slice x.ao x.val.length x.cap) := by kernel_rfl
theorem aV_0 (x : VM) : (veA x).extract 0 (0 + 17) = veA x := by kernel_rfl
theorem dI_0 (x : IM) : ((itL x).drop 0).take 34 = (itA x).toList := by kernel_rfl
theorem dI_k (x : IM) : ((itL x).drop 0).take 16 = (idA x.key).toList := by kernel_rfl
theorem dI_v (x : IM) : ((itL x).drop 16).take 17 = (veA x.ver).toList := by kernel_rfl
theorem dI_r (x : IM) : (itL x)[33]? = some (.slice x.ao x.val.length x.cap) := by kernel_rfl
theorem ldIt0 {o : Oper} {A : Act} {w : World} {x : IM} (y : Operand) (ho : o.op = .load 46 y) (g : Nat) (hx : A.eval y = .pointer (some ⟨g, 0, none⟩)) (hg : w.heap[g]? = some (.cells (itA x) 46 (0, 0))) : (execOp A.eval o).run Try.prog w = .ok (.value (.agg (itA x))) w :=
  run_lda 46 y ho g 0 34 hx 46 _ hg _ Try.underlying46 rfl siIt (by rw [itA_size]; decide) _ (aI_0 x)
theorem ldItk {o : Oper} {A : Act} {w : World} {x : IM} (y : Operand) (ho : o.op = .load 23 y) (g : Nat) (hx : A.eval y = .pointer (some ⟨g, 0, none⟩)) (hg : w.heap[g]? = some (.cells (itA x) 46 (0, 0))) : (execOp A.eval o).run Try.prog w = .ok (.value (.agg (idA x.key))) w :=
  run_lda 23 y ho g 0 16 hx 46 _ hg _ Try.underlying23 rfl size23 (by rw [itA_size]; decide) _ (aI_k x)
theorem ldItv {o : Oper} {A : Act} {w : World} {x : IM} (y : Operand) (ho : o.op = .load 39 y) (g : Nat) (hx : A.eval y = .pointer (some ⟨g, 16, none⟩)) (hg : w.heap[g]? = some (.cells (itA x) 46 (0, 0))) : (execOp A.eval o).run Try.prog w = .ok (.value (.agg (veA x.ver))) w :=
  run_lda 39 y ho g 16 17 hx 46 _ hg _ Try.underlying39 rfl siVe (by rw [itA_size]; decide) _ (aI_v x)
theorem ldItr {o : Oper} {A : Act} {w : World} {x : IM} (y : Operand) (ho : o.op = .load 44 y) (g : Nat) (hx : A.eval y = .pointer (some ⟨g, 33, none⟩)) (hg : w.heap[g]? = some (.cells (itA x) 46 (0, 0))) : (execOp A.eval o).run Try.prog w = .ok (.value (.slice x.ao x.val.length x.cap)) w :=
  run_ldc 44 y ho g 33 hx 46 _ hg (na44v w) _ (aI_r x)
theorem ldVe0 {o : Oper} {A : Act} {w : World} {x : VM} (y : Operand) (ho : o.op = .load 39 y) (g : Nat) (hx : A.eval y = .pointer (some ⟨g, 0, none⟩)) (hg : w.heap[g]? = some (.cells (veA x) 39 (0, 0))) : (execOp A.eval o).run Try.prog w = .ok (.value (.agg (veA x))) w :=
  run_lda 39 y ho g 0 17 hx 39 _ hg _ Try.underlying39 rfl siVe (by rw [veA_size]; decide) _ (aV_0 x)
theorem siBy : (Try.prog.info? 44).map (·.size) = some 1 := by kernel_rfl
theorem bdV0 (w : World) : (Instr.build 39 #[]).run Try.prog w = .ok (.agg (veA zV)) w := by kernel_rfl
def IM.re (x : IM) (ao : Option Addr) (cap : Nat) : IM := ⟨x.key, x.n, x.who, ao, cap, x.val⟩
theorem IM.ok.re {x : IM} (h : x.ok) (ao : Option Addr) (cap : Nat) : (x.re ao cap).ok := ⟨h.key, h.n, h.who⟩
theorem spl_val (x : IM) (ao : Option Addr) (cap : Nat) : splice (itA x) 33 #[.slice ao x.val.length cap] = itA (x.re ao cap) := by kernel_rfl
theorem rM : RowT Try.prog 40 46 kM.sz 64 (.agg (itA zM)) := ⟨Try.underlying40, info_of (by kernel_rfl), itA_size zM, by decide⟩
theorem bsM (a : IM) (w : World) : (Instr.buildSlice 40 1 #[(0, .agg (itA a))]).run Try.prog w = .ok (.slice (some ⟨w.heap.size, 0, none⟩) 1 1) (w.alloc (.cells ([a].flatMap kM.E).toArray 46)) := by kernel_rfl
theorem atM {w : World} {ao : Option Addr} {cap : Nat} {l : List IM} (h : RK kM w ao cap l) {j : Nat} (hj : j < l.length) : (l.getD j zM).ok := h.at hj
section
variable {o : Oper} {A : Act} {w : World} {ao : Option Addr} {cap : Nat}
theorem run_ldKM {l : List IM} (h : RK kM w ao cap l) (x : Operand) (ho : o.op = .load 46 x) (j : Nat) (hx : A.eval x = .pointer (pK kM ao j 0)) (hj : j < l.length) : (execOp A.eval o).run Try.prog w = .ok (.value (.agg (itA (l.getD j zM)))) w :=
  run_ldK h 46 _ Try.underlying46 rfl 0 34 siIt (Nat.le_refl _) x ho j hx hj _ (dI_0 _)
theorem run_ldKMk {l : List IM} (h : RK kM w ao cap l) (x : Operand) (ho : o.op = .load 23 x) (j : Nat) (hx : A.eval x = .pointer (pK kM ao j 0)) (hj : j < l.length) : (execOp A.eval o).run Try.prog w = .ok (.value (.agg (idA (l.getD j zM).key))) w :=
  run_ldK h 23 _ Try.underlying23 rfl 0 16 size23 (by decide) x ho j hx hj _ (dI_k _)
theorem run_ldKMv {l : List IM} (h : RK kM w ao cap l) (x : Operand) (ho : o.op = .load 39 x) (j : Nat) (hx : A.eval x = .pointer (pK kM ao j 16)) (hj : j < l.length) : (execOp A.eval o).run Try.prog w = .ok (.value (.agg (veA (l.getD j zM).ver))) w :=
  run_ldK h 39 _ Try.underlying39 rfl 16 17 siVe (by decide) x ho j hx hj _ (dI_v _)
theorem run_ldKMr {l : List IM} (h : RK kM w ao cap l) (x : Operand) (ho : o.op = .load 44 x) (j : Nat) (hx : A.eval x = .pointer (pK kM ao j 33)) (hj : j < l.length) : (execOp A.eval o).run Try.prog w = .ok (.value (.slice (l.getD j zM).ao (l.getD j zM).val.length (l.getD j zM).cap)) w :=
  run_ldKc h 44 (na44v w) 33 (by decide) x ho j hx hj _ (dI_r _)
end
theorem fdM_0 (w : World) (ad : Addr) : (Instr.fieldAt 46 (.pointer (some ad)) 0).run Try.prog w = .ok (.pointer (some (ad.add 0))) w := by kernel_rfl
theorem fdM_1 (w : World) (ad : Addr) : (Instr.fieldAt 46 (.pointer (some ad)) 1).run Try.prog w = .ok (.pointer (some (ad.add 16))) w := by kernel_rfl
theorem fdM_2 (w : World) (ad : Addr) : (Instr.fieldAt 46 (.pointer (some ad)) 2).run Try.prog w = .ok (.pointer (some (ad.add 33))) w := by kernel_rfl
theorem fieldsV : Try.prog.fieldsOf 39 = #[{ name := "N", type := 2, offset := 0, embedded := false, tag := "", pkgPath := "", byteOffset := 0 }, { name := "Who", type := 23, offset := 1, embedded := false, tag := "", pkgPath := "", byteOffset := 8 }] := by kernel_rfl
theorem undV : Try.prog.underlying 39 = some (.struct (Try.prog.fieldsOf 39)) := by rw [fieldsV]; exact Try.underlying39
def eqV (x y : VM) : Bool := decide (x.n = y.n) && decide (x.who = y.who)
theorem eqV_iff {x y : VM} : eqV x y = true ↔ x = y := by
  obtain ⟨a, b⟩ := x
  obtain ⟨c, d⟩ := y
  simp [eqV]
theorem eqFV (d : Nat) (x y : VM) (hx : x.ok) (hy : y.ok) (w : World) : (Op.equalIn (d + 1 + 1 + 1) 39 (.agg (veA x)) (.agg (veA y))).run Try.prog w = .ok (eqV x y) w := by
  have p1 : ∀ z : VM, (part 23 (veA z) 1).run Try.prog w = .ok (.agg (idA z.who)) w := fun z => by kernel_rfl
  have p2 : ∀ z : VM, (part 2 (veA z) 0).run Try.prog w = .ok (.int .i64 z.n) w := fun z => by kernel_rfl
  have h1 := eqI_id d x.who y.who hx.who hy.who w
  have h2 := run_equalIn_int (P := Try.prog) w (d + 1) 2 .i64 .i64 x.n y.n Try.underlying2
  rw [beq_dec] at h2
  have e : eqV x y = (decide (x.n = y.n) && decide (x.who = y.who)) := rfl
  rw [e, run_equalIn_struct w (d + 1 + 1) 39 _ _ undV (by kernel_rfl), fieldsV]
  clear e hx hy
  generalize decide (x.who = y.who) = P1 at *
  generalize decide (x.n = y.n) = P2 at *
  unfold Op.eqFields
  rw [if_pos (by decide), Sem.run_bind, p2, Result.andThen_ok, Sem.run_bind, p2, Result.andThen_ok, Sem.run_bind, h2, Result.andThen_ok]
  cases P2
  · rfl
  rw [if_neg (by decide)]
  unfold Op.eqFields
  rw [if_pos (by decide), Sem.run_bind, p1, Result.andThen_ok, Sem.run_bind, p1, Result.andThen_ok, Sem.run_bind, h1, Result.andThen_ok]
  cases P1 <;> rfl
theorem run_eqV {o : Oper} {A : Act} {w : World} (x y : Operand) (t2 : TypeId) (ho : o.op = .binOp .eql 39 x y t2) (n m : VM) (hx : A.eval x = .agg (veA n)) (hy : A.eval y = .agg (veA m)) (hn : n.ok) (hm : m.ok) (p : Bool) (hp : eqV n m = p) :
    (execOp A.eval o).run Try.prog w = .ok (.value (.bool p)) w := by
  subst hp
  exact run_cmpA .eql 39 x y t2 ho _ _ hx hy (by kernel_rfl) _ (by rw [run_eql_struct, eqFV 9997 n m hn hm w]; rfl)
theorem run_neV {o : Oper} {A : Act} {w : World} (x y : Operand) (t2 : TypeId) (ho : o.op = .binOp .neq 39 x y t2) (n m : VM) (hx : A.eval x = .agg (veA n)) (hy : A.eval y = .agg (veA m)) (hn : n.ok) (hm : m.ok) (p : Bool) (hp : eqV n m = !p) :
    (execOp A.eval o).run Try.prog w = .ok (.value (.bool p)) w := by
  have : p = !eqV n m := by rw [hp]; simp
  subst this
  exact run_cmpA .neq 39 x y t2 ho _ _ hx hy (by kernel_rfl) _ (by rw [run_neq_struct, eqFV 9997 n m hn hm w]; rfl)
end Go.Proofs.Ytjahegiopigblaa
