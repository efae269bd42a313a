/- Rows of whatever kind; items and versions in memory. -/
import Derived.Test.YtmjblbgalkjmiaaGreatBQ1
import Derived.Test.YtmjblbgalkjmiaaGreatBBase
import Derived.Test.YtmjblbgalkjmiaaGreatBLaw10
import Derived.Test.YtmjblbgalkjmiaaGreatBNum
import Derived.Test.YtmjblbgalkjmiaaGreatBLaw2
import Derived.Test.YtmjblbgalkjmiaaGreatBB4
namespace Go.Proofs.YtmjblbgalkjmiaaGreat
open Go.RowKit
theorem idL_one (n : Nat) : ∀ v ∈ (idA n).toList, v.oneCell' = true := fun v hv => Array.all_eq_true_iff_forall_mem.1 (idA_one n) v (by simpa using hv)
theorem i_one (x : Int) : (#[Value.int .i64 x]).all (·.oneCell') = true := by kernel_rfl
theorem b_one (x : Bool) : (#[Value.bool x]).all (·.oneCell') = true := by kernel_rfl
section
variable {α : Type} {enc : α → List Value} {sz : Nat}
theorem flx_len (h : ∀ x, (enc x).length = sz) : ∀ l : List α, (l.flatMap enc).length = l.length * sz
  | [] => by simp
  | n :: l => by rw [List.flatMap_cons, List.length_append, h, flx_len h l, List.length_cons, Nat.add_mul, Nat.one_mul, Nat.add_comm]
theorem flx_drop (h : ∀ x, (enc x).length = sz) : ∀ (i : Nat) (l : List α), (l.flatMap enc).drop (i * sz) = (l.drop i).flatMap enc
  | 0, l => by simp
  | i + 1, [] => by simp
  | i + 1, n :: l => by
    rw [List.flatMap_cons, List.drop_succ_cons, ← flx_drop h i l, show (i + 1) * sz = (enc n).length + i * sz by rw [h, Nat.add_mul, Nat.one_mul, Nat.add_comm], List.drop_length_add_append]
theorem flx_take (h : ∀ x, (enc x).length = sz) : ∀ (i : Nat) (l : List α), (l.flatMap enc).take (i * sz) = (l.take i).flatMap enc
  | 0, l => by simp
  | i + 1, [] => by simp
  | i + 1, n :: l => by
    rw [List.flatMap_cons, List.take_succ_cons, List.flatMap_cons, ← flx_take h i l, show (i + 1) * sz = (enc n).length + i * sz by rw [h, Nat.add_mul, Nat.one_mul, Nat.add_comm], List.take_length_add_append]
theorem flx_at (h : ∀ x, (enc x).length = sz) (z : α) (l : List α) (j : Nat) (hj : j < l.length) : (l.flatMap enc).drop (j * sz) = enc (l.getD j z) ++ (l.drop (j + 1)).flatMap enc := by
  rw [flx_drop h, List.drop_eq_getElem_cons hj, List.flatMap_cons]
  simp [List.getD_eq_getElem?_getD, hj]
theorem flx_el (h : ∀ x, (enc x).length = sz) (z : α) (l : List α) (j : Nat) (hj : j < l.length) (q k : Nat) (hq : q + k ≤ sz) : ((l.flatMap enc).drop (j * sz + q)).take k = ((enc (l.getD j z)).drop q).take k := by
  rw [← List.drop_drop, flx_at h z l j hj, List.drop_append_of_le_length (by rw [h]; omega), List.take_append_of_le_length (by rw [List.length_drop, h]; omega)]
theorem flx_cell (h : ∀ x, (enc x).length = sz) (z : α) (l : List α) (j : Nat) (hj : j < l.length) (q : Nat) (hq : q < sz) : (l.flatMap enc)[j * sz + q]? = (enc (l.getD j z))[q]? := by
  have := flx_at h z l j hj
  rw [← List.getElem?_drop, this, List.getElem?_append_left (by rw [h]; exact hq)]
end
section
variable {P : Program} {o : Oper} {A : Act} {w : World} {sz cap n : Nat} {cs : List Value} {ad : Addr}
theorem run_ldXa (ty : TypeId) (d : TypeDesc) (hu : P.underlying ty = some d) (hd : (match d with | .struct _ | .array _ _ => true | _ => false) = true) (k : Nat) (hi : (P.info? ty).map (·.size) = some k) (x : Operand) (ho : o.op = .load ty x) (q : Nat) (hx : A.eval x = .pointer (some (ad.add q))) (h : XC w sz (some ad) cap n cs) (hq : q + k ≤ cs.length) :
    (execOp A.eval o).run P w = .ok (.value (.agg ((cs.drop q).take k).toArray)) w := by
  have hlen : ((cs.drop q).take k).length = k := by rw [List.length_take, List.length_drop]; omega
  have hld : (loadCells (ad.add q) k).run P w = .ok ((cs.drop q).take k).toArray w := by
    have := run_loadCells_list (P := P) w (ad.add q) ((cs.drop q).take k) fun i v hv => by
      rw [List.getElem?_take] at hv
      split at hv
      · rw [List.getElem?_drop] at hv
        rw [add_add]
        exact h.cell ad rfl _ v hv
      · cases hv
    rwa [hlen] at this
  have hagg : (isAgg ty).run P w = .ok true w := by
    unfold isAgg
    rw [Sem.run_bind, run_underlying hu w]
    cases d <;> simp_all
  have hsz : (sizeOf ty).run P w = .ok k w := by
    cases e : P.info? ty with
    | none => rw [e] at hi; cases hi
    | some i =>
      rw [e] at hi
      cases hi
      simp [sizeOf, typeInfo, e]
  have hv : (loadVar ty (ad.add q)).run P w = .ok (.agg ((cs.drop q).take k).toArray) w := by
    simp [loadVar, hagg, hsz, hld]
  unfold execOp
  simp only [ho, hx, Instr.loadAt, Instr.sureAddr, Sem.run_bind, Sem.run_pure, Result.andThen_ok, hv]
theorem run_ldXc (ty : TypeId) (hu : (isAgg ty).run P w = .ok false w) (x : Operand) (ho : o.op = .load ty x) (q : Nat) (hx : A.eval x = .pointer (some (ad.add q))) (h : XC w sz (some ad) cap n cs) (v : Value) (hv : cs[q]? = some v) :
    (execOp A.eval o).run P w = .ok (.value v) w := by
  have hc := h.cell ad rfl q v hv
  unfold execOp
  simp only [ho, hx]
  simp [Instr.loadAt, Instr.sureAddr, Sem.run_bind, loadVar, hu, hc, go_sem]
theorem run_fdA (s : TypeId) (x : Operand) (i : Nat) (ho : o.op = .fieldAddr s x i) (hx : A.eval x = .pointer (some ad)) (r : Addr)
    (hf : (Instr.fieldAt s (.pointer (some ad)) i).run P w = .ok (.pointer (some r)) w) : (execOp A.eval o).run P w = .ok (.value (.pointer (some r))) w := by
  unfold execOp
  simp only [ho, hx, Sem.run_bind, hf, Result.andThen_ok, Sem.run_pure]
end
section
variable {P : Program} {o : Oper} {A : Act}
theorem run_addI (t : TypeId) (x y : Operand) (t2 : TypeId) (ho : o.op = .binOp .add t x y t2) (a b r : Int) (hx : A.eval x = .int .i64 a) (hy : A.eval y = .int .i64 b) (hr : a + b = r) (h1 : -9223372036854775808 ≤ r) (h2 : r < 9223372036854775808) (w : World) : (execOp A.eval o).run P w = .ok (.value (.int .i64 r)) w := by
  subst hr
  refine run_binop .add t x y t2 ho _ _ _ hx hy (by simp [eqGuard]) ?_
  simp [go_sem]
  exact wrap_in _ h1 h2
theorem run_mkF {w : World} (f : FuncId) (x : Operand) (ho : o.op = .makeFunc (.func f) #[] #[x]) (v : Value) (hx : A.eval x = v) : (execOp A.eval o).run P w = .ok (.value (.func (.func f) #[] #[v])) w := by
  unfold execOp
  simp only [ho, List.map_toArray, List.map_cons, List.map_nil, hx]
  rfl
theorem run_callF {w : World} (c : Call) (f : FuncId) (cb : Array Value) (hen : ∀ args w, (callFunc f args).run P w = .ok (.enter f args) w) (ho : o.op = .call c) (x : Operand) (hc : c.callee = .value x) (hx : A.eval x = .func (.func f) #[] cb) :
    (execOp A.eval o).run P w = .ok (.enter f (c.args.map A.eval ++ cb)) w := by
  unfold execOp
  simp only [ho, resolve, hc, hx]
  simp [go_sem, hen, Deferred.ofValue]
variable {ops : Array Oper} {rest : List Oper} {T : List Value} {ds : List Deferred} {w : World} {Q : Exit → Act → World → Prop}
/-- A call of a function value. -/
theorem s_callF (dst : Nat) (hd : o.dst = some dst) (hgd : o.guard = none) (c : Call) (f : FuncId) (cb : Array Value) (hen : ∀ args w, (callFunc f args).run P w = .ok (.enter f args) w) (ho : o.op = .call c) (x : Operand) (hc : c.callee = .value x) (hx : (⟨T.toArray, ds⟩ : Act).eval x = .func (.func f) #[] cb) (xs : List Operand) (hxs : c.args = xs.toArray) (vs : List Value) (hvs : xs.map (Act.eval ⟨T.toArray, ds⟩) = vs)
    {v : Value} {R : World → Prop} (H : Calls P f (vs.toArray ++ cb) w fun e w' => e = .returned v ∧ R w')
    (h : ∀ w', R w' → wpList P ops Q rest ⟨(T.set dst v).toArray, ds⟩ w') : wpList P ops Q (o :: rest) ⟨T.toArray, ds⟩ w :=
  wpList_plain hgd fun _ hK => by
    unfold Oper.wp
    rw [run_callF c f cb hen ho x hc hx, hxs, List.map_toArray, hvs, Oper.upon_enter]
    refine H.mono fun e w' hR => ?_
    obtain ⟨rfl, hR⟩ := hR
    have := h w' hR
    rw [← put_list, ← hd] at this
    exact hK _ _ this
end
theorem Calls.bool {P : Program} {f : FuncId} {args : Array Value} {w : World} {R : World → World → Prop} {p q : Bool} (h : Calls P f args w fun e w' => e = .returned (.bool p) ∧ R w w') (e : p = q) : Calls P f args w fun e w' => e = .returned (.bool q) ∧ R w w' := e ▸ h
theorem Calls.valV {P : Program} {f : FuncId} {args : Array Value} {w : World} {R : World → World → Prop} {u v : Value} (h : Calls P f args w fun e w' => e = .returned u ∧ R w w') (e : u = v) : Calls P f args w fun e w' => e = .returned v ∧ R w w' := e ▸ h
/-- Blocks of a row. -/
def NE (ao : Option Addr) (n g : Nat) : Prop := ∀ ad, ao = some ad → 0 < n → ad.block ≠ g
section
variable {w w' : World} {ao : Option Addr} {cap g : Nat}
theorem XC.st {sz n : Nat} {cs : List Value} {x : Obj} (h : XC w sz ao cap n cs) (St : Stored w w' g x) (hn : NE ao cs.length g) : XC w' sz ao cap n cs :=
  ⟨h.len, h.fit, h.bare, fun ad ha j v hv => (World.cell?_of_block (St.old _ (by rw [add_block]; exact hn ad ha (by have := (List.getElem?_eq_some_iff.1 hv).1; omega)))).trans (h.cell ad ha j v hv), h.one⟩
theorem Stored.gros {x : Obj} (St : Stored w w' g x) : GroS [g] w w' := ⟨St.os, St.tape, St.output, Nat.le_of_eq St.size.symm, fun k _ hk => St.old k (by simpa using hk)⟩
end
/-! ### Candidates and keys -/
/-! ### Likeness -/
/-! ### Rows of whatever -/
structure Kd (α : Type) where
  E : α → List Value
  sz : Nat
  ok : α → Prop
  z : α
  len : ∀ x, (E x).length = sz
  one : ∀ x, ∀ v ∈ E x, v.oneCell' = true
section
variable {α : Type}
/-- A row as it is read, and one's own. -/
structure RK (K : Kd α) (w : World) (ao : Option Addr) (cap : Nat) (l : List α) : Prop where
  xc : XC w K.sz ao cap l.length (l.flatMap K.E)
  all : ∀ x ∈ l, K.ok x
structure OW (K : Kd α) (e : TypeId) (w : World) (B : Nat) (ao : Option Addr) (cap : Nat) (l : List α) : Prop where
  own : OY w e K.sz B ao cap l.length (l.flatMap K.E)
  all : ∀ x ∈ l, K.ok x
variable {K : Kd α} {e : TypeId} {w w' : World} {ao : Option Addr} {cap B b g : Nat} {l : List α}
theorem fl_oneK : ∀ v ∈ l.flatMap K.E, v.oneCell' = true := fun v hv => by
  obtain ⟨n, _, hn⟩ := List.mem_flatMap.1 hv
  exact K.one n v hn
theorem RK.gro (h : RK K w ao cap l) (G : Gro w w') : RK K w' ao cap l := ⟨h.xc.gro G, h.all⟩
theorem RK.nil (w : World) : RK K w none 0 [] := ⟨XC.nil w K.sz, fun _ h => by cases h⟩
theorem RK.lt (h : RK K w ao cap l) : ∀ ad, ao = some ad → 0 < (l.flatMap K.E).length → ad.block < w.heap.size := h.xc.lt
theorem RK.ne (h : RK K w ao cap l) (e : w.heap.size = g) : NE ao (l.flatMap K.E).length g := fun ad ha h0 => by
  have := h.lt ad ha h0
  omega
theorem RK.st {x : Obj} (h : RK K w ao cap l) (St : Stored w w' g x) (hn : NE ao (l.flatMap K.E).length g) : RK K w' ao cap l := ⟨XC.st h.xc St hn, h.all⟩
theorem RK.gros {S : List Nat} (h : RK K w ao cap l) (G : GroS S w w') (hs : ∀ ad, ao = some ad → 0 < (l.flatMap K.E).length → ad.block ∉ S) : RK K w' ao cap l :=
  ⟨⟨h.xc.len, h.xc.fit, h.xc.bare, fun ad ha j v hv => by
    have h0 : 0 < (l.flatMap K.E).length := by have := (List.getElem?_eq_some_iff.1 hv).1; omega
    exact (World.cell?_of_block (by rw [add_block]; exact G.old _ (h.lt ad ha h0) (hs ad ha h0))).trans (h.xc.cell ad ha j v hv), h.xc.one⟩, h.all⟩
theorem RK.below (h : RK K w ao cap l) {B : Nat} (G : Below B w w') (hb : ∀ ad, ao = some ad → 0 < (l.flatMap K.E).length → ad.block < B) : RK K w' ao cap l := ⟨h.xc.below G hb, h.all⟩
theorem RK.at (h : RK K w ao cap l) {j : Nat} (hj : j < l.length) : K.ok (l.getD j K.z) := by
  have : l.getD j K.z = l[j] := by simp [List.getD_eq_getElem?_getD, hj]
  rw [this]
  exact h.all _ (List.getElem_mem hj)
theorem RK.blk {t : TypeId} {fr : Nat × Nat} (hg : w.heap[g]? = some (.cells (l.flatMap K.E).toArray t fr)) (hl : ∀ x ∈ l, K.ok x) (hc : l.length ≤ cap) : RK K w (some ⟨g, 0, none⟩) cap l := by
  refine ⟨⟨flx_len K.len _, hc, fun h => (by cases h), fun ad ha j v hv => ?_, fl_oneK⟩, hl⟩
  cases ha
  rw [add_at, Nat.zero_add, cell_of_row w g j _ t _ hg]
  simpa using hv
theorem OW.re (h : OW K e w B ao cap l) : RK K w ao cap l := ⟨h.own.xc, h.all⟩
theorem OW.gro (h : OW K e w B ao cap l) (G : Gro w w') : OW K e w' B ao cap l := ⟨h.own.gro G, h.all⟩
theorem OW.nil (w : World) (B : Nat) : OW K e w B none 0 [] := ⟨OY.nil w e K.sz B, fun _ h => by cases h⟩
theorem OW.mono (h : OW K e w B ao cap l) {B' : Nat} (hB : B' ≤ B) : OW K e w B' ao cap l := ⟨h.own.mono hB, h.all⟩
theorem OW.gros {S : List Nat} (h : OW K e w B ao cap l) (G : GroS S w w') (hs : ∀ k ∈ Go.Proofs.YtmjblbgalkjmiaaGreat.blk ao, k ∉ S) : OW K e w' B ao cap l := ⟨h.own.gros G hs, h.all⟩
theorem OW.ne (h : OW K e w B ao cap l) (e : w.heap.size = g) : g ∉ Go.Proofs.YtmjblbgalkjmiaaGreat.blk ao := fun hm => by
  have := h.own.lt g hm
  omega
theorem OW.st {x : Obj} (h : OW K e w B ao cap l) (St : Stored w w' g x) (hn : g ∉ Go.Proofs.YtmjblbgalkjmiaaGreat.blk ao) : OW K e w' B ao cap l := h.gros St.gros fun k hk hm => hn (by rw [List.mem_singleton] at hm; exact hm ▸ hk)
theorem OW.blk (hg : w.heap[g]? = some (.cells (l.flatMap K.E).toArray e (0, 0))) (hl : ∀ x ∈ l, K.ok x) (hB : B ≤ g) (hm : l.length ≤ 1000000) : OW K e w B (some ⟨g, 0, none⟩) l.length l :=
  ⟨⟨flx_len K.len l, .inr ⟨g, 0, _, rfl, hB, hg, Nat.le_refl _, by unfold maxLen; omega, by simp only [List.size_toArray, flx_len K.len]; omega, by simp only [List.drop_zero]; rw [← flx_len K.len l]; exact List.take_length⟩, fl_oneK⟩, hl⟩
/-- Where a part of an element stands. -/
def pK (K : Kd α) (ao : Option Addr) (j q : Nat) : Option Addr := ao.map (·.add (j * K.sz + q))
variable {o : Oper} {A : Act} {t s : TypeId} {z : Value}
theorem run_ixK (R : RowT Tryz.prog t e K.sz s z) (h : RK K w ao cap l) (x y : Operand) (ho : o.op = .indexAddr t x y) (hx : A.eval x = .slice ao l.length cap) (j : Nat) (hy : A.eval y = .int .i64 (j : Int)) (hj : j < l.length) :
    (execOp A.eval o).run Tryz.prog w = .ok (.value (.pointer (pK K ao j 0))) w := by
  obtain ⟨ad, rfl⟩ := h.xc.some (by omega)
  exact run_idxX R x y ho ad _ _ j hx hy hj w
theorem el_fitK {j q k : Nat} (hj : j < l.length) (hq : q + k ≤ K.sz) : j * K.sz + q + k ≤ (l.flatMap K.E).length := by
  rw [flx_len K.len]
  have := Nat.mul_le_mul_right K.sz (show j + 1 ≤ l.length from hj)
  rw [Nat.add_mul, Nat.one_mul] at this
  omega
theorem run_ldK (h : RK K w ao cap l) (ty : TypeId) (d : TypeDesc) (hu : Tryz.prog.underlying ty = some d) (hd : (match d with | .struct _ | .array _ _ => true | _ => false) = true) (q k : Nat) (hi : (Tryz.prog.info? ty).map (·.size) = some k) (hq : q + k ≤ K.sz) (x : Operand) (ho : o.op = .load ty x) (j : Nat) (hx : A.eval x = .pointer (pK K ao j q)) (hj : j < l.length) (v : Array Value) (hv : ((K.E (l.getD j K.z)).drop q).take k = v.toList) :
    (execOp A.eval o).run Tryz.prog w = .ok (.value (.agg v)) w := by
  obtain ⟨ad, rfl⟩ := h.xc.some (by omega)
  rw [run_ldXa ty d hu (by cases d <;> first | rfl | cases hd) k hi x ho (j * K.sz + q) hx h.xc (el_fitK hj hq), flx_el K.len K.z l j hj q k hq, hv]
theorem run_ldKc (h : RK K w ao cap l) (ty : TypeId) (hu : (isAgg ty).run Tryz.prog w = .ok false w) (q : Nat) (hq : q < K.sz) (x : Operand) (ho : o.op = .load ty x) (j : Nat) (hx : A.eval x = .pointer (pK K ao j q)) (hj : j < l.length) (v : Value) (hv : (K.E (l.getD j K.z))[q]? = some v) :
    (execOp A.eval o).run Tryz.prog w = .ok (.value v) w := by
  obtain ⟨ad, rfl⟩ := h.xc.some (by omega)
  exact run_ldXc ty hu x ho (j * K.sz + q) hx h.xc _ (by rw [flx_cell K.len K.z l j hj q hq, hv])
theorem run_fdK (h : RK K w ao cap l) (ty : TypeId) (x : Operand) (i q : Nat) (hf : ∀ ad, (Instr.fieldAt ty (.pointer (some ad)) i).run Tryz.prog w = .ok (.pointer (some (ad.add q))) w) (ho : o.op = .fieldAddr ty x i) (j : Nat) (hx : A.eval x = .pointer (pK K ao j 0)) (hj : j < l.length) :
    (execOp A.eval o).run Tryz.prog w = .ok (.value (.pointer (pK K ao j q))) w := by
  obtain ⟨ad, rfl⟩ := h.xc.some (by omega)
  have := hf (ad.add (j * K.sz + 0))
  rw [add_add, Nat.add_zero] at this
  exact run_fdA ty x i ho hx _ this
variable {ops : Array Oper} {rest : List Oper} {T : List Value} {ds : List Deferred} {Q : Exit → Act → World → Prop}
/-- Onto one's own row. -/
theorem s_appK (R : RowT Tryz.prog t e K.sz s z) (hs1 : 0 < s) (dst : Nat) (hd : o.dst = some dst) (hgd : o.guard = none) (a x : Operand) (ho : o.op = .call { callee := .builtin .append, args := #[a, x], argTypes := #[t, t] })
    (hs : (⟨T.toArray, ds⟩ : Act).eval a = .slice ao l.length cap) (hown : OW K e w B ao cap l)
    {ao' : Option Addr} {cap' : Nat} {l' : List α} (hx : (⟨T.toArray, ds⟩ : Act).eval x = .slice ao' l'.length cap') (hsrc : RK K w ao' cap' l') (hb : (l.length + l'.length) * s ≤ 140737488355328) (hB : B ≤ w.heap.size)
    (h : ∀ ao2 cap2 w', OW K e w' B ao2 cap2 (l ++ l') → GroS (Go.Proofs.YtmjblbgalkjmiaaGreat.blk ao) w w' → Kept w.heap.size ao ao2 → wpList Tryz.prog ops Q rest ⟨(T.set dst (.slice ao2 (l ++ l').length cap2)).toArray, ds⟩ w') : wpList Tryz.prog ops Q (o :: rest) ⟨T.toArray, ds⟩ w := by
  refine s_appY R dst hd hgd a x ho hs hown.own hx hsrc.xc hb hs1 hB ?_
  intro ao2 cap2 w' h1 h2 h3
  rw [← List.flatMap_append, ← List.length_append] at h1
  have := h ao2 cap2 w' ⟨h1, fun x hx => (List.mem_append.1 hx).elim (hown.all x) (hsrc.all x)⟩ h2 h3
  rw [List.length_append] at this
  exact this
end
theorem one_all {α : Type} {p : α → Prop} {x : α} (h : p x) : ∀ y ∈ [x], p y := fun y hy => by rw [List.mem_singleton.1 hy]; exact h
theorem sl_one (ao : Option Addr) (n cap : Nat) : (#[Value.slice ao n cap]).all (·.oneCell') = true := by kernel_rfl
/-! ### Stores into rows -/
/-- Some of a list written over. -/
def spl {α : Type} (l : List α) (j : Nat) (vs : List α) : List α := l.take j ++ (vs ++ l.drop (j + vs.length))
theorem spl_get {α : Type} (l : List α) (j : Nat) (vs : List α) (h : j + vs.length ≤ l.length) (i : Nat) : (spl l j vs)[i]? = if i < j then l[i]? else if i < j + vs.length then vs[i - j]? else l[i]? := by
  unfold spl
  have h1 : (l.take j).length = j := by rw [List.length_take]; omega
  by_cases c1 : i < j
  · rw [if_pos c1, List.getElem?_append_left (by omega), List.getElem?_take, if_pos c1]
  · rw [if_neg c1, List.getElem?_append_right (by omega), h1]
    by_cases c2 : i < j + vs.length
    · rw [if_pos c2, List.getElem?_append_left (by omega)]
    · rw [if_neg c2, List.getElem?_append_right (by omega), List.getElem?_drop]
      congr 1
      omega
theorem spl_len {α : Type} (l : List α) (j : Nat) (vs : List α) (h : j + vs.length ≤ l.length) : (spl l j vs).length = l.length := by
  unfold spl
  simp only [List.length_append, List.length_take, List.length_drop]
  omega
theorem spl_all {α : Type} {p : α → Prop} {l : List α} {j : Nat} {vs : List α} (h : ∀ x ∈ l, p x) (k : ∀ x ∈ vs, p x) : ∀ x ∈ spl l j vs, p x := fun x hx => by
  unfold spl at hx
  rcases List.mem_append.1 hx with hx | hx
  · exact h x (List.mem_of_mem_take hx)
  rcases List.mem_append.1 hx with hx | hx
  · exact k x hx
  · exact h x (List.mem_of_mem_drop hx)
theorem spl_within {α : Type} (l : List α) (d m j : Nat) (vs : List α) (h : j + vs.length ≤ m) (hm : d + m ≤ l.length) : ((spl l (d + j) vs).drop d).take m = spl ((l.drop d).take m) j vs := by
  apply List.ext_getElem?
  intro i
  rw [spl_get _ _ _ (by rw [List.length_take, List.length_drop]; omega), List.getElem?_take, List.getElem?_drop, spl_get _ _ _ (by omega), List.getElem?_take, List.getElem?_drop]
  by_cases c0 : i < m
  · rw [if_pos c0, if_pos c0]
    by_cases c1 : i < j
    · rw [if_pos c1, if_pos (by omega)]
    · rw [if_neg c1, if_neg (by omega)]
      by_cases c2 : i < j + vs.length
      · rw [if_pos c2, if_pos (by omega)]
        congr 1
        omega
      · rw [if_neg c2, if_neg (by omega)]
  · rw [if_neg c0, if_neg c0, if_neg (by omega), if_neg (by omega)]
theorem OY.put {w : World} {e : TypeId} {sz B : Nat} {ao : Option Addr} {cap n : Nat} {cs : List Value} (h : OY w e sz B ao cap n cs) {j : Nat} (vs : List Value) (hj : j + vs.length ≤ n * sz) (h0 : 0 < vs.length) (hv : ∀ v ∈ vs, v.oneCell' = true) : ∃ g d cur, ao = some ⟨g, d, none⟩ ∧ B ≤ g ∧ w.heap[g]? = some (.cells cur e (0, 0)) ∧ d + j + vs.length ≤ cur.size ∧
    ∀ w', Stored w w' g (.cells (splice cur (d + j) vs.toArray) e (0, 0)) → OY w' e sz B ao cap n (spl cs j vs) := by
  rcases h.row with ⟨_, _, h3⟩ | ⟨g, d, cur, h1, h2, h3, h4, h5, h6, h7⟩
  · rw [h3, Nat.zero_mul] at hj
    omega
  have hm2 : n * sz ≤ cap * sz := Nat.mul_le_mul_right _ h4
  have e1 : (splice cur (d + j) vs.toArray).toList = spl cur.toList (d + j) vs := by simp [splice, spl, List.append_assoc]
  have hle : d + j + vs.length ≤ cur.size := by omega
  refine ⟨g, d, cur, h1, h2, h3, hle, fun w' St => ⟨by rw [spl_len _ _ _ (by rw [h.len]; exact hj)]; exact h.len, .inr ⟨g, d, _, h1, h2, St.new, h4, h5, ?_, ?_⟩, spl_all h.one hv⟩⟩
  · have : (splice cur (d + j) vs.toArray).size = cur.size := splice_size _ _ _ (by simpa using hle)
    omega
  · rw [e1, spl_within _ _ _ _ _ hj (by rw [Array.length_toList]; omega), h7]
theorem take_at {α : Type} (z : α) (l : List α) (i : Nat) (hi : i < l.length) : l.take (i + 1) = l.take i ++ [l.getD i z] := by
  have hg : l.getD i z = l[i] := by simp [List.getD_eq_getElem?_getD, hi]
  rw [List.take_add_one, List.getElem?_eq_getElem hi, Option.toList_some, hg]
/-! ### Items and versions -/
structure VM where
  n : Int
  who : Nat
structure IM where
  key : Nat
  n : Int
  who : Nat
  ao : Option Addr
  cap : Nat
  val : List Nat
def I64 (x : Int) : Prop := -9223372036854775808 ≤ x ∧ x < 9223372036854775808
structure VM.ok (x : VM) : Prop where
  n : I64 x.n
  who : x.who < top
structure IM.ok (x : IM) : Prop where
  key : x.key < top
  n : I64 x.n
  who : x.who < top
def IM.re (x : IM) (ao : Option Addr) (cap : Nat) : IM := ⟨x.key, x.n, x.who, ao, cap, x.val⟩
theorem IM.ok.re {x : IM} (h : x.ok) (ao : Option Addr) (cap : Nat) : (x.re ao cap).ok := ⟨h.key, h.n, h.who⟩
def eqV (x y : VM) : Bool := decide (x.n = y.n) && decide (x.who = y.who)
end Go.Proofs.YtmjblbgalkjmiaaGreat
