/- Rows of whatever kind; what is heard, pairs, matrices in memory. -/
import Derived.Test.YtljihaihhnamfaaQ1
import Derived.Test.YtljihaihhnamfaaBase
import Derived.Test.YtljihaihhnamfaaLaw10
import Derived.Test.YtljihaihhnamfaaLaw11
import Derived.Test.YtljihaihhnamfaaW14
import Derived.Test.YtljihaihhnamfaaG1
namespace Go.Proofs.Ytljihaihhnamfaa
open Go.RowKit

theorem top_0 : 0 < top := by decide
def I64 (x : Int) : Prop := -9223372036854775808 ≤ x ∧ x < 9223372036854775808
theorem I64.z : I64 0 := ⟨by decide, by decide⟩
theorem idA_len (n : Nat) : (idA n).toList.length = 16 := by simp [idA]
theorem idL_one (n : Nat) : ∀ v ∈ (idA n).toList, v.oneCell' = true := fun v hv => Array.all_eq_true_iff_forall_mem.1 (idA_one n) v (by simpa using hv)
theorem idA_fit (a b : Nat) : 0 + (idA a).size ≤ (idA b).size := by rw [idA_size, idA_size]; exact Nat.le_refl _
theorem idA_sz (a b : Nat) : (idA a).size = (idA b).size := (idA_size a).trans (idA_size b).symm
theorem i_one (x : Int) : (#[Value.int .i64 x]).all (·.oneCell') = true := by kernel_rfl
theorem b_one (x : Bool) : (#[Value.bool x]).all (·.oneCell') = true := by kernel_rfl
theorem na2 (w : World) : (isAgg 2).run Try.prog w = .ok false w := by kernel_rfl
theorem na24 (w : World) : (isAgg 24).run Try.prog w = .ok false w := by kernel_rfl
theorem na41 (w : World) : (isAgg 41).run Try.prog w = .ok false w := by kernel_rfl
theorem na42 (w : World) : (isAgg 42).run Try.prog w = .ok false w := by kernel_rfl
theorem na43 (w : World) : (isAgg 43).run Try.prog w = .ok false w := by kernel_rfl
theorem beq_dec (a b : Int) : (a == b) = decide (a = b) := rfl
theorem eqI_id (d : Nat) (a b : Nat) (ha : a < top) (hb : b < top) (w : World) : (Op.equalIn (d + 1 + 1) 23 (.agg (idA a)) (.agg (idA b))).run Try.prog w = .ok (decide (a = b)) w := by
  refine run_equalIn_row _ 23 5 16 Try.underlying23 w (Try.sizeOf5 w) (idA a) (idA b) (fun i => .int .u8 (byt a i)) (fun i => .int .u8 (byt b i)) (fun i => (byt a i : Int) == byt b i)
    (fun i hi => part_id a i hi w) (fun i hi => part_id b i hi w) (fun i _ => run_equalIn_int w _ 5 .u8 .u8 _ _ Try.underlying5) _ ?_
  rw [decide_eq_true_iff]
  constructor
  · rintro rfl i _; simp
  · intro h
    exact eq_of_bytes ha hb fun i hi => by have := h i hi; simp at this; omega
theorem run_cmpA {o : Oper} {A : Act} {w : World} (op : BinOp) (t : TypeId) (x y : Operand) (t2 : TypeId) (ho : o.op = .binOp op t x y t2) (c d : Array Value) (hx : A.eval x = .agg c) (hy : A.eval y = .agg d) (hm : Try.prog.eqGuardType Try.prog.depth t = false) (v : Value) (h : (binOp op t (.agg c) (.agg d)).run Try.prog w = .ok v w) : (execOp A.eval o).run Try.prog w = .ok (.value v) w :=
  run_binop op t x y t2 ho _ _ _ hx hy (run_eqGuard_agg w op t x y c d hm) h
section
variable {o : Oper} {A : Act} {w : World}
theorem run_eqI (x y : Operand) (t2 : TypeId) (ho : o.op = .binOp .eql 23 x y t2) (n m : Nat) (hx : A.eval x = .agg (idA n)) (hy : A.eval y = .agg (idA m)) (hn : n < top) (hm : m < top) (p : Bool) (hp : decide (n = m) = p) :
    (execOp A.eval o).run Try.prog w = .ok (.value (.bool p)) w := by
  subst hp
  exact run_eqlop_id x y t2 ho n m hx hy _ (fun w => run_eql_id n m hn hm w) w
theorem run_neI (x y : Operand) (t2 : TypeId) (ho : o.op = .binOp .neq 23 x y t2) (n m : Nat) (hx : A.eval x = .agg (idA n)) (hy : A.eval y = .agg (idA m)) (hn : n < top) (hm : m < top) (p : Bool) (hp : decide (n = m) = !p) :
    (execOp A.eval o).run Try.prog w = .ok (.value (.bool p)) w := by
  have : p = !decide (n = m) := by rw [hp]; simp
  subst this
  exact run_eqlop_id x y t2 ho n m hx hy _ (fun w => run_neq_id n m hn hm w) w
end
section
variable {α : Type} {enc : α → List Value} {sz : Nat}
theorem flx_len (h : ∀ x, (enc x).length = sz) : ∀ l : List α, (l.flatMap enc).length = l.length * sz
  | [] => by simp
  | n :: l => by rw [List.flatMap_cons, List.length_append, h, flx_len h l, List.length_cons, Nat.add_mul, Nat.one_mul, Nat.add_comm]
theorem flx_drop (h : ∀ x, (enc x).length = sz) : ∀ (i : Nat) (l : List α), (l.flatMap enc).drop (i * sz) = (l.drop i).flatMap enc
  | 0, l => by simp
  | i + 1, [] => by simp
  | i + 1, n :: l => by
    rw [List.flatMap_cons, List.drop_succ_cons, ← flx_drop h i l, show (i + 1) * sz = (enc n).length + i * sz by rw [h, Nat.add_mul, Nat.one_mul, Nat.add_comm], List.drop_length_add_append]
theorem flx_take (h : ∀ x, (enc x).length = sz) : ∀ (i : Nat) (l : List α), (l.flatMap enc).take (i * sz) = (l.take i).flatMap enc
  | 0, l => by simp
  | i + 1, [] => by simp
  | i + 1, n :: l => by
    rw [List.flatMap_cons, List.take_succ_cons, List.flatMap_cons, ← flx_take h i l, show (i + 1) * sz = (enc n).length + i * sz by rw [h, Nat.add_mul, Nat.one_mul, Nat.add_comm], List.take_length_add_append]
theorem flx_at (h : ∀ x, (enc x).length = sz) (z : α) (l : List α) (j : Nat) (hj : j < l.length) : (l.flatMap enc).drop (j * sz) = enc (l.getD j z) ++ (l.drop (j + 1)).flatMap enc := by
  rw [flx_drop h, List.drop_eq_getElem_cons hj, List.flatMap_cons]
  simp [List.getD_eq_getElem?_getD, hj]
theorem flx_el (h : ∀ x, (enc x).length = sz) (z : α) (l : List α) (j : Nat) (hj : j < l.length) (q k : Nat) (hq : q + k ≤ sz) : ((l.flatMap enc).drop (j * sz + q)).take k = ((enc (l.getD j z)).drop q).take k := by
  rw [← List.drop_drop, flx_at h z l j hj, List.drop_append_of_le_length (by rw [h]; omega), List.take_append_of_le_length (by rw [List.length_drop, h]; omega)]
theorem flx_cell (h : ∀ x, (enc x).length = sz) (z : α) (l : List α) (j : Nat) (hj : j < l.length) (q : Nat) (hq : q < sz) : (l.flatMap enc)[j * sz + q]? = (enc (l.getD j z))[q]? := by
  have := flx_at h z l j hj
  rw [← List.getElem?_drop, this, List.getElem?_append_left (by rw [h]; exact hq)]
end
section
variable {P : Program} {o : Oper} {A : Act} {w : World} {sz cap n : Nat} {cs : List Value} {ad : Addr}
theorem run_ldXa (ty : TypeId) (d : TypeDesc) (hu : P.underlying ty = some d) (hd : (match d with | .struct _ | .array _ _ => true | _ => false) = true) (k : Nat) (hi : (P.info? ty).map (·.size) = some k) (x : Operand) (ho : o.op = .load ty x) (q : Nat) (hx : A.eval x = .pointer (some (ad.add q))) (h : XC w sz (some ad) cap n cs) (hq : q + k ≤ cs.length) :
    (execOp A.eval o).run P w = .ok (.value (.agg ((cs.drop q).take k).toArray)) w := by
  have hlen : ((cs.drop q).take k).length = k := by rw [List.length_take, List.length_drop]; omega
  have hld : (loadCells (ad.add q) k).run P w = .ok ((cs.drop q).take k).toArray w := by
    have := run_loadCells_list (P := P) w (ad.add q) ((cs.drop q).take k) fun i v hv => by
      rw [List.getElem?_take] at hv
      split at hv
      · rw [List.getElem?_drop] at hv
        rw [add_add]
        exact h.cell ad rfl _ v hv
      · cases hv
    rwa [hlen] at this
  have hagg : (isAgg ty).run P w = .ok true w := by
    unfold isAgg
    rw [Sem.run_bind, run_underlying hu w]
    cases d <;> simp_all
  have hsz : (sizeOf ty).run P w = .ok k w := by
    cases e : P.info? ty with
    | none => rw [e] at hi; cases hi
    | some i =>
      rw [e] at hi
      cases hi
      simp [sizeOf, typeInfo, e]
  have hv : (loadVar ty (ad.add q)).run P w = .ok (.agg ((cs.drop q).take k).toArray) w := by
    simp [loadVar, hagg, hsz, hld]
  unfold execOp
  simp only [ho, hx, Instr.loadAt, Instr.sureAddr, Sem.run_bind, Sem.run_pure, Result.andThen_ok, hv]
theorem run_ldXc (ty : TypeId) (hu : (isAgg ty).run P w = .ok false w) (x : Operand) (ho : o.op = .load ty x) (q : Nat) (hx : A.eval x = .pointer (some (ad.add q))) (h : XC w sz (some ad) cap n cs) (v : Value) (hv : cs[q]? = some v) :
    (execOp A.eval o).run P w = .ok (.value v) w := by
  have hc := h.cell ad rfl q v hv
  unfold execOp
  simp only [ho, hx]
  simp [Instr.loadAt, Instr.sureAddr, Sem.run_bind, loadVar, hu, hc, go_sem]
theorem run_fdA (s : TypeId) (x : Operand) (i : Nat) (ho : o.op = .fieldAddr s x i) (hx : A.eval x = .pointer (some ad)) (r : Addr)
    (hf : (Instr.fieldAt s (.pointer (some ad)) i).run P w = .ok (.pointer (some r)) w) : (execOp A.eval o).run P w = .ok (.value (.pointer (some r))) w := by
  unfold execOp
  simp only [ho, hx, Sem.run_bind, hf, Result.andThen_ok, Sem.run_pure]
end
section
variable {P : Program} {o : Oper} {A : Act}
theorem run_addI (t : TypeId) (x y : Operand) (t2 : TypeId) (ho : o.op = .binOp .add t x y t2) (a b r : Int) (hx : A.eval x = .int .i64 a) (hy : A.eval y = .int .i64 b) (hr : a + b = r) (h1 : -9223372036854775808 ≤ r) (h2 : r < 9223372036854775808) (w : World) : (execOp A.eval o).run P w = .ok (.value (.int .i64 r)) w := by
  subst hr
  refine run_binop .add t x y t2 ho _ _ _ hx hy (by simp [eqGuard]) ?_
  simp [go_sem]
  exact wrap_in _ h1 h2
theorem run_subI (t : TypeId) (x y : Operand) (t2 : TypeId) (ho : o.op = .binOp .sub t x y t2) (a b r : Int) (hx : A.eval x = .int .i64 a) (hy : A.eval y = .int .i64 b) (hr : a - b = r) (h1 : -9223372036854775808 ≤ r) (h2 : r < 9223372036854775808) (w : World) : (execOp A.eval o).run P w = .ok (.value (.int .i64 r)) w := by
  subst hr
  refine run_binop .sub t x y t2 ho _ _ _ hx hy (by simp [eqGuard]) ?_
  simp [go_sem]
  exact wrap_in _ h1 h2
theorem run_minI (x y : Operand) (ats : Array TypeId) (ho : o.op = .call { callee := .builtin .min, args := #[x, y], argTypes := ats }) (n m : Int) (hx : A.eval x = .int .i64 n) (hy : A.eval y = .int .i64 m) (w : World) : (execOp A.eval o).run P w = .ok (.value (.int .i64 (min n m))) w := by
  unfold execOp
  simp only [ho, hx, hy, List.map_toArray, List.map_cons, List.map_nil, resolve, invoke]
  simp [builtin, Builtin.min_, Builtin.min2, go_sem]
  omega
theorem run_maxI (x y : Operand) (ats : Array TypeId) (ho : o.op = .call { callee := .builtin .max, args := #[x, y], argTypes := ats }) (n m : Int) (hx : A.eval x = .int .i64 n) (hy : A.eval y = .int .i64 m) (w : World) : (execOp A.eval o).run P w = .ok (.value (.int .i64 (max n m))) w := by
  unfold execOp
  simp only [ho, hx, hy, List.map_toArray, List.map_cons, List.map_nil, resolve, invoke]
  simp [builtin, Builtin.max_, Builtin.max2, go_sem]
  omega
theorem run_mkF {w : World} (f : FuncId) (x : Operand) (ho : o.op = .makeFunc (.func f) #[] #[x]) (v : Value) (hx : A.eval x = v) : (execOp A.eval o).run P w = .ok (.value (.func (.func f) #[] #[v])) w := by
  unfold execOp
  simp only [ho, List.map_toArray, List.map_cons, List.map_nil, hx]
  rfl
theorem run_callF {w : World} (c : Call) (f : FuncId) (cb : Array Value) (hen : ∀ args w, (callFunc f args).run P w = .ok (.enter f args) w) (ho : o.op = .call c) (x : Operand) (hc : c.callee = .value x) (hx : A.eval x = .func (.func f) #[] cb) :
    (execOp A.eval o).run P w = .ok (.enter f (c.args.map A.eval ++ cb)) w := by
  unfold execOp
  simp only [ho, resolve, hc, hx]
  simp [go_sem, hen, Deferred.ofValue]
variable {ops : Array Oper} {rest : List Oper} {T : List Value} {ds : List Deferred} {w : World} {Q : Exit → Act → World → Prop}
/-- A call of a function value. -/
theorem s_callF (dst : Nat) (hd : o.dst = some dst) (hgd : o.guard = none) (c : Call) (f : FuncId) (cb : Array Value) (hen : ∀ args w, (callFunc f args).run P w = .ok (.enter f args) w) (ho : o.op = .call c) (x : Operand) (hc : c.callee = .value x) (hx : (⟨T.toArray, ds⟩ : Act).eval x = .func (.func f) #[] cb) (xs : List Operand) (hxs : c.args = xs.toArray) (vs : List Value) (hvs : xs.map (Act.eval ⟨T.toArray, ds⟩) = vs)
    {v : Value} {R : World → Prop} (H : Calls P f (vs.toArray ++ cb) w fun e w' => e = .returned v ∧ R w')
    (h : ∀ w', R w' → wpList P ops Q rest ⟨(T.set dst v).toArray, ds⟩ w') : wpList P ops Q (o :: rest) ⟨T.toArray, ds⟩ w :=
  wpList_plain hgd fun _ hK => by
    unfold Oper.wp
    rw [run_callF c f cb hen ho x hc hx, hxs, List.map_toArray, hvs, Oper.upon_enter]
    refine H.mono fun e w' hR => ?_
    obtain ⟨rfl, hR⟩ := hR
    have := h w' hR
    rw [← put_list, ← hd] at this
    exact hK _ _ this
theorem results_cell_tmp2 {fn : Func} {p q r : Tmp} {ty : TypeId} (h : fn.results = #[.cell p ty, .tmp q, .tmp r]) (tmps : Array Value) (w : World) (g : Nat) (t : TypeId) (cs : Array Value) (fr : Nat × Nat) (d : TypeDesc)
    (hp : tmps.getD p undef = .pointer (some ⟨g, 0, none⟩)) (v : Value) (hq : tmps.getD q undef = v) (u : Value) (hr : tmps.getD r undef = u) (hg : w.heap[g]? = some (.cells cs t fr))
    (hu : P.underlying ty = some d) (hd : (match d with | .struct _ | .array _ _ => true | _ => false) = true) (hi : (P.info? ty).map (·.size) = some cs.size) : (results fn tmps).run P w = .ok (.tuple #[.agg cs, v, u]) w := by
  have hp' : tmps[p]?.getD undef = .pointer (some ⟨g, 0, none⟩) := by simpa using hp
  have hq' : tmps[q]?.getD undef = v := by simpa using hq
  have hr' : tmps[r]?.getD undef = u := by simpa using hr
  simp [results, h, hp', hq', hr', asAddr, run_loadVar_row w g t ty cs fr d hg hu hd hi]
end
theorem Calls.bool {P : Program} {f : FuncId} {args : Array Value} {w : World} {R : World → World → Prop} {p q : Bool} (h : Calls P f args w fun e w' => e = .returned (.bool p) ∧ R w w') (e : p = q) : Calls P f args w fun e w' => e = .returned (.bool q) ∧ R w w' := e ▸ h
theorem Calls.valV {P : Program} {f : FuncId} {args : Array Value} {w : World} {R : World → World → Prop} {u v : Value} (h : Calls P f args w fun e w' => e = .returned u ∧ R w w') (e : u = v) : Calls P f args w fun e w' => e = .returned v ∧ R w w' := e ▸ h
/-- Blocks of a row. -/
def NE (ao : Option Addr) (n g : Nat) : Prop := ∀ ad, ao = some ad → 0 < n → ad.block ≠ g
section
variable {w w' : World} {ao : Option Addr} {cap g : Nat}
theorem XC.st {sz n : Nat} {cs : List Value} {x : Obj} (h : XC w sz ao cap n cs) (St : Stored w w' g x) (hn : NE ao cs.length g) : XC w' sz ao cap n cs :=
  ⟨h.len, h.fit, h.bare, fun ad ha j v hv => (World.cell?_of_block (St.old _ (by rw [add_block]; exact hn ad ha (by have := (List.getElem?_eq_some_iff.1 hv).1; omega)))).trans (h.cell ad ha j v hv), h.one⟩
theorem Stored.gros {x : Obj} (St : Stored w w' g x) : GroS [g] w w' := ⟨St.os, St.tape, St.output, Nat.le_of_eq St.size.symm, fun k _ hk => St.old k (by simpa using hk)⟩
end

/-! ### What is heard -/
structure Hd.ok (x : Hd) : Prop where
  n : I64 x.n
  id : x.id < top
  far : I64 x.far
def zH : Hd := ⟨0, 0, 0⟩
theorem zH_ok : zH.ok := ⟨I64.z, top_0, I64.z⟩
def mkH (n : Int) (i : Nat) (f : Int) : Hd := ⟨n, i, f⟩
theorem mkH_ok {n : Int} {i : Nat} {f : Int} (h1 : I64 n) (h2 : i < top) (h3 : I64 f) : (mkH n i f).ok := ⟨h1, h2, h3⟩
def hdL (x : Hd) : List Value := [.int .i64 x.n] ++ ((idA x.id).toList ++ [.int .i64 x.far])
def hdA (x : Hd) : Array Value := (hdL x).toArray
theorem hdL_len (x : Hd) : (hdL x).length = 18 := by simp [hdL, idA]
theorem hdA_size (x : Hd) : (hdA x).size = 18 := hdL_len x
theorem hdL_one (x : Hd) : ∀ v ∈ hdL x, v.oneCell' = true := fun v hv => by
  rcases List.mem_append.1 hv with hv | hv
  · rw [List.mem_singleton.1 hv]; rfl
  rcases List.mem_append.1 hv with hv | hv
  · exact idL_one x.id v hv
  · rw [List.mem_singleton.1 hv]; rfl
theorem hdA_one (x : Hd) : (hdA x).all (·.oneCell') = true := by
  rw [Array.all_eq_true_iff_forall_mem]
  exact fun v hv => hdL_one x v (by simpa [hdA] using hv)
theorem hdA_sz (a b : Hd) : (hdA a).size = (hdA b).size := (hdA_size a).trans (hdA_size b).symm
theorem hdA_fit (a b : Hd) : 0 + (hdA a).size ≤ (hdA b).size := by rw [hdA_size, hdA_size]; exact Nat.le_refl _
theorem aH_0 (x : Hd) : (hdA x).extract 0 (0 + 18) = hdA x := by kernel_rfl
theorem aH_i (x : Hd) : (hdA x).extract 1 (1 + 16) = idA x.id := by kernel_rfl
theorem aH_n (x : Hd) : (hdA x)[0]? = some (.int .i64 x.n) := by kernel_rfl
theorem aH_f (x : Hd) : (hdA x)[17]? = some (.int .i64 x.far) := by kernel_rfl
theorem dH_0 (x : Hd) : ((hdL x).drop 0).take 18 = (hdA x).toList := by kernel_rfl
theorem dH_i (x : Hd) : ((hdL x).drop 1).take 16 = (idA x.id).toList := by kernel_rfl
theorem dH_n (x : Hd) : (hdL x)[0]? = some (.int .i64 x.n) := by kernel_rfl
theorem dH_f (x : Hd) : (hdL x)[17]? = some (.int .i64 x.far) := by kernel_rfl
theorem spH_f (x : Hd) (f : Int) : splice (hdA x) 17 #[.int .i64 f] = hdA { x with far := f } := by kernel_rfl
theorem siH : (Try.prog.info? 26).map (·.size) = some 18 := by kernel_rfl
theorem siD : (Try.prog.info? 28).map (·.size) = some 18 := by kernel_rfl
theorem siH' (x : Hd) : (Try.prog.info? 26).map (·.size) = some (hdA x).size := by rw [hdA_size]; exact siH
theorem siD' (x : Hd) : (Try.prog.info? 28).map (·.size) = some (hdA x).size := by rw [hdA_size]; exact siD
theorem zeroH (w : World) : (zeroValue 26).run Try.prog w = .ok (.agg (hdA zH)) w := by rw [Try.zeroValue26]; kernel_rfl
theorem zeroD (w : World) : (zeroValue 28).run Try.prog w = .ok (.agg (hdA zH)) w := by rw [Try.zeroValue28]; kernel_rfl
/-- Pairs, numbers, matrices. -/
def prL (x : Int × Int) : List Value := [.int .i64 x.1, .int .i64 x.2]
def prA (x : Int × Int) : Array Value := (prL x).toArray
theorem prL_len (x : Int × Int) : (prL x).length = 2 := rfl
theorem prA_size (x : Int × Int) : (prA x).size = 2 := rfl
theorem prL_one (x : Int × Int) : ∀ v ∈ prL x, v.oneCell' = true := fun v hv => by
  simp only [prL, List.mem_cons, List.not_mem_nil, or_false] at hv
  rcases hv with rfl | rfl <;> rfl
theorem prA_one (x : Int × Int) : (prA x).all (·.oneCell') = true := by kernel_rfl
theorem prA_sz (a b : Int × Int) : (prA a).size = (prA b).size := rfl
theorem prA_fit (a b : Int × Int) : 0 + (prA a).size ≤ (prA b).size := Nat.le_refl _
theorem aP_0 (x : Int × Int) : (prA x).extract 0 (0 + 2) = prA x := by kernel_rfl
theorem aP_a (x : Int × Int) : (prA x)[0]? = some (.int .i64 x.1) := by kernel_rfl
theorem aP_b (x : Int × Int) : (prA x)[1]? = some (.int .i64 x.2) := by kernel_rfl
theorem siP : (Try.prog.info? 60).map (·.size) = some 2 := by kernel_rfl
theorem siP' (x : Int × Int) : (Try.prog.info? 60).map (·.size) = some (prA x).size := siP
theorem zeroP (w : World) : (zeroValue 60).run Try.prog w = .ok (.agg (prA (0, 0))) w := by rw [Try.zeroValue60]; kernel_rfl
def inA (x : Int) : Array Value := #[.int .i64 x]
theorem inA_size (x : Int) : (inA x).size = 1 := rfl
theorem aI_0 (x : Int) : (inA x)[0]? = some (.int .i64 x) := by kernel_rfl
theorem si2 : (Try.prog.info? 2).map (·.size) = some 1 := by kernel_rfl
def mxL (R : Nat → Nat → Bool) : List Value := (List.range 36).map fun i => .bool (R (i / 6) (i % 6))
def mxA (R : Nat → Nat → Bool) : Array Value := (mxL R).toArray
def mx0 : Nat → Nat → Bool := fun _ _ => false
theorem mxA_size (R : Nat → Nat → Bool) : (mxA R).size = 36 := by simp [mxA, mxL]
theorem mxA_one (R : Nat → Nat → Bool) : (mxA R).all (·.oneCell') = true := by kernel_rfl
theorem mxA_sz (a b : Nat → Nat → Bool) : (mxA a).size = (mxA b).size := (mxA_size a).trans (mxA_size b).symm
theorem mxA_fit (a b : Nat → Nat → Bool) : 0 + (mxA a).size ≤ (mxA b).size := by rw [mxA_size, mxA_size]; exact Nat.le_refl _
theorem aM_0 (R : Nat → Nat → Bool) : (mxA R).extract 0 (0 + 36) = mxA R := by
  have : 0 + 36 = (mxA R).size := (mxA_size R).symm
  rw [this, Array.extract_size]
theorem siM : (Try.prog.info? 47).map (·.size) = some 36 := by kernel_rfl
theorem siM' (R : Nat → Nat → Bool) : (Try.prog.info? 47).map (·.size) = some (mxA R).size := by rw [mxA_size]; exact siM
theorem zeroM (w : World) : (zeroValue 47).run Try.prog w = .ok (.agg (mxA mx0)) w := by rw [Try.zeroValue47]; kernel_rfl
theorem aM_at (R : Nat → Nat → Bool) (a b : Nat) (ha : a < 6) (hb : b < 6) : (mxA R)[a * 6 + b]? = some (.bool (R a b)) := by
  have h : a * 6 + b < 36 := by omega
  have e1 : (a * 6 + b) / 6 = a := by omega
  have e2 : (a * 6 + b) % 6 = b := by omega
  simp [mxA, mxL, h, e1, e2]
theorem mxL_set (R : Nat → Nat → Bool) (a b : Nat) (_ha : a < 6) (hb : b < 6) (v : Bool) : (mxL R).set (a * 6 + b) (.bool v) = mxL (setH R a b v) := by
  apply List.ext_getElem?
  intro i
  rw [List.getElem?_set]
  by_cases hi : i < 36
  · have e : ∀ Q : Nat → Nat → Bool, (mxL Q)[i]? = some (.bool (Q (i / 6) (i % 6))) := fun Q => by simp [mxL, hi]
    rw [e, e]
    by_cases c : a * 6 + b = i
    · subst c
      have e1 : (a * 6 + b) / 6 = a := by omega
      have e2 : (a * 6 + b) % 6 = b := by omega
      rw [if_pos rfl, if_pos (by simpa [mxL] using hi), e1, e2]
      simp [setH]
    · have hn : ¬ (i / 6 = a ∧ i % 6 = b) := by omega
      rw [if_neg c]
      simp [setH, hn]
  · have e : ∀ Q : Nat → Nat → Bool, (mxL Q)[i]? = none := fun Q => by simp [mxL]; omega
    rw [e, e, if_neg (by omega)]
theorem spM (R : Nat → Nat → Bool) (a b : Nat) (ha : a < 6) (hb : b < 6) (v : Bool) : splice (mxA R) (a * 6 + b) #[.bool v] = mxA (setH R a b v) := by
  have h : a * 6 + b < (mxL R).length := by simp [mxL]; omega
  unfold mxA
  rw [← mxL_set R a b ha hb v, List.set_eq_take_append_cons_drop, if_pos h]
  simp [splice]
theorem ldH0 {o : Oper} {A : Act} {w : World} {x : Hd} (y : Operand) (ho : o.op = .load 26 y) (g : Nat) (hx : A.eval y = .pointer (some ⟨g, 0, none⟩)) (hg : w.heap[g]? = some (.cells (hdA x) 26 (0, 0))) : (execOp A.eval o).run Try.prog w = .ok (.value (.agg (hdA x))) w :=
  run_lda 26 y ho g 0 18 hx 26 _ hg _ Try.underlying26 rfl siH (by rw [hdA_size]; decide) _ (aH_0 x)
theorem ldHi {o : Oper} {A : Act} {w : World} {x : Hd} (y : Operand) (ho : o.op = .load 23 y) (g : Nat) (hx : A.eval y = .pointer (some ⟨g, 1, none⟩)) (hg : w.heap[g]? = some (.cells (hdA x) 26 (0, 0))) : (execOp A.eval o).run Try.prog w = .ok (.value (.agg (idA x.id))) w :=
  run_lda 23 y ho g 1 16 hx 26 _ hg _ Try.underlying23 rfl size23 (by rw [hdA_size]; decide) _ (aH_i x)
theorem ldHn {o : Oper} {A : Act} {w : World} {x : Hd} (y : Operand) (ho : o.op = .load 3 y) (g : Nat) (hx : A.eval y = .pointer (some ⟨g, 0, none⟩)) (hg : w.heap[g]? = some (.cells (hdA x) 26 (0, 0))) : (execOp A.eval o).run Try.prog w = .ok (.value (.int .i64 x.n)) w :=
  run_ldc 3 y ho g 0 hx 26 _ hg (na3 w) _ (aH_n x)
theorem ldHf {o : Oper} {A : Act} {w : World} {x : Hd} (y : Operand) (ho : o.op = .load 2 y) (g : Nat) (hx : A.eval y = .pointer (some ⟨g, 17, none⟩)) (hg : w.heap[g]? = some (.cells (hdA x) 26 (0, 0))) : (execOp A.eval o).run Try.prog w = .ok (.value (.int .i64 x.far)) w :=
  run_ldc 2 y ho g 17 hx 26 _ hg (na2 w) _ (aH_f x)
theorem ldD0 {o : Oper} {A : Act} {w : World} {x : Hd} (y : Operand) (ho : o.op = .load 28 y) (g : Nat) (hx : A.eval y = .pointer (some ⟨g, 0, none⟩)) (hg : w.heap[g]? = some (.cells (hdA x) 28 (0, 0))) : (execOp A.eval o).run Try.prog w = .ok (.value (.agg (hdA x))) w :=
  run_lda 28 y ho g 0 18 hx 28 _ hg _ Try.underlying28 rfl siD (by rw [hdA_size]; decide) _ (aH_0 x)
theorem ldDi {o : Oper} {A : Act} {w : World} {x : Hd} (y : Operand) (ho : o.op = .load 23 y) (g : Nat) (hx : A.eval y = .pointer (some ⟨g, 1, none⟩)) (hg : w.heap[g]? = some (.cells (hdA x) 28 (0, 0))) : (execOp A.eval o).run Try.prog w = .ok (.value (.agg (idA x.id))) w :=
  run_lda 23 y ho g 1 16 hx 28 _ hg _ Try.underlying23 rfl size23 (by rw [hdA_size]; decide) _ (aH_i x)
theorem ldDn {o : Oper} {A : Act} {w : World} {x : Hd} (y : Operand) (ho : o.op = .load 3 y) (g : Nat) (hx : A.eval y = .pointer (some ⟨g, 0, none⟩)) (hg : w.heap[g]? = some (.cells (hdA x) 28 (0, 0))) : (execOp A.eval o).run Try.prog w = .ok (.value (.int .i64 x.n)) w :=
  run_ldc 3 y ho g 0 hx 28 _ hg (na3 w) _ (aH_n x)
theorem ldDf {o : Oper} {A : Act} {w : World} {x : Hd} (y : Operand) (ho : o.op = .load 2 y) (g : Nat) (hx : A.eval y = .pointer (some ⟨g, 17, none⟩)) (hg : w.heap[g]? = some (.cells (hdA x) 28 (0, 0))) : (execOp A.eval o).run Try.prog w = .ok (.value (.int .i64 x.far)) w :=
  run_ldc 2 y ho g 17 hx 28 _ hg (na2 w) _ (aH_f x)
theorem ldI0 {o : Oper} {A : Act} {w : World} {x : Nat} (y : Operand) (ho : o.op = .load 23 y) (g : Nat) (hx : A.eval y = .pointer (some ⟨g, 0, none⟩)) (hg : w.heap[g]? = some (.cells (idA x) 23 (0, 0))) : (execOp A.eval o).run Try.prog w = .ok (.value (.agg (idA x))) w :=
  run_lda 23 y ho g 0 16 hx 23 _ hg _ Try.underlying23 rfl size23 (by rw [idA_size]; decide) _ (extract_id x)
theorem ldP0 {o : Oper} {A : Act} {w : World} {x : (Int × Int)} (y : Operand) (ho : o.op = .load 60 y) (g : Nat) (hx : A.eval y = .pointer (some ⟨g, 0, none⟩)) (hg : w.heap[g]? = some (.cells (prA x) 60 (0, 0))) : (execOp A.eval o).run Try.prog w = .ok (.value (.agg (prA x))) w :=
  run_lda 60 y ho g 0 2 hx 60 _ hg _ Try.underlying60 rfl siP (by rw [prA_size]; decide) _ (aP_0 x)
theorem ldPa {o : Oper} {A : Act} {w : World} {x : (Int × Int)} (y : Operand) (ho : o.op = .load 3 y) (g : Nat) (hx : A.eval y = .pointer (some ⟨g, 0, none⟩)) (hg : w.heap[g]? = some (.cells (prA x) 60 (0, 0))) : (execOp A.eval o).run Try.prog w = .ok (.value (.int .i64 x.1)) w :=
  run_ldc 3 y ho g 0 hx 60 _ hg (na3 w) _ (aP_a x)
theorem ldPb {o : Oper} {A : Act} {w : World} {x : (Int × Int)} (y : Operand) (ho : o.op = .load 3 y) (g : Nat) (hx : A.eval y = .pointer (some ⟨g, 1, none⟩)) (hg : w.heap[g]? = some (.cells (prA x) 60 (0, 0))) : (execOp A.eval o).run Try.prog w = .ok (.value (.int .i64 x.2)) w :=
  run_ldc 3 y ho g 1 hx 60 _ hg (na3 w) _ (aP_b x)
theorem ldN0 {o : Oper} {A : Act} {w : World} {x : Int} (y : Operand) (ho : o.op = .load 3 y) (g : Nat) (hx : A.eval y = .pointer (some ⟨g, 0, none⟩)) (hg : w.heap[g]? = some (.cells (inA x) 3 (0, 0))) : (execOp A.eval o).run Try.prog w = .ok (.value (.int .i64 x)) w :=
  run_ldc 3 y ho g 0 hx 3 _ hg (na3 w) _ (aI_0 x)
theorem ldM0 {o : Oper} {A : Act} {w : World} {x : (Nat → Nat → Bool)} (y : Operand) (ho : o.op = .load 47 y) (g : Nat) (hx : A.eval y = .pointer (some ⟨g, 0, none⟩)) (hg : w.heap[g]? = some (.cells (mxA x) 47 (0, 0))) : (execOp A.eval o).run Try.prog w = .ok (.value (.agg (mxA x))) w :=
  run_lda 47 y ho g 0 36 hx 47 _ hg _ Try.underlying47 rfl siM (by rw [mxA_size]; decide) _ (aM_0 x)
theorem ldMb {o : Oper} {A : Act} {w : World} {R : Nat → Nat → Bool} (y : Operand) (ho : o.op = .load 4 y) (g a b : Nat) (hx : A.eval y = .pointer (some ⟨g, a * 6 + b, none⟩)) (ha : a < 6) (hb : b < 6) (hg : w.heap[g]? = some (.cells (mxA R) 47 (0, 0))) (v : Bool) (hv : R a b = v) : (execOp A.eval o).run Try.prog w = .ok (.value (.bool v)) w :=
  run_ldc 4 y ho g (a * 6 + b) hx 47 _ hg (na4 w) _ (by rw [aM_at R a b ha hb, hv])
theorem run_ia47 {o : Oper} {A : Act} (x y : Operand) (ho : o.op = .indexAddr 47 x y) (g a : Nat) (hx : A.eval x = .pointer (some ⟨g, 0, none⟩)) (hy : A.eval y = .int .i64 (a : Int)) (ha : a < 6) (w : World) : (execOp A.eval o).run Try.prog w = .ok (.value (.pointer (some ⟨g, a * 6, none⟩))) w := by
  have hs : (sizeOf 46).run Try.prog w = .ok 6 w := by kernel_rfl
  have h : (Instr.indexAt 47 (.pointer (some ⟨g, 0, none⟩)) (.int .i64 (a : Int))).run Try.prog w = .ok (.pointer (some ⟨g, a * 6, none⟩)) w := by
    have hjj : (a : Int) < 6 := by omega
    simp only [Instr.indexAt, Sem.run_bind, run_underlying Try.underlying47, Result.andThen_ok]
    simp [Instr.sureAddr, asIntOf, hjj, add_at]
  unfold execOp
  simp only [ho, hx, hy, Sem.run_bind, h, Result.andThen_ok, Sem.run_pure]
theorem run_ia46 {o : Oper} {A : Act} (x y : Operand) (ho : o.op = .indexAddr 46 x y) (g off a : Nat) (hx : A.eval x = .pointer (some ⟨g, off, none⟩)) (hy : A.eval y = .int .i64 (a : Int)) (ha : a < 6) (w : World) : (execOp A.eval o).run Try.prog w = .ok (.value (.pointer (some ⟨g, off + a, none⟩))) w := by
  have hs : (sizeOf 4).run Try.prog w = .ok 1 w := by kernel_rfl
  have h : (Instr.indexAt 46 (.pointer (some ⟨g, off, none⟩)) (.int .i64 (a : Int))).run Try.prog w = .ok (.pointer (some ⟨g, off + a, none⟩)) w := by
    have hjj : (a : Int) < 6 := by omega
    simp only [Instr.indexAt, Sem.run_bind, run_underlying Try.underlying46, Result.andThen_ok]
    simp [Instr.sureAddr, asIntOf, hjj, add_at]
  unfold execOp
  simp only [ho, hx, hy, Sem.run_bind, h, Result.andThen_ok, Sem.run_pure]
theorem run_ia60 {o : Oper} {A : Act} (x y : Operand) (ho : o.op = .indexAddr 60 x y) (g off a : Nat) (hx : A.eval x = .pointer (some ⟨g, off, none⟩)) (hy : A.eval y = .int .i64 (a : Int)) (ha : a < 2) (w : World) : (execOp A.eval o).run Try.prog w = .ok (.value (.pointer (some ⟨g, off + a, none⟩))) w := by
  have hs : (sizeOf 3).run Try.prog w = .ok 1 w := by kernel_rfl
  have h : (Instr.indexAt 60 (.pointer (some ⟨g, off, none⟩)) (.int .i64 (a : Int))).run Try.prog w = .ok (.pointer (some ⟨g, off + a, none⟩)) w := by
    have hjj : (a : Int) < 2 := by omega
    simp only [Instr.indexAt, Sem.run_bind, run_underlying Try.underlying60, Result.andThen_ok]
    simp [Instr.sureAddr, asIntOf, hjj, add_at]
  unfold execOp
  simp only [ho, hx, hy, Sem.run_bind, h, Result.andThen_ok, Sem.run_pure]
/-! ### Likeness -/
theorem fieldsH : Try.prog.fieldsOf 26 = #[{ name := "N", type := 3, offset := 0, embedded := false, tag := "", pkgPath := "", byteOffset := 0 }, { name := "ID", type := 23, offset := 1, embedded := false, tag := "", pkgPath := "", byteOffset := 8 }, { name := "Far", type := 2, offset := 17, embedded := false, tag := "", pkgPath := "", byteOffset := 24 }] := by kernel_rfl
theorem undH : Try.prog.underlying 26 = some (.struct (Try.prog.fieldsOf 26)) := by rw [fieldsH]; exact Try.underlying26
def eqH (x y : Hd) : Bool := decide (x.n = y.n) && (decide (x.id = y.id) && decide (x.far = y.far))
theorem eqH_iff {x y : Hd} : eqH x y = true ↔ x = y := by
  obtain ⟨q1, q2, q3⟩ := x
  obtain ⟨r1, r2, r3⟩ := y
  simp [eqH]
theorem eqH_self (x : Hd) : eqH x x = true := eqH_iff.2 rfl
theorem eqFH (d : Nat) (x y : Hd) (hx : x.ok) (hy : y.ok) (w : World) : (Op.equalIn (d + 1 + 1 + 1) 26 (.agg (hdA x)) (.agg (hdA y))).run Try.prog w = .ok (eqH x y) w := by
  have p1 : ∀ z : Hd, (part 3 (hdA z) 0).run Try.prog w = .ok (.int .i64 z.n) w := fun z => by kernel_rfl
  have p2 : ∀ z : Hd, (part 23 (hdA z) 1).run Try.prog w = .ok (.agg (idA z.id)) w := fun z => by kernel_rfl
  have p3 : ∀ z : Hd, (part 2 (hdA z) 17).run Try.prog w = .ok (.int .i64 z.far) w := fun z => by kernel_rfl
  have h1 := run_equalIn_int (P := Try.prog) w (d + 1) 3 .i64 .i64 x.n y.n Try.underlying3
  have h2 := eqI_id d x.id y.id hx.id hy.id w
  have h3 := run_equalIn_int (P := Try.prog) w (d + 1) 2 .i64 .i64 x.far y.far Try.underlying2
  rw [beq_dec] at h1 h3
  have e : eqH x y = (decide (x.n = y.n) && (decide (x.id = y.id) && decide (x.far = y.far))) := rfl
  rw [e, run_equalIn_struct w (d + 1 + 1) 26 _ _ undH (by kernel_rfl), fieldsH]
  clear e hx hy
  generalize decide (x.n = y.n) = P1 at *
  generalize decide (x.id = y.id) = P2 at *
  generalize decide (x.far = y.far) = P3 at *
  unfold Op.eqFields
  rw [if_pos (by decide), Sem.run_bind, p1, Result.andThen_ok, Sem.run_bind, p1, Result.andThen_ok, Sem.run_bind, h1, Result.andThen_ok]
  cases P1
  · rfl
  rw [if_neg (by decide)]
  unfold Op.eqFields
  rw [if_pos (by decide), Sem.run_bind, p2, Result.andThen_ok, Sem.run_bind, p2, Result.andThen_ok, Sem.run_bind, h2, Result.andThen_ok]
  cases P2
  · rfl
  rw [if_neg (by decide)]
  unfold Op.eqFields
  rw [if_pos (by decide), Sem.run_bind, p3, Result.andThen_ok, Sem.run_bind, p3, Result.andThen_ok, Sem.run_bind, h3, Result.andThen_ok]
  cases P3 <;> rfl
theorem run_eqH {o : Oper} {A : Act} {w : World} (x y : Operand) (t2 : TypeId) (ho : o.op = .binOp .eql 26 x y t2) (n m : Hd) (hx : A.eval x = .agg (hdA n)) (hy : A.eval y = .agg (hdA m)) (hn : n.ok) (hm : m.ok) (p : Bool) (hp : eqH n m = p) :
    (execOp A.eval o).run Try.prog w = .ok (.value (.bool p)) w := by
  subst hp
  exact run_cmpA .eql 26 x y t2 ho _ _ hx hy (by kernel_rfl) _ (by rw [run_eql_struct, eqFH 9997 n m hn hm w]; rfl)
/-! ### Rows of whatever -/
structure Kd (α : Type) where
  E : α → List Value
  sz : Nat
  ok : α → Prop
  z : α
  len : ∀ x, (E x).length = sz
  one : ∀ x, ∀ v ∈ E x, v.oneCell' = true
section
variable {α : Type}
/-- A row as it is read, and one's own. -/
structure RK (K : Kd α) (w : World) (ao : Option Addr) (cap : Nat) (l : List α) : Prop where
  xc : XC w K.sz ao cap l.length (l.flatMap K.E)
  all : ∀ x ∈ l, K.ok x
structure OW (K : Kd α) (e : TypeId) (w : World) (B : Nat) (ao : Option Addr) (cap : Nat) (l : List α) : Prop where
  own : OY w e K.sz B ao cap l.length (l.flatMap K.E)
  all : ∀ x ∈ l, K.ok x
variable {K : Kd α} {e : TypeId} {w w' : World} {ao : Option Addr} {cap B b g : Nat} {l : List α}
theorem fl_oneK : ∀ v ∈ l.flatMap K.E, v.oneCell' = true := fun v hv => by
  obtain ⟨n, _, hn⟩ := List.mem_flatMap.1 hv
  exact K.one n v hn
theorem RK.gro (h : RK K w ao cap l) (G : Gro w w') : RK K w' ao cap l := ⟨h.xc.gro G, h.all⟩
theorem RK.nil (w : World) : RK K w none 0 [] := ⟨XC.nil w K.sz, fun _ h => by cases h⟩
theorem RK.lt (h : RK K w ao cap l) : ∀ ad, ao = some ad → 0 < (l.flatMap K.E).length → ad.block < w.heap.size := h.xc.lt
theorem RK.ne (h : RK K w ao cap l) (e : w.heap.size = g) : NE ao (l.flatMap K.E).length g := fun ad ha h0 => by
  have := h.lt ad ha h0
  omega
theorem RK.st {x : Obj} (h : RK K w ao cap l) (St : Stored w w' g x) (hn : NE ao (l.flatMap K.E).length g) : RK K w' ao cap l := ⟨XC.st h.xc St hn, h.all⟩
theorem RK.gros {S : List Nat} (h : RK K w ao cap l) (G : GroS S w w') (hs : ∀ ad, ao = some ad → 0 < (l.flatMap K.E).length → ad.block ∉ S) : RK K w' ao cap l :=
  ⟨⟨h.xc.len, h.xc.fit, h.xc.bare, fun ad ha j v hv => by
    have h0 : 0 < (l.flatMap K.E).length := by have := (List.getElem?_eq_some_iff.1 hv).1; omega
    exact (World.cell?_of_block (by rw [add_block]; exact G.old _ (h.lt ad ha h0) (hs ad ha h0))).trans (h.xc.cell ad ha j v hv), h.xc.one⟩, h.all⟩
theorem RK.below (h : RK K w ao cap l) {B : Nat} (G : Below B w w') (hb : ∀ ad, ao = some ad → 0 < (l.flatMap K.E).length → ad.block < B) : RK K w' ao cap l := ⟨h.xc.below G hb, h.all⟩
theorem RK.at (h : RK K w ao cap l) {j : Nat} (hj : j < l.length) : K.ok (l.getD j K.z) := by
  have : l.getD j K.z = l[j] := by simp [List.getD_eq_getElem?_getD, hj]
  rw [this]
  exact h.all _ (List.getElem_mem hj)
theorem RK.blk {t : TypeId} {fr : Nat × Nat} (hg : w.heap[g]? = some (.cells (l.flatMap K.E).toArray t fr)) (hl : ∀ x ∈ l, K.ok x) (hc : l.length ≤ cap) : RK K w (some ⟨g, 0, none⟩) cap l := by
  refine ⟨⟨flx_len K.len _, hc, fun h => (by cases h), fun ad ha j v hv => ?_, fl_oneK⟩, hl⟩
  cases ha
  rw [add_at, Nat.zero_add, cell_of_row w g j _ t _ hg]
  simpa using hv
theorem OW.re (h : OW K e w B ao cap l) : RK K w ao cap l := ⟨h.own.xc, h.all⟩
theorem OW.gro (h : OW K e w B ao cap l) (G : Gro w w') : OW K e w' B ao cap l := ⟨h.own.gro G, h.all⟩
theorem OW.nil (w : World) (B : Nat) : OW K e w B none 0 [] := ⟨OY.nil w e K.sz B, fun _ h => by cases h⟩
theorem OW.mono (h : OW K e w B ao cap l) {B' : Nat} (hB : B' ≤ B) : OW K e w B' ao cap l := ⟨h.own.mono hB, h.all⟩
theorem OW.gros {S : List Nat} (h : OW K e w B ao cap l) (G : GroS S w w') (hs : ∀ k ∈ Go.Proofs.Ytljihaihhnamfaa.blk ao, k ∉ S) : OW K e w' B ao cap l := ⟨h.own.gros G hs, h.all⟩
theorem OW.ne (h : OW K e w B ao cap l) (e : w.heap.size = g) : g ∉ Go.Proofs.Ytljihaihhnamfaa.blk ao := fun hm => by
  have := h.own.lt g hm
  omega
theorem OW.st {x : Obj} (h : OW K e w B ao cap l) (St : Stored w w' g x) (hn : g ∉ Go.Proofs.Ytljihaihhnamfaa.blk ao) : OW K e w' B ao cap l := h.gros St.gros fun k hk hm => hn (by rw [List.mem_singleton] at hm; exact hm ▸ hk)
theorem OW.blk (hg : w.heap[g]? = some (.cells (l.flatMap K.E).toArray e (0, 0))) (hl : ∀ x ∈ l, K.ok x) (hB : B ≤ g) (hm : l.length ≤ 1000000) : OW K e w B (some ⟨g, 0, none⟩) l.length l :=
  ⟨⟨flx_len K.len l, .inr ⟨g, 0, _, rfl, hB, hg, Nat.le_refl _, by unfold maxLen; omega, by simp only [List.size_toArray, flx_len K.len]; omega, by simp only [List.drop_zero]; rw [← flx_len K.len l]; exact List.take_length⟩, fl_oneK⟩, hl⟩
theorem OW.belowB (h : OW K e w B ao cap l) (G : GroS (Go.Proofs.Ytljihaihhnamfaa.blk ao) w w') (hB : B ≤ w.heap.size) : Below B w w' :=
  ⟨G.os, G.tape, G.output, G.size, fun k hk => G.old k (by omega) (fun hm => by have := h.own.base k hm; omega)⟩
/-- A call that answers a new row. -/
def RowK (K : Kd α) (e : TypeId) (w : World) (L : List α) (x : Ending) (w' : World) : Prop := ∃ ao cap, x = .returned (.slice ao L.length cap) ∧ Gro w w' ∧ OW K e w' w.heap.size ao cap L
/-- A row that an operation of a region makes. -/
def rowK (K : Kd α) (L : List α) : PostE := PostE.ex (fun v x => ∃ ao cap, v = .slice ao L.length cap ∧ RK K x ao cap L) (fun _ _ _ G ⟨a, c, h1, h2⟩ => ⟨a, c, h1, h2.gro G⟩)
theorem fill_rowK (L : List α) (v : Value) : (rowK K L).fill v = v := rfl
/-- Where a part of an element stands. -/
def pK (K : Kd α) (ao : Option Addr) (j q : Nat) : Option Addr := ao.map (·.add (j * K.sz + q))
variable {o : Oper} {A : Act} {t s : TypeId} {z : Value}
theorem run_ixK (R : RowT Try.prog t e K.sz s z) (h : RK K w ao cap l) (x y : Operand) (ho : o.op = .indexAddr t x y) (hx : A.eval x = .slice ao l.length cap) (j : Nat) (hy : A.eval y = .int .i64 (j : Int)) (hj : j < l.length) :
    (execOp A.eval o).run Try.prog w = .ok (.value (.pointer (pK K ao j 0))) w := by
  obtain ⟨ad, rfl⟩ := h.xc.some (by omega)
  exact run_idxX R x y ho ad _ _ j hx hy hj w
theorem el_fitK {j q k : Nat} (hj : j < l.length) (hq : q + k ≤ K.sz) : j * K.sz + q + k ≤ (l.flatMap K.E).length := by
  rw [flx_len K.len]
  have := Nat.mul_le_mul_right K.sz (show j + 1 ≤ l.length from hj)
  rw [Nat.add_mul, Nat.one_mul] at this
  omega
theorem run_ldK (h : RK K w ao cap l) (ty : TypeId) (d : TypeDesc) (hu : Try.prog.underlying ty = some d) (hd : (match d with | .struct _ | .array _ _ => true | _ => false) = true) (q k : Nat) (hi : (Try.prog.info? ty).map (·.size) = some k) (hq : q + k ≤ K.sz) (x : Operand) (ho : o.op = .load ty x) (j : Nat) (hx : A.eval x = .pointer (pK K ao j q)) (hj : j < l.length) (v : Array Value) (hv : ((K.E (l.getD j K.z)).drop q).take k = v.toList) :
    (execOp A.eval o).run Try.prog w = .ok (.value (.agg v)) w := by
  obtain ⟨ad, rfl⟩ := h.xc.some (by omega)
  rw [run_ldXa ty d hu (by cases d <;> first | rfl | cases hd) k hi x ho (j * K.sz + q) hx h.xc (el_fitK hj hq), flx_el K.len K.z l j hj q k hq, hv]
theorem run_ldKc (h : RK K w ao cap l) (ty : TypeId) (hu : (isAgg ty).run Try.prog w = .ok false w) (q : Nat) (hq : q < K.sz) (x : Operand) (ho : o.op = .load ty x) (j : Nat) (hx : A.eval x = .pointer (pK K ao j q)) (hj : j < l.length) (v : Value) (hv : (K.E (l.getD j K.z))[q]? = some v) :
    (execOp A.eval o).run Try.prog w = .ok (.value v) w := by
  obtain ⟨ad, rfl⟩ := h.xc.some (by omega)
  exact run_ldXc ty hu x ho (j * K.sz + q) hx h.xc _ (by rw [flx_cell K.len K.z l j hj q hq, hv])
theorem run_fdK (h : RK K w ao cap l) (ty : TypeId) (x : Operand) (i q : Nat) (hf : ∀ ad, (Instr.fieldAt ty (.pointer (some ad)) i).run Try.prog w = .ok (.pointer (some (ad.add q))) w) (ho : o.op = .fieldAddr ty x i) (j : Nat) (hx : A.eval x = .pointer (pK K ao j 0)) (hj : j < l.length) :
    (execOp A.eval o).run Try.prog w = .ok (.value (.pointer (pK K ao j q))) w := by
  obtain ⟨ad, rfl⟩ := h.xc.some (by omega)
  have := hf (ad.add (j * K.sz + 0))
  rw [add_add, Nat.add_zero] at this
  exact run_fdA ty x i ho hx _ this
variable {ops : Array Oper} {rest : List Oper} {T : List Value} {ds : List Deferred} {Q : Exit → Act → World → Prop}
/-- Onto one's own row. -/
theorem s_appK (R : RowT Try.prog t e K.sz s z) (hs1 : 0 < s) (dst : Nat) (hd : o.dst = some dst) (hgd : o.guard = none) (a x : Operand) (ho : o.op = .call { callee := .builtin .append, args := #[a, x], argTypes := #[t, t] })
    (hs : (⟨T.toArray, ds⟩ : Act).eval a = .slice ao l.length cap) (hown : OW K e w B ao cap l)
    {ao' : Option Addr} {cap' : Nat} {l' : List α} (hx : (⟨T.toArray, ds⟩ : Act).eval x = .slice ao' l'.length cap') (hsrc : RK K w ao' cap' l') (hb : (l.length + l'.length) * s ≤ 140737488355328) (hB : B ≤ w.heap.size)
    (h : ∀ ao2 cap2 w', OW K e w' B ao2 cap2 (l ++ l') → GroS (Go.Proofs.Ytljihaihhnamfaa.blk ao) w w' → Kept w.heap.size ao ao2 → wpList Try.prog ops Q rest ⟨(T.set dst (.slice ao2 (l ++ l').length cap2)).toArray, ds⟩ w') : wpList Try.prog ops Q (o :: rest) ⟨T.toArray, ds⟩ w := by
  refine s_appY R dst hd hgd a x ho hs hown.own hx hsrc.xc hb hs1 hB ?_
  intro ao2 cap2 w' h1 h2 h3
  rw [← List.flatMap_append, ← List.length_append] at h1
  have := h ao2 cap2 w' ⟨h1, fun x hx => (List.mem_append.1 hx).elim (hown.all x) (hsrc.all x)⟩ h2 h3
  rw [List.length_append] at this
  exact this
end
theorem one_all {α : Type} {p : α → Prop} {x : α} (h : p x) : ∀ y ∈ [x], p y := fun y hy => by rw [List.mem_singleton.1 hy]; exact h
/-- A region's operation that builds a row of one. -/
theorem opE_bs {ops : Array Oper} {o : Oper} {A : Act} {w : World} {α : Type} {K : Kd α} {e : TypeId} (hw : Region.wanted o (yielded ops A.tmps) = true) (t : TypeId) (l : List (Nat × Operand)) (ho : o.op = .buildSlice t 1 l.toArray) (vals : List (Nat × Value)) (hv : (l.map fun p => (p.1, A.eval p.2)) = vals) (x : α) (hx : K.ok x)
    (hr : (Instr.buildSlice t 1 vals.toArray).run Try.prog w = .ok (.slice (some ⟨w.heap.size, 0, none⟩) 1 1) (w.alloc (.cells ([x].flatMap K.E).toArray e))) : OpE Try.prog ops (rowK K [x]) o A w :=
  opE_new (rowK K [x]) hw (run_bsl t 1 l ho vals hv hr) (gro_alloc _ _) ⟨_, _, rfl, RK.blk (heap_alloc_new _ _) (one_all hx) (Nat.le_refl _)⟩
/-- A region's call of a function value. -/
theorem opE_callF {ops : Array Oper} {o : Oper} {A : Act} {w : World} (k : PostE) (hw : Region.wanted o (yielded ops A.tmps) = true) (c : Call) (f : FuncId) (cb : Array Value) (hen : ∀ args w, (callFunc f args).run Try.prog w = .ok (.enter f args) w) (ho : o.op = .call c) (x : Operand) (hc : c.callee = .value x) (hx : A.eval x = .func (.func f) #[] cb) (xs : List Operand) (hxs : c.args = xs.toArray) (vs : List Value) (hvs : xs.map A.eval = vs)
    (H : Calls Try.prog f (vs.toArray ++ cb) w fun e w' => ∃ v, e = .returned v ∧ Gro w w' ∧ k.p v w') : OpE Try.prog ops k o A w :=
  ⟨by rw [if_pos hw, run_callF c f cb hen ho x hc hx, hxs, List.map_toArray, hvs]; exact H⟩
theorem ok_callF {ops : Array Oper} {o : Oper} {A : Act} {w : World} (hgd : o.guard = none) (c : Call) (f : FuncId) (cb : Array Value) (hen : ∀ args w, (callFunc f args).run Try.prog w = .ok (.enter f args) w) (ho : o.op = .call c) (x : Operand) (hc : c.callee = .value x) (hx : A.eval x = .func (.func f) #[] cb) (xs : List Operand) (hxs : c.args = xs.toArray) (vs : List Value) (hvs : xs.map A.eval = vs) (v : Value)
    (H : Calls Try.prog f (vs.toArray ++ cb) w fun e w' => e = .returned v ∧ Gro w w') : OpOK Try.prog ops (.val v) o A w := by
  constructor
  rw [if_pos (wanted_none hgd _), run_callF c f cb hen ho x hc hx, hxs, List.map_toArray, hvs]
  exact H.mono fun e w' ⟨he, hg⟩ => ⟨v, he, hg, rfl⟩
theorem sl_one (ao : Option Addr) (n cap : Nat) : (#[Value.slice ao n cap]).all (·.oneCell') = true := by kernel_rfl

def kH : Kd Hd := ⟨hdL, 18, Hd.ok, zH, hdL_len, hdL_one⟩
def kI : Kd Nat := ⟨fun n => (idA n).toList, 16, fun n => n < top, 0, idA_len, idL_one⟩
def kP : Kd (Int × Int) := ⟨prL, 2, fun x => I64 x.1 ∧ I64 x.2, (0, 0), prL_len, prL_one⟩
theorem rH : RowT Try.prog 24 26 kH.sz 32 (.agg (hdA zH)) := ⟨Try.underlying24, info_of (by kernel_rfl), hdA_size zH, by decide⟩
theorem rD : RowT Try.prog 30 28 kH.sz 32 (.agg (hdA zH)) := ⟨Try.underlying30, info_of (by kernel_rfl), hdA_size zH, by decide⟩
theorem rI : RowT Try.prog 41 23 kI.sz 16 (.agg (idA 0)) := ⟨Try.underlying41, info_of (by kernel_rfl), idA_size 0, by decide⟩
theorem rP : RowT Try.prog 42 60 kP.sz 16 (.agg (prA (0, 0))) := ⟨Try.underlying42, info_of (by kernel_rfl), prA_size (0, 0), by decide⟩
section
variable {o : Oper} {A : Act} {w : World} {ao : Option Addr} {cap : Nat}
theorem run_ldKH {l : List Hd} (h : RK kH w ao cap l) (x : Operand) (ho : o.op = .load 26 x) (j : Nat) (hx : A.eval x = .pointer (pK kH ao j 0)) (hj : j < l.length) : (execOp A.eval o).run Try.prog w = .ok (.value (.agg (hdA (l.getD j zH)))) w :=
  run_ldK h 26 _ Try.underlying26 rfl 0 18 siH (by decide) x ho j hx hj _ (dH_0 _)
theorem run_ldKD {l : List Hd} (h : RK kH w ao cap l) (x : Operand) (ho : o.op = .load 28 x) (j : Nat) (hx : A.eval x = .pointer (pK kH ao j 0)) (hj : j < l.length) : (execOp A.eval o).run Try.prog w = .ok (.value (.agg (hdA (l.getD j zH)))) w :=
  run_ldK h 28 _ Try.underlying28 rfl 0 18 siD (by decide) x ho j hx hj _ (dH_0 _)
theorem run_ldKHi {l : List Hd} (h : RK kH w ao cap l) (x : Operand) (ho : o.op = .load 23 x) (j : Nat) (hx : A.eval x = .pointer (pK kH ao j 1)) (hj : j < l.length) : (execOp A.eval o).run Try.prog w = .ok (.value (.agg (idA (l.getD j zH).id))) w :=
  run_ldK h 23 _ Try.underlying23 rfl 1 16 size23 (by decide) x ho j hx hj _ (dH_i _)
theorem run_ldKHn {l : List Hd} (h : RK kH w ao cap l) (x : Operand) (ho : o.op = .load 3 x) (j : Nat) (hx : A.eval x = .pointer (pK kH ao j 0)) (hj : j < l.length) : (execOp A.eval o).run Try.prog w = .ok (.value (.int .i64 (l.getD j zH).n)) w :=
  run_ldKc h 3 (na3 w) 0 (by decide) x ho j hx hj _ (dH_n _)
theorem run_ldKHf {l : List Hd} (h : RK kH w ao cap l) (x : Operand) (ho : o.op = .load 2 x) (j : Nat) (hx : A.eval x = .pointer (pK kH ao j 17)) (hj : j < l.length) : (execOp A.eval o).run Try.prog w = .ok (.value (.int .i64 (l.getD j zH).far)) w :=
  run_ldKc h 2 (na2 w) 17 (by decide) x ho j hx hj _ (dH_f _)
theorem run_ldKI {l : List Nat} (h : RK kI w ao cap l) (x : Operand) (ho : o.op = .load 23 x) (j : Nat) (hx : A.eval x = .pointer (pK kI ao j 0)) (hj : j < l.length) : (execOp A.eval o).run Try.prog w = .ok (.value (.agg (idA (l.getD j 0)))) w :=
  run_ldK h 23 _ Try.underlying23 rfl 0 16 size23 (by decide) x ho j hx hj _ (by show ((idA _).toList.drop 0).take 16 = _; rw [List.drop_zero, List.take_of_length_le (by rw [idA_len]; exact Nat.le_refl _)]; rfl)
theorem run_ldKP {l : List (Int × Int)} (h : RK kP w ao cap l) (x : Operand) (ho : o.op = .load 60 x) (j : Nat) (hx : A.eval x = .pointer (pK kP ao j 0)) (hj : j < l.length) : (execOp A.eval o).run Try.prog w = .ok (.value (.agg (prA (l.getD j (0, 0))))) w :=
  run_ldK h 60 _ Try.underlying60 rfl 0 2 siP (by decide) x ho j hx hj _ rfl
theorem fdH_0 (w : World) (ad : Addr) : (Instr.fieldAt 26 (.pointer (some ad)) 0).run Try.prog w = .ok (.pointer (some (ad.add 0))) w := by kernel_rfl
theorem fdH_1 (w : World) (ad : Addr) : (Instr.fieldAt 26 (.pointer (some ad)) 1).run Try.prog w = .ok (.pointer (some (ad.add 1))) w := by kernel_rfl
theorem fdH_2 (w : World) (ad : Addr) : (Instr.fieldAt 26 (.pointer (some ad)) 2).run Try.prog w = .ok (.pointer (some (ad.add 17))) w := by kernel_rfl
theorem fdD_0 (w : World) (ad : Addr) : (Instr.fieldAt 28 (.pointer (some ad)) 0).run Try.prog w = .ok (.pointer (some (ad.add 0))) w := by kernel_rfl
theorem fdD_1 (w : World) (ad : Addr) : (Instr.fieldAt 28 (.pointer (some ad)) 1).run Try.prog w = .ok (.pointer (some (ad.add 1))) w := by kernel_rfl
theorem fdD_2 (w : World) (ad : Addr) : (Instr.fieldAt 28 (.pointer (some ad)) 2).run Try.prog w = .ok (.pointer (some (ad.add 17))) w := by kernel_rfl
end
theorem bsH (a : Hd) (w : World) : (Instr.buildSlice 24 1 #[(0, .agg (hdA a))]).run Try.prog w = .ok (.slice (some ⟨w.heap.size, 0, none⟩) 1 1) (w.alloc (.cells ([a].flatMap kH.E).toArray 26)) := by kernel_rfl
theorem bsH2 (a b : Hd) (w : World) : (Instr.buildSlice 24 2 #[(0, .agg (hdA a)), (1, .agg (hdA b))]).run Try.prog w = .ok (.slice (some ⟨w.heap.size, 0, none⟩) 2 2) (w.alloc (.cells ([a, b].flatMap kH.E).toArray 26)) := by kernel_rfl
theorem bsD (a : Hd) (w : World) : (Instr.buildSlice 30 1 #[(0, .agg (hdA a))]).run Try.prog w = .ok (.slice (some ⟨w.heap.size, 0, none⟩) 1 1) (w.alloc (.cells ([a].flatMap kH.E).toArray 28)) := by kernel_rfl
theorem bdH01 (n : Int) (i : Nat) (w : World) : (Instr.build 26 #[(0, .int .i64 n), (1, .agg (idA i))]).run Try.prog w = .ok (.agg (hdA (mkH n i 0))) w := by kernel_rfl
theorem bdH012 (n : Int) (i : Nat) (f : Int) (w : World) : (Instr.build 26 #[(0, .int .i64 n), (1, .agg (idA i)), (2, .int .i64 f)]).run Try.prog w = .ok (.agg (hdA (mkH n i f))) w := by kernel_rfl
theorem bdD01 (n : Int) (i : Nat) (w : World) : (Instr.build 28 #[(0, .int .i64 n), (1, .agg (idA i))]).run Try.prog w = .ok (.agg (hdA (mkH n i 0))) w := by kernel_rfl
theorem bdD012 (n : Int) (i : Nat) (f : Int) (w : World) : (Instr.build 28 #[(0, .int .i64 n), (1, .agg (idA i)), (2, .int .i64 f)]).run Try.prog w = .ok (.agg (hdA (mkH n i f))) w := by kernel_rfl

/-- A region in whatever order with new blocks, the frame written out by the caller. -/
def opsA2 (P : Program) (ops : Array Oper) (posts : List PostS) (A : (Nat → Value) → Act) (w0 : World) : Nat → List Oper → Prop
  | _, [] => True
  | i, o :: r => (∀ ptrs L w, Gro w0 w → newsHold2 L w0.heap.size posts ptrs w (edges o) → L i = false → OpOK2 P ops (postAt2 posts i) (postAt2 posts (postAt2 posts i).other) (ptrs (postAt2 posts i).other) o (A ptrs) w) ∧ opsA2 P ops posts A w0 (i + 1) r
theorem opsA2_nil {P : Program} {ops : Array Oper} {posts : List PostS} {A : (Nat → Value) → Act} {w0 : World} {i : Nat} : opsA2 P ops posts A w0 i [] := trivial
theorem opsA2_cons {P : Program} {ops : Array Oper} {posts : List PostS} {A : (Nat → Value) → Act} {w0 : World} {i : Nat} {o : Oper} {r : List Oper}
    (h : ∀ ptrs L w, Gro w0 w → newsHold2 L w0.heap.size posts ptrs w (edges o) → L i = false → OpOK2 P ops (postAt2 posts i) (postAt2 posts (postAt2 posts i).other) (ptrs (postAt2 posts i).other) o (A ptrs) w) (hr : opsA2 P ops posts A w0 (i + 1) r) : opsA2 P ops posts A w0 i (o :: r) := ⟨h, hr⟩
theorem ops2_of_A {P : Program} {ops : Array Oper} {posts : List PostS} {a0 : Act} {D : List (Nat × Nat)} {w0 : World} : ∀ (l : List Oper) (i : Nat), opsA2 P ops posts (fun ptrs => full a0 D (filled2 posts ptrs)) w0 i l → opsOK2 P ops posts a0 D w0 i l
  | [], _, _ => trivial
  | _ :: r, i, h => ⟨h.1, ops2_of_A r (i + 1) h.2⟩
theorem wp_region_g2A {P : Program} {id : Nat} {l : List Oper} {Q : Exit → Act → World → Prop} {a0 : Act} {w : World} {A : (Nat → Value) → Act} (n : Nat) (D : List (Nat × Nat)) (posts : List PostS) (hm : P.follows .mixedOrders = true)
    (hB : growB l.toArray n D = true) (hP : postsB l.toArray n (postAt2 posts) = true) (hsz : (D.all fun p => decide (p.2 < a0.tmps.size)) = true)
    (hA : ∀ ptrs, full a0 D (filled2 posts ptrs) = A ptrs)
    (hop : opsA2 P l.toArray posts A w.drew 0 (l.take n))
    (hrest : ∀ ptrs L w', Gro w.drew w' → (∀ i, L i = decide (i < n)) → newsHold2 L w.heap.size posts ptrs w' (List.range n) → newsApart2 posts ptrs n → wpList P l.toArray Q (l.drop n) (A ptrs) w') :
    (Code.region id l.toArray true).wp P Q a0 w := by
  have e : A = fun ptrs => full a0 D (filled2 posts ptrs) := funext fun ptrs => (hA ptrs).symm
  subst e
  exact wp_region_grow2 n D posts hm hB hP hsz (ops2_of_A _ _ hop) hrest
theorem apart_two {posts : List PostS} {ptrs : Nat → Value} {n i j : Nat} (h : newsApart2 posts ptrs n) (hf : ((List.range n).filter fun i => (postAt2 posts i).kind == 1) = [i, j]) : ptrs i ≠ ptrs j := by
  unfold newsApart2 at h
  rw [hf] at h
  exact (List.pairwise_cons.1 h).1 j (by simp)
section
variable {w : World} {ao : Option Addr} {cap B g : Nat}
theorem RK.neG {α : Type} {K : Kd α} {l : List α} (h : RK K w ao cap l) (c : w.heap.size ≤ g) : NE ao (l.flatMap K.E).length g := fun ad ha h0 => by
  have := h.lt ad ha h0
  omega
theorem OW.neG {α : Type} {K : Kd α} {e : TypeId} {l : List α} (h : OW K e w B ao cap l) (c : w.heap.size ≤ g) : g ∉ Go.Proofs.Ytljihaihhnamfaa.blk ao := fun hm => by
  have := h.own.lt g hm
  omega
end
theorem hav_vals {posts : List PostE} {n e0 : Nat} {w0 : World} {S : List Nat} (X : List Nat) (hS : ((List.range n).all fun j => j == e0 || X.contains j) = true) (hv : allVal posts X) : ∀ j, j < n → j ≠ e0 → ∀ v a b, Gro w0 a → GroS S a b → (postE posts j).p v a → (postE posts j).p v b := fun j hj hne v a b _ _ hp => by
  have h1 := List.all_eq_true.1 hS j (List.mem_range.2 hj)
  rw [Bool.or_eq_true] at h1
  rcases h1 with h1 | h1
  · exact absurd (by simpa using h1) hne
  · obtain ⟨u, hu⟩ := allVal_at hv j (by simpa using h1)
    rw [hu] at hp ⊢
    exact hp
theorem opX_stS {P : Program} {ops : Array Oper} {o : Oper} {A : Act} {w : World} (kk : PostE) (hw : Region.wanted o (yielded ops A.tmps) = true) (ty : TypeId) (x y : Operand) (ho : o.op = .store ty x y) (g : Nat) (hx : A.eval x = .pointer (some ⟨g, 0, none⟩)) (cs : Array Value) (hy : A.eval y = .agg cs) (t : TypeId) (old : Array Value) (hg : w.heap[g]? = some (.cells old t (0, 0)))
    (hi : (P.info? ty).map (·.size) = some cs.size) (hle : old.size = cs.size) (h1 : cs.all (·.oneCell') = true) (H : ∀ w', w'.heap[g]? = some (.cells cs t (0, 0)) → kk.p undef w') : OpX P ops (fun z => GroS [g] w z) kk o A w := by
  refine ⟨hw, ?_⟩
  have he : (execOp A.eval o).run P w = .ok .skip (w.setRow g (splice old 0 cs)) := by
    unfold execOp
    simp only [ho, hx, hy, Instr.storeAt, Instr.sureAddr, Sem.run_bind, Sem.run_pure, Result.andThen_ok, run_storeVar_at w g 0 t ty old (.agg cs) hg hi (by show 0 + cs.size ≤ _; omega) h1]
    rfl
  rw [he, splice_whole old cs hle]
  have St := stored_setRow cs hg
  exact ⟨St.gros, H _ St.new⟩
end Go.Proofs.Ytljihaihhnamfaa
