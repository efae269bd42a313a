/- Rows of whatever kind; candidates, keys, identities in memory. -/
import Derived.Test.YtfabgonoonanfaaEQ1
import Derived.Test.YtfabgonoonanfaaEBase
import Derived.Test.YtfabgonoonanfaaELaw10
import Derived.Test.YtfabgonoonanfaaEW6
import Derived.Test.YtfabgonoonanfaaELaw2
import Derived.Test.YtfabgonoonanfaaEG2
namespace Go.Proofs.Ytfabgonoonanfaa
open Go.RowKit
theorem idA_len (n : Nat) : (idA n).toList.length = 16 := by simp [idA]
theorem idL_one (n : Nat) : ∀ v ∈ (idA n).toList, v.oneCell' = true := fun v hv => Array.all_eq_true_iff_forall_mem.1 (idA_one n) v (by simpa using hv)
theorem idA_fit (a b : Nat) : 0 + (idA a).size ≤ (idA b).size := by rw [idA_size, idA_size]; exact Nat.le_refl _
theorem idA_sz (a b : Nat) : (idA a).size = (idA b).size := (idA_size a).trans (idA_size b).symm
theorem na2 (w : World) : (isAgg 2).run Try.prog w = .ok false w := by kernel_rfl
theorem na24 (w : World) : (isAgg 24).run Try.prog w = .ok false w := by kernel_rfl
theorem na25 (w : World) : (isAgg 25).run Try.prog w = .ok false w := by kernel_rfl
theorem na49 (w : World) : (isAgg 49).run Try.prog w = .ok false w := by kernel_rfl
theorem na68 (w : World) : (isAgg 68).run Try.prog w = .ok false w := by kernel_rfl
theorem beq_dec (a b : Int) : (a == b) = decide (a = b) := rfl
theorem eqI_id (d : Nat) (a b : Nat) (ha : a < top) (hb : b < top) (w : World) : (Op.equalIn (d + 1 + 1) 23 (.agg (idA a)) (.agg (idA b))).run Try.prog w = .ok (decide (a = b)) w := by
  refine run_equalIn_row _ 23 5 16 Try.underlying23 w (Try.sizeOf5 w) (idA a) (idA b) (fun i => .int .u8 (byt a i)) (fun i => .int .u8 (byt b i)) (fun i => (byt a i : Int) == byt b i)
    (fun i hi => part_id a i hi w) (fun i hi => part_id b i hi w) (fun i _ => run_equalIn_int w _ 5 .u8 .u8 _ _ Try.underlying5) _ ?_
  rw [decide_eq_true_iff]
  constructor
  · rintro rfl i _; simp
  · intro h
    exact eq_of_bytes ha hb fun i hi => by have := h i hi; simp at this; omega
theorem run_cmpA {o : Oper} {A : Act} {w : World} (op : BinOp) (t : TypeId) (x y : Operand) (t2 : TypeId) (ho : o.op = .binOp op t x y t2) (c d : Array Value) (hx : A.eval x = .agg c) (hy : A.eval y = .agg d) (hm : Try.prog.eqGuardType Try.prog.depth t = false) (v : Value) (h : (binOp op t (.agg c) (.agg d)).run Try.prog w = .ok v w) : (execOp A.eval o).run Try.prog w = .ok (.value v) w :=
  run_binop op t x y t2 ho _ _ _ hx hy (run_eqGuard_agg w op t x y c d hm) h
section
variable {o : Oper} {A : Act} {w : World}
theorem run_eqI (x y : Operand) (t2 : TypeId) (ho : o.op = .binOp .eql 23 x y t2) (n m : Nat) (hx : A.eval x = .agg (idA n)) (hy : A.eval y = .agg (idA m)) (hn : n < top) (hm : m < top) (p : Bool) (hp : decide (n = m) = p) :
    (execOp A.eval o).run Try.prog w = .ok (.value (.bool p)) w := by
  subst hp
  exact run_eqlop_id x y t2 ho n m hx hy _ (fun w => run_eql_id n m hn hm w) w
theorem run_neI (x y : Operand) (t2 : TypeId) (ho : o.op = .binOp .neq 23 x y t2) (n m : Nat) (hx : A.eval x = .agg (idA n)) (hy : A.eval y = .agg (idA m)) (hn : n < top) (hm : m < top) (p : Bool) (hp : decide (n = m) = !p) :
    (execOp A.eval o).run Try.prog w = .ok (.value (.bool p)) w := by
  have : p = !decide (n = m) := by rw [hp]; simp
  subst this
  exact run_eqlop_id x y t2 ho n m hx hy _ (fun w => run_neq_id n m hn hm w) w
end
section
variable {α : Type} {enc : α → List Value} {sz : Nat}
theorem flx_len (h : ∀ x, (enc x).length = sz) : ∀ l : List α, (l.flatMap enc).length = l.length * sz
  | [] => by simp
  | n :: l => by rw [List.flatMap_cons, List.length_append, h, flx_len h l, List.length_cons, Nat.add_mul, Nat.one_mul, Nat.add_comm]
theorem flx_drop (h : ∀ x, (enc x).length = sz) : ∀ (i : Nat) (l : List α), (l.flatMap enc).drop (i * sz) = (l.drop i).flatMap enc
  | 0, l => by simp
  | i + 1, [] => by simp
  | i + 1, n :: l => by
    rw [List.flatMap_cons, List.drop_succ_cons, ← flx_drop h i l, show (i + 1) * sz = (enc n).length + i * sz by rw [h, Nat.add_mul, Nat.one_mul, Nat.add_comm], List.drop_length_add_append]
theorem flx_take (h : ∀ x, (enc x).length = sz) : ∀ (i : Nat) (l : List α), (l.flatMap enc).take (i * sz) = (l.take i).flatMap enc
  | 0, l => by simp
  | i + 1, [] => by simp
  | i + 1, n :: l => by
    rw [List.flatMap_cons, List.take_succ_cons, List.flatMap_cons, ← flx_take h i l, show (i + 1) * sz = (enc n).length + i * sz by rw [h, Nat.add_mul, Nat.one_mul, Nat.add_comm], List.take_length_add_append]
theorem flx_at (h : ∀ x, (enc x).length = sz) (z : α) (l : List α) (j : Nat) (hj : j < l.length) : (l.flatMap enc).drop (j * sz) = enc (l.getD j z) ++ (l.drop (j + 1)).flatMap enc := by
  rw [flx_drop h, List.drop_eq_getElem_cons hj, List.flatMap_cons]
  simp [List.getD_eq_getElem?_getD, hj]
theorem flx_el (h : ∀ x, (enc x).length = sz) (z : α) (l : List α) (j : Nat) (hj : j < l.length) (q k : Nat) (hq : q + k ≤ sz) : ((l.flatMap enc).drop (j * sz + q)).take k = ((enc (l.getD j z)).drop q).take k := by
  rw [← List.drop_drop, flx_at h z l j hj, List.drop_append_of_le_length (by rw [h]; omega), List.take_append_of_le_length (by rw [List.length_drop, h]; omega)]
theorem flx_cell (h : ∀ x, (enc x).length = sz) (z : α) (l : List α) (j : Nat) (hj : j < l.length) (q : Nat) (hq : q < sz) : (l.flatMap enc)[j * sz + q]? = (enc (l.getD j z))[q]? := by
  have := flx_at h z l j hj
  rw [← List.getElem?_drop, this, List.getElem?_append_left (by rw [h]; exact hq)]
end
section
variable {P : Program} {o : Oper} {A : Act} {w : World} {sz cap n : Nat} {cs : List Value} {ad : Addr}
theorem run_ldXa (ty : TypeId) (d : TypeDesc) (hu : P.underlying ty = some d) (hd : (match d with | .struct _ | .array _ _ => true | _ => false) = true) (k : Nat) (hi : (P.info? ty).map (·.size) = some k) (x : Operand) (ho : o.op = .load ty x) (q : Nat) (hx : A.eval x = .pointer (some (ad.add q))) (h : XC w sz (some ad) cap n cs) (hq : q + k ≤ cs.length) :
    (execOp A.eval o).run P w = .ok (.value (.agg ((cs.drop q).take k).toArray)) w := by
  have hlen : ((cs.drop q).take k).length = k := by rw [List.length_take, List.length_drop]; omega
  have hld : (loadCells (ad.add q) k).run P w = .ok ((cs.drop q).take k).toArray w := by
    have := run_loadCells_list (P := P) w (ad.add q) ((cs.drop q).take k) fun i v hv => by
      rw [List.getElem?_take] at hv
      split at hv
      · rw [List.getElem?_drop] at hv
        rw [add_add]
        exact h.cell ad rfl _ v hv
      · cases hv
    rwa [hlen] at this
  have hagg : (isAgg ty).run P w = .ok true w := by
    unfold isAgg
    rw [Sem.run_bind, run_underlying hu w]
    cases d <;> simp_all
  have hsz : (sizeOf ty).run P w = .ok k w := by
    cases e : P.info? ty with
    | none => rw [e] at hi; cases hi
    | some i =>
      rw [e] at hi
      cases hi
      simp [sizeOf, typeInfo, e]
  have hv : (loadVar ty (ad.add q)).run P w = .ok (.agg ((cs.drop q).take k).toArray) w := by
    simp [loadVar, hagg, hsz, hld]
  unfold execOp
  simp only [ho, hx, Instr.loadAt, Instr.sureAddr, Sem.run_bind, Sem.run_pure, Result.andThen_ok, hv]
theorem run_ldXc (ty : TypeId) (hu : (isAgg ty).run P w = .ok false w) (x : Operand) (ho : o.op = .load ty x) (q : Nat) (hx : A.eval x = .pointer (some (ad.add q))) (h : XC w sz (some ad) cap n cs) (v : Value) (hv : cs[q]? = some v) :
    (execOp A.eval o).run P w = .ok (.value v) w := by
  have hc := h.cell ad rfl q v hv
  unfold execOp
  simp only [ho, hx]
  simp [Instr.loadAt, Instr.sureAddr, Sem.run_bind, loadVar, hu, hc, go_sem]
theorem run_fdA (s : TypeId) (x : Operand) (i : Nat) (ho : o.op = .fieldAddr s x i) (hx : A.eval x = .pointer (some ad)) (r : Addr)
    (hf : (Instr.fieldAt s (.pointer (some ad)) i).run P w = .ok (.pointer (some r)) w) : (execOp A.eval o).run P w = .ok (.value (.pointer (some r))) w := by
  unfold execOp
  simp only [ho, hx, Sem.run_bind, hf, Result.andThen_ok, Sem.run_pure]
end
section
variable {P : Program} {o : Oper} {A : Act}
theorem run_addI (t : TypeId) (x y : Operand) (t2 : TypeId) (ho : o.op = .binOp .add t x y t2) (a b r : Int) (hx : A.eval x = .int .i64 a) (hy : A.eval y = .int .i64 b) (hr : a + b = r) (h1 : -9223372036854775808 ≤ r) (h2 : r < 9223372036854775808) (w : World) : (execOp A.eval o).run P w = .ok (.value (.int .i64 r)) w := by
  subst hr
  refine run_binop .add t x y t2 ho _ _ _ hx hy (by simp [eqGuard]) ?_
  simp [go_sem]
  exact wrap_in _ h1 h2
theorem run_subI (t : TypeId) (x y : Operand) (t2 : TypeId) (ho : o.op = .binOp .sub t x y t2) (a b r : Int) (hx : A.eval x = .int .i64 a) (hy : A.eval y = .int .i64 b) (hr : a - b = r) (h1 : -9223372036854775808 ≤ r) (h2 : r < 9223372036854775808) (w : World) : (execOp A.eval o).run P w = .ok (.value (.int .i64 r)) w := by
  subst hr
  refine run_binop .sub t x y t2 ho _ _ _ hx hy (by simp [eqGuard]) ?_
  simp [go_sem]
  exact wrap_in _ h1 h2
theorem run_minI (x y : Operand) (ats : Array TypeId) (ho : o.op = .call { callee := .builtin .min, args := #[x, y], argTypes := ats }) (n m : Int) (hx : A.eval x = .int .i64 n) (hy : A.eval y = .int .i64 m) (w : World) : (execOp A.eval o).run P w = .ok (.value (.int .i64 (min n m))) w := by
  unfold execOp
  simp only [ho, hx, hy, List.map_toArray, List.map_cons, List.map_nil, resolve, invoke]
  simp [builtin, Builtin.min_, Builtin.min2, go_sem]
  omega
theorem run_mkF {w : World} (f : FuncId) (x : Operand) (ho : o.op = .makeFunc (.func f) #[] #[x]) (v : Value) (hx : A.eval x = v) : (execOp A.eval o).run P w = .ok (.value (.func (.func f) #[] #[v])) w := by
  unfold execOp
  simp only [ho, List.map_toArray, List.map_cons, List.map_nil, hx]
  rfl
theorem run_callF {w : World} (c : Call) (f : FuncId) (cb : Array Value) (hen : ∀ args w, (callFunc f args).run P w = .ok (.enter f args) w) (ho : o.op = .call c) (x : Operand) (hc : c.callee = .value x) (hx : A.eval x = .func (.func f) #[] cb) :
    (execOp A.eval o).run P w = .ok (.enter f (c.args.map A.eval ++ cb)) w := by
  unfold execOp
  simp only [ho, resolve, hc, hx]
  simp [go_sem, hen, Deferred.ofValue]
variable {ops : Array Oper} {rest : List Oper} {T : List Value} {ds : List Deferred} {w : World} {Q : Exit → Act → World → Prop}
/-- A call of a function value. -/
theorem s_callF (dst : Nat) (hd : o.dst = some dst) (hgd : o.guard = none) (c : Call) (f : FuncId) (cb : Array Value) (hen : ∀ args w, (callFunc f args).run P w = .ok (.enter f args) w) (ho : o.op = .call c) (x : Operand) (hc : c.callee = .value x) (hx : (⟨T.toArray, ds⟩ : Act).eval x = .func (.func f) #[] cb) (xs : List Operand) (hxs : c.args = xs.toArray) (vs : List Value) (hvs : xs.map (Act.eval ⟨T.toArray, ds⟩) = vs)
    {v : Value} {R : World → Prop} (H : Calls P f (vs.toArray ++ cb) w fun e w' => e = .returned v ∧ R w')
    (h : ∀ w', R w' → wpList P ops Q rest ⟨(T.set dst v).toArray, ds⟩ w') : wpList P ops Q (o :: rest) ⟨T.toArray, ds⟩ w :=
  wpList_plain hgd fun _ hK => by
    unfold Oper.wp
    rw [run_callF c f cb hen ho x hc hx, hxs, List.map_toArray, hvs, Oper.upon_enter]
    refine H.mono fun e w' hR => ?_
    obtain ⟨rfl, hR⟩ := hR
    have := h w' hR
    rw [← put_list, ← hd] at this
    exact hK _ _ this
end
theorem Calls.bool {P : Program} {f : FuncId} {args : Array Value} {w : World} {R : World → World → Prop} {p q : Bool} (h : Calls P f args w fun e w' => e = .returned (.bool p) ∧ R w w') (e : p = q) : Calls P f args w fun e w' => e = .returned (.bool q) ∧ R w w' := e ▸ h
/-- Blocks of a row. -/
def NE (ao : Option Addr) (n g : Nat) : Prop := ∀ ad, ao = some ad → 0 < n → ad.block ≠ g
section
variable {w w' : World} {ao : Option Addr} {cap g : Nat}
theorem XC.st {sz n : Nat} {cs : List Value} {x : Obj} (h : XC w sz ao cap n cs) (St : Stored w w' g x) (hn : NE ao cs.length g) : XC w' sz ao cap n cs :=
  ⟨h.len, h.fit, h.bare, fun ad ha j v hv => (World.cell?_of_block (St.old _ (by rw [add_block]; exact hn ad ha (by have := (List.getElem?_eq_some_iff.1 hv).1; omega)))).trans (h.cell ad ha j v hv), h.one⟩
theorem Stored.gros {x : Obj} (St : Stored w w' g x) : GroS [g] w w' := ⟨St.os, St.tape, St.output, Nat.le_of_eq St.size.symm, fun k _ hk => St.old k (by simpa using hk)⟩
end
/-! ### Candidates and keys -/
def mkC (i : Nat) (l n : Int) (p : Pa) : Cd := ⟨i, l, n, p⟩
theorem mkC_ok {i : Nat} {l n : Int} {p : Pa} (h1 : i < top) (h2 : I64 l) (h3 : I64 n) (h4 : p.ok) : (mkC i l n p).ok := ⟨h1, h2, h3, h4⟩
def mkP (i : Nat) (n : Int) : Pa := ⟨i, n⟩
theorem mkP_ok {i : Nat} {n : Int} (h1 : i < top) (h2 : I64 n) : (mkP i n).ok := ⟨h1, h2⟩
def paL (x : Pa) : List Value := (idA x.who).toList ++ [.int .i64 x.n]
def paA (x : Pa) : Array Value := (paL x).toArray
def cdL (x : Cd) : List Value := (idA x.id).toList ++ ([.int .i64 x.leg, .int .i64 x.n] ++ paL x.p)
def cdA (x : Cd) : Array Value := (cdL x).toArray
theorem paL_len (x : Pa) : (paL x).length = 17 := by simp [paL, idA]
theorem paA_size (x : Pa) : (paA x).size = 17 := paL_len x
theorem cdL_len (x : Cd) : (cdL x).length = 35 := by simp [cdL, paL, idA]
theorem cdA_size (x : Cd) : (cdA x).size = 35 := cdL_len x
theorem paL_one (x : Pa) : ∀ v ∈ paL x, v.oneCell' = true := fun v hv => by
  rcases List.mem_append.1 hv with hv | hv
  · exact idL_one x.who v hv
  · rw [List.mem_singleton.1 hv]; rfl
theorem cdL_one (x : Cd) : ∀ v ∈ cdL x, v.oneCell' = true := fun v hv => by
  rcases List.mem_append.1 hv with hv | hv
  · exact idL_one x.id v hv
  rcases List.mem_append.1 hv with hv | hv
  · simp only [List.mem_cons, List.not_mem_nil, or_false] at hv
    rcases hv with rfl | rfl <;> rfl
  · exact paL_one x.p v hv
theorem cdA_one (x : Cd) : (cdA x).all (·.oneCell') = true := by
  rw [Array.all_eq_true_iff_forall_mem]
  exact fun v hv => cdL_one x v (by simpa [cdA] using hv)
theorem cdA_sz (a b : Cd) : (cdA a).size = (cdA b).size := (cdA_size a).trans (cdA_size b).symm
theorem cdA_fit (a b : Cd) : 0 + (cdA a).size ≤ (cdA b).size := by rw [cdA_size, cdA_size]; exact Nat.le_refl _
theorem aC_0 (x : Cd) : (cdA x).extract 0 (0 + 35) = cdA x := by kernel_rfl
theorem aC_i (x : Cd) : (cdA x).extract 0 (0 + 16) = idA x.id := by kernel_rfl
theorem aC_l (x : Cd) : (cdA x)[16]? = some (.int .i64 x.leg) := by kernel_rfl
theorem aC_n (x : Cd) : (cdA x)[17]? = some (.int .i64 x.n) := by kernel_rfl
theorem aC_p (x : Cd) : (cdA x).extract 18 (18 + 17) = paA x.p := by kernel_rfl
theorem aP_0 (x : Pa) : (paA x).extract 0 (0 + 17) = paA x := by kernel_rfl
theorem aP_w (x : Pa) : (paA x).extract 0 (0 + 16) = idA x.who := by kernel_rfl
theorem aP_n (x : Pa) : (paA x)[16]? = some (.int .i64 x.n) := by kernel_rfl
theorem dC_0 (x : Cd) : ((cdL x).drop 0).take 35 = (cdA x).toList := by kernel_rfl
theorem dC_i (x : Cd) : ((cdL x).drop 0).take 16 = (idA x.id).toList := by kernel_rfl
theorem dC_l (x : Cd) : (cdL x)[16]? = some (.int .i64 x.leg) := by kernel_rfl
theorem siC : (Try.prog.info? 33).map (·.size) = some 35 := by kernel_rfl
theorem siP : (Try.prog.info? 31).map (·.size) = some 17 := by kernel_rfl
theorem siC' (x : Cd) : (Try.prog.info? 33).map (·.size) = some (cdA x).size := by rw [cdA_size]; exact siC
theorem siCl (x : Cd) : (Try.prog.info? 33).map (·.size) = some (cdL x).length := by rw [cdL_len]; exact siC
theorem zeroC (w : World) : (zeroValue 33).run Try.prog w = .ok (.agg (cdA zC)) w := by rw [Try.zeroValue33]; kernel_rfl
theorem ldC0 {o : Oper} {A : Act} {w : World} {x : Cd} (y : Operand) (ho : o.op = .load 33 y) (g : Nat) (hx : A.eval y = .pointer (some ⟨g, 0, none⟩)) (hg : w.heap[g]? = some (.cells (cdA x) 33 (0, 0))) : (execOp A.eval o).run Try.prog w = .ok (.value (.agg (cdA x))) w :=
  run_lda 33 y ho g 0 35 hx 33 _ hg _ Try.underlying33 rfl siC (by rw [cdA_size]; decide) _ (aC_0 x)
theorem ldCi {o : Oper} {A : Act} {w : World} {x : Cd} (y : Operand) (ho : o.op = .load 23 y) (g : Nat) (hx : A.eval y = .pointer (some ⟨g, 0, none⟩)) (hg : w.heap[g]? = some (.cells (cdA x) 33 (0, 0))) : (execOp A.eval o).run Try.prog w = .ok (.value (.agg (idA x.id))) w :=
  run_lda 23 y ho g 0 16 hx 33 _ hg _ Try.underlying23 rfl size23 (by rw [cdA_size]; decide) _ (aC_i x)
theorem ldCl {o : Oper} {A : Act} {w : World} {x : Cd} (y : Operand) (ho : o.op = .load 3 y) (g : Nat) (hx : A.eval y = .pointer (some ⟨g, 16, none⟩)) (hg : w.heap[g]? = some (.cells (cdA x) 33 (0, 0))) : (execOp A.eval o).run Try.prog w = .ok (.value (.int .i64 x.leg)) w :=
  run_ldc 3 y ho g 16 hx 33 _ hg (na3 w) _ (aC_l x)
theorem ldCn {o : Oper} {A : Act} {w : World} {x : Cd} (y : Operand) (ho : o.op = .load 3 y) (g : Nat) (hx : A.eval y = .pointer (some ⟨g, 17, none⟩)) (hg : w.heap[g]? = some (.cells (cdA x) 33 (0, 0))) : (execOp A.eval o).run Try.prog w = .ok (.value (.int .i64 x.n)) w :=
  run_ldc 3 y ho g 17 hx 33 _ hg (na3 w) _ (aC_n x)
theorem ldCp {o : Oper} {A : Act} {w : World} {x : Cd} (y : Operand) (ho : o.op = .load 31 y) (g : Nat) (hx : A.eval y = .pointer (some ⟨g, 18, none⟩)) (hg : w.heap[g]? = some (.cells (cdA x) 33 (0, 0))) : (execOp A.eval o).run Try.prog w = .ok (.value (.agg (paA x.p))) w :=
  run_lda 31 y ho g 18 17 hx 33 _ hg _ Try.underlying31 rfl siP (by rw [cdA_size]; decide) _ (aC_p x)
theorem ldI0 {o : Oper} {A : Act} {w : World} {x : Nat} (y : Operand) (ho : o.op = .load 23 y) (g : Nat) (hx : A.eval y = .pointer (some ⟨g, 0, none⟩)) (hg : w.heap[g]? = some (.cells (idA x) 23 (0, 0))) : (execOp A.eval o).run Try.prog w = .ok (.value (.agg (idA x))) w :=
  run_lda 23 y ho g 0 16 hx 23 _ hg _ Try.underlying23 rfl size23 (by rw [idA_size]; decide) _ (extract_id x)
theorem ldP0 {o : Oper} {A : Act} {w : World} {x : Pa} (y : Operand) (ho : o.op = .load 31 y) (g : Nat) (hx : A.eval y = .pointer (some ⟨g, 0, none⟩)) (hg : w.heap[g]? = some (.cells (paA x) 31 (0, 0))) : (execOp A.eval o).run Try.prog w = .ok (.value (.agg (paA x))) w :=
  run_lda 31 y ho g 0 17 hx 31 _ hg _ Try.underlying31 rfl siP (by rw [paA_size]; decide) _ (aP_0 x)
theorem ldPw {o : Oper} {A : Act} {w : World} {x : Pa} (y : Operand) (ho : o.op = .load 23 y) (g : Nat) (hx : A.eval y = .pointer (some ⟨g, 0, none⟩)) (hg : w.heap[g]? = some (.cells (paA x) 31 (0, 0))) : (execOp A.eval o).run Try.prog w = .ok (.value (.agg (idA x.who))) w :=
  run_lda 23 y ho g 0 16 hx 31 _ hg _ Try.underlying23 rfl size23 (by rw [paA_size]; decide) _ (aP_w x)
theorem ldPn {o : Oper} {A : Act} {w : World} {x : Pa} (y : Operand) (ho : o.op = .load 2 y) (g : Nat) (hx : A.eval y = .pointer (some ⟨g, 16, none⟩)) (hg : w.heap[g]? = some (.cells (paA x) 31 (0, 0))) : (execOp A.eval o).run Try.prog w = .ok (.value (.int .i64 x.n)) w :=
  run_ldc 2 y ho g 16 hx 31 _ hg (na2 w) _ (aP_n x)
/-! ### Likeness -/
theorem fieldsP : Try.prog.fieldsOf 31 = #[{ name := "Who", type := 23, offset := 0, embedded := false, tag := "", pkgPath := "", byteOffset := 0 }, { name := "N", type := 2, offset := 16, embedded := false, tag := "", pkgPath := "", byteOffset := 16 }] := by kernel_rfl
theorem undP : Try.prog.underlying 31 = some (.struct (Try.prog.fieldsOf 31)) := by rw [fieldsP]; exact Try.underlying31
def eqP (x y : Pa) : Bool := decide (x.who = y.who) && decide (x.n = y.n)
theorem eqP_iff {x y : Pa} : eqP x y = true ↔ x = y := by
  obtain ⟨q1, q2⟩ := x
  obtain ⟨r1, r2⟩ := y
  simp [eqP]
theorem eqFP (d : Nat) (x y : Pa) (hx : x.ok) (hy : y.ok) (w : World) : (Op.equalIn (d + 1 + 1 + 1) 31 (.agg (paA x)) (.agg (paA y))).run Try.prog w = .ok (eqP x y) w := by
  have p1 : ∀ z : Pa, (part 23 (paA z) 0).run Try.prog w = .ok (.agg (idA z.who)) w := fun z => by kernel_rfl
  have p2 : ∀ z : Pa, (part 2 (paA z) 16).run Try.prog w = .ok (.int .i64 z.n) w := fun z => by kernel_rfl
  have h1 := eqI_id d x.who y.who hx.who hy.who w
  have h2 := run_equalIn_int (P := Try.prog) w (d + 1) 2 .i64 .i64 x.n y.n Try.underlying2
  rw [beq_dec] at h2
  have e : eqP x y = (decide (x.who = y.who) && decide (x.n = y.n)) := rfl
  rw [e, run_equalIn_struct w (d + 1 + 1) 31 _ _ undP (by kernel_rfl), fieldsP]
  clear e hx hy
  generalize decide (x.who = y.who) = P1 at *
  generalize decide (x.n = y.n) = P2 at *
  unfold Op.eqFields
  rw [if_pos (by decide), Sem.run_bind, p1, Result.andThen_ok, Sem.run_bind, p1, Result.andThen_ok, Sem.run_bind, h1, Result.andThen_ok]
  cases P1
  · rfl
  rw [if_neg (by decide)]
  unfold Op.eqFields
  rw [if_pos (by decide), Sem.run_bind, p2, Result.andThen_ok, Sem.run_bind, p2, Result.andThen_ok, Sem.run_bind, h2, Result.andThen_ok]
  cases P2 <;> rfl
def eqC (x y : Cd) : Bool := decide (x.id = y.id) && (decide (x.leg = y.leg) && (decide (x.n = y.n) && eqP x.p y.p))
theorem eqC_iff {x y : Cd} : eqC x y = true ↔ x = y := by
  obtain ⟨q1, q2, q3, q4⟩ := x
  obtain ⟨r1, r2, r3, r4⟩ := y
  simp [eqC, eqP_iff]
theorem eqC_self (x : Cd) : eqC x x = true := eqC_iff.2 rfl
theorem fieldsC : Try.prog.fieldsOf 33 = #[{ name := "ID", type := 23, offset := 0, embedded := false, tag := "", pkgPath := "", byteOffset := 0 }, { name := "Leg", type := 3, offset := 16, embedded := false, tag := "", pkgPath := "", byteOffset := 16 }, { name := "N", type := 3, offset := 17, embedded := false, tag := "", pkgPath := "", byteOffset := 24 }, { name := "P", type := 31, offset := 18, embedded := false, tag := "", pkgPath := "", byteOffset := 32 }] := by kernel_rfl
theorem undC : Try.prog.underlying 33 = some (.struct (Try.prog.fieldsOf 33)) := by rw [fieldsC]; exact Try.underlying33
theorem eqFC (d : Nat) (x y : Cd) (hx : x.ok) (hy : y.ok) (w : World) : (Op.equalIn (d + 1 + 1 + 1 + 1) 33 (.agg (cdA x)) (.agg (cdA y))).run Try.prog w = .ok (eqC x y) w := by
  have p1 : ∀ z : Cd, (part 23 (cdA z) 0).run Try.prog w = .ok (.agg (idA z.id)) w := fun z => by kernel_rfl
  have p2 : ∀ z : Cd, (part 3 (cdA z) 16).run Try.prog w = .ok (.int .i64 z.leg) w := fun z => by kernel_rfl
  have p3 : ∀ z : Cd, (part 3 (cdA z) 17).run Try.prog w = .ok (.int .i64 z.n) w := fun z => by kernel_rfl
  have p4 : ∀ z : Cd, (part 31 (cdA z) 18).run Try.prog w = .ok (.agg (paA z.p)) w := fun z => by kernel_rfl
  have h1 := eqI_id (d + 1) x.id y.id hx.id hy.id w
  have h2 := run_equalIn_int (P := Try.prog) w (d + 1 + 1) 3 .i64 .i64 x.leg y.leg Try.underlying3
  have h3 := run_equalIn_int (P := Try.prog) w (d + 1 + 1) 3 .i64 .i64 x.n y.n Try.underlying3
  have h4 := eqFP d x.p y.p hx.p hy.p w
  rw [beq_dec] at h2 h3
  have e : eqC x y = (decide (x.id = y.id) && (decide (x.leg = y.leg) && (decide (x.n = y.n) && eqP x.p y.p))) := rfl
  rw [e, run_equalIn_struct w (d + 1 + 1 + 1) 33 _ _ undC (by kernel_rfl), fieldsC]
  clear e hx hy
  generalize decide (x.id = y.id) = P1 at *
  generalize decide (x.leg = y.leg) = P2 at *
  generalize decide (x.n = y.n) = P3 at *
  generalize eqP x.p y.p = P4 at *
  unfold Op.eqFields
  rw [if_pos (by decide), Sem.run_bind, p1, Result.andThen_ok, Sem.run_bind, p1, Result.andThen_ok, Sem.run_bind, h1, Result.andThen_ok]
  cases P1
  · rfl
  rw [if_neg (by decide)]
  unfold Op.eqFields
  rw [if_pos (by decide), Sem.run_bind, p2, Result.andThen_ok, Sem.run_bind, p2, Result.andThen_ok, Sem.run_bind, h2, Result.andThen_ok]
  cases P2
  · rfl
  rw [if_neg (by decide)]
  unfold Op.eqFields
  rw [if_pos (by decide), Sem.run_bind, p3, Result.andThen_ok, Sem.run_bind, p3, Result.andThen_ok, Sem.run_bind, h3, Result.andThen_ok]
  cases P3
  · rfl
  rw [if_neg (by decide)]
  unfold Op.eqFields
  rw [if_pos (by decide), Sem.run_bind, p4, Result.andThen_ok, Sem.run_bind, p4, Result.andThen_ok, Sem.run_bind, h4, Result.andThen_ok]
  cases P4 <;> rfl
theorem run_eqC {o : Oper} {A : Act} {w : World} (x y : Operand) (t2 : TypeId) (ho : o.op = .binOp .eql 33 x y t2) (n m : Cd) (hx : A.eval x = .agg (cdA n)) (hy : A.eval y = .agg (cdA m)) (hn : n.ok) (hm : m.ok) (p : Bool) (hp : eqC n m = p) :
    (execOp A.eval o).run Try.prog w = .ok (.value (.bool p)) w := by
  subst hp
  exact run_cmpA .eql 33 x y t2 ho _ _ hx hy (by kernel_rfl) _ (by rw [run_eql_struct, eqFC 9996 n m hn hm w]; rfl)
/-! ### Rows of whatever -/
structure Kd (α : Type) where
  E : α → List Value
  sz : Nat
  ok : α → Prop
  z : α
  len : ∀ x, (E x).length = sz
  one : ∀ x, ∀ v ∈ E x, v.oneCell' = true
section
variable {α : Type}
/-- A row as it is read, and one's own. -/
structure RK (K : Kd α) (w : World) (ao : Option Addr) (cap : Nat) (l : List α) : Prop where
  xc : XC w K.sz ao cap l.length (l.flatMap K.E)
  all : ∀ x ∈ l, K.ok x
structure OW (K : Kd α) (e : TypeId) (w : World) (B : Nat) (ao : Option Addr) (cap : Nat) (l : List α) : Prop where
  own : OY w e K.sz B ao cap l.length (l.flatMap K.E)
  all : ∀ x ∈ l, K.ok x
variable {K : Kd α} {e : TypeId} {w w' : World} {ao : Option Addr} {cap B b g : Nat} {l : List α}
theorem fl_oneK : ∀ v ∈ l.flatMap K.E, v.oneCell' = true := fun v hv => by
  obtain ⟨n, _, hn⟩ := List.mem_flatMap.1 hv
  exact K.one n v hn
theorem RK.gro (h : RK K w ao cap l) (G : Gro w w') : RK K w' ao cap l := ⟨h.xc.gro G, h.all⟩
theorem RK.nil (w : World) : RK K w none 0 [] := ⟨XC.nil w K.sz, fun _ h => by cases h⟩
theorem RK.lt (h : RK K w ao cap l) : ∀ ad, ao = some ad → 0 < (l.flatMap K.E).length → ad.block < w.heap.size := h.xc.lt
theorem RK.ne (h : RK K w ao cap l) (e : w.heap.size = g) : NE ao (l.flatMap K.E).length g := fun ad ha h0 => by
  have := h.lt ad ha h0
  omega
theorem RK.st {x : Obj} (h : RK K w ao cap l) (St : Stored w w' g x) (hn : NE ao (l.flatMap K.E).length g) : RK K w' ao cap l := ⟨XC.st h.xc St hn, h.all⟩
theorem RK.gros {S : List Nat} (h : RK K w ao cap l) (G : GroS S w w') (hs : ∀ ad, ao = some ad → 0 < (l.flatMap K.E).length → ad.block ∉ S) : RK K w' ao cap l :=
  ⟨⟨h.xc.len, h.xc.fit, h.xc.bare, fun ad ha j v hv => by
    have h0 : 0 < (l.flatMap K.E).length := by have := (List.getElem?_eq_some_iff.1 hv).1; omega
    exact (World.cell?_of_block (by rw [add_block]; exact G.old _ (h.lt ad ha h0) (hs ad ha h0))).trans (h.xc.cell ad ha j v hv), h.xc.one⟩, h.all⟩
theorem RK.below (h : RK K w ao cap l) {B : Nat} (G : Below B w w') (hb : ∀ ad, ao = some ad → 0 < (l.flatMap K.E).length → ad.block < B) : RK K w' ao cap l := ⟨h.xc.below G hb, h.all⟩
theorem RK.at (h : RK K w ao cap l) {j : Nat} (hj : j < l.length) : K.ok (l.getD j K.z) := by
  have : l.getD j K.z = l[j] := by simp [List.getD_eq_getElem?_getD, hj]
  rw [this]
  exact h.all _ (List.getElem_mem hj)
theorem RK.blk {t : TypeId} {fr : Nat × Nat} (hg : w.heap[g]? = some (.cells (l.flatMap K.E).toArray t fr)) (hl : ∀ x ∈ l, K.ok x) (hc : l.length ≤ cap) : RK K w (some ⟨g, 0, none⟩) cap l := by
  refine ⟨⟨flx_len K.len _, hc, fun h => (by cases h), fun ad ha j v hv => ?_, fl_oneK⟩, hl⟩
  cases ha
  rw [add_at, Nat.zero_add, cell_of_row w g j _ t _ hg]
  simpa using hv
theorem OW.re (h : OW K e w B ao cap l) : RK K w ao cap l := ⟨h.own.xc, h.all⟩
theorem OW.gro (h : OW K e w B ao cap l) (G : Gro w w') : OW K e w' B ao cap l := ⟨h.own.gro G, h.all⟩
theorem OW.nil (w : World) (B : Nat) : OW K e w B none 0 [] := ⟨OY.nil w e K.sz B, fun _ h => by cases h⟩
theorem OW.mono (h : OW K e w B ao cap l) {B' : Nat} (hB : B' ≤ B) : OW K e w B' ao cap l := ⟨h.own.mono hB, h.all⟩
theorem OW.gros {S : List Nat} (h : OW K e w B ao cap l) (G : GroS S w w') (hs : ∀ k ∈ Go.Proofs.Ytfabgonoonanfaa.blk ao, k ∉ S) : OW K e w' B ao cap l := ⟨h.own.gros G hs, h.all⟩
theorem OW.ne (h : OW K e w B ao cap l) (e : w.heap.size = g) : g ∉ Go.Proofs.Ytfabgonoonanfaa.blk ao := fun hm => by
  have := h.own.lt g hm
  omega
theorem OW.st {x : Obj} (h : OW K e w B ao cap l) (St : Stored w w' g x) (hn : g ∉ Go.Proofs.Ytfabgonoonanfaa.blk ao) : OW K e w' B ao cap l := h.gros St.gros fun k hk hm => hn (by rw [List.mem_singleton] at hm; exact hm ▸ hk)
theorem OW.blk (hg : w.heap[g]? = some (.cells (l.flatMap K.E).toArray e (0, 0))) (hl : ∀ x ∈ l, K.ok x) (hB : B ≤ g) (hm : l.length ≤ 1000000) : OW K e w B (some ⟨g, 0, none⟩) l.length l :=
  ⟨⟨flx_len K.len l, .inr ⟨g, 0, _, rfl, hB, hg, Nat.le_refl _, by unfold maxLen; omega, by simp only [List.size_toArray, flx_len K.len]; omega, by simp only [List.drop_zero]; rw [← flx_len K.len l]; exact List.take_length⟩, fl_oneK⟩, hl⟩
/-- A call that answers a new row. -/
def RowK (K : Kd α) (e : TypeId) (w : World) (L : List α) (x : Ending) (w' : World) : Prop := ∃ ao cap, x = .returned (.slice ao L.length cap) ∧ Gro w w' ∧ OW K e w' w.heap.size ao cap L
/-- A row that an operation of a region makes. -/
def rowK (K : Kd α) (L : List α) : PostE := PostE.ex (fun v x => ∃ ao cap, v = .slice ao L.length cap ∧ RK K x ao cap L) (fun _ _ _ G ⟨a, c, h1, h2⟩ => ⟨a, c, h1, h2.gro G⟩)
theorem fill_rowK (L : List α) (v : Value) : (rowK K L).fill v = v := rfl
/-- Where a part of an element stands. -/
def pK (K : Kd α) (ao : Option Addr) (j q : Nat) : Option Addr := ao.map (·.add (j * K.sz + q))
variable {o : Oper} {A : Act} {t s : TypeId} {z : Value}
theorem run_ixK (R : RowT Try.prog t e K.sz s z) (h : RK K w ao cap l) (x y : Operand) (ho : o.op = .indexAddr t x y) (hx : A.eval x = .slice ao l.length cap) (j : Nat) (hy : A.eval y = .int .i64 (j : Int)) (hj : j < l.length) :
    (execOp A.eval o).run Try.prog w = .ok (.value (.pointer (pK K ao j 0))) w := by
  obtain ⟨ad, rfl⟩ := h.xc.some (by omega)
  exact run_idxX R x y ho ad _ _ j hx hy hj w
theorem el_fitK {j q k : Nat} (hj : j < l.length) (hq : q + k ≤ K.sz) : j * K.sz + q + k ≤ (l.flatMap K.E).length := by
  rw [flx_len K.len]
  have := Nat.mul_le_mul_right K.sz (show j + 1 ≤ l.length from hj)
  rw [Nat.add_mul, Nat.one_mul] at this
  omega
theorem run_ldK (h : RK K w ao cap l) (ty : TypeId) (d : TypeDesc) (hu : Try.prog.underlying ty = some d) (hd : (match d with | .struct _ | .array _ _ => true | _ => false) = true) (q k : Nat) (hi : (Try.prog.info? ty).map (·.size) = some k) (hq : q + k ≤ K.sz) (x : Operand) (ho : o.op = .load ty x) (j : Nat) (hx : A.eval x = .pointer (pK K ao j q)) (hj : j < l.length) (v : Array Value) (hv : ((K.E (l.getD j K.z)).drop q).take k = v.toList) :
    (execOp A.eval o).run Try.prog w = .ok (.value (.agg v)) w := by
  obtain ⟨ad, rfl⟩ := h.xc.some (by omega)
  rw [run_ldXa ty d hu (by cases d <;> first | rfl | cases hd) k hi x ho (j * K.sz + q) hx h.xc (el_fitK hj hq), flx_el K.len K.z l j hj q k hq, hv]
theorem run_ldKc (h : RK K w ao cap l) (ty : TypeId) (hu : (isAgg ty).run Try.prog w = .ok false w) (q : Nat) (hq : q < K.sz) (x : Operand) (ho : o.op = .load ty x) (j : Nat) (hx : A.eval x = .pointer (pK K ao j q)) (hj : j < l.length) (v : Value) (hv : (K.E (l.getD j K.z))[q]? = some v) :
    (execOp A.eval o).run Try.prog w = .ok (.value v) w := by
  obtain ⟨ad, rfl⟩ := h.xc.some (by omega)
  exact run_ldXc ty hu x ho (j * K.sz + q) hx h.xc _ (by rw [flx_cell K.len K.z l j hj q hq, hv])
theorem run_fdK (h : RK K w ao cap l) (ty : TypeId) (x : Operand) (i q : Nat) (hf : ∀ ad, (Instr.fieldAt ty (.pointer (some ad)) i).run Try.prog w = .ok (.pointer (some (ad.add q))) w) (ho : o.op = .fieldAddr ty x i) (j : Nat) (hx : A.eval x = .pointer (pK K ao j 0)) (hj : j < l.length) :
    (execOp A.eval o).run Try.prog w = .ok (.value (.pointer (pK K ao j q))) w := by
  obtain ⟨ad, rfl⟩ := h.xc.some (by omega)
  have := hf (ad.add (j * K.sz + 0))
  rw [add_add, Nat.add_zero] at this
  exact run_fdA ty x i ho hx _ this
variable {ops : Array Oper} {rest : List Oper} {T : List Value} {ds : List Deferred} {Q : Exit → Act → World → Prop}
/-- Onto one's own row. -/
theorem s_appK (R : RowT Try.prog t e K.sz s z) (hs1 : 0 < s) (dst : Nat) (hd : o.dst = some dst) (hgd : o.guard = none) (a x : Operand) (ho : o.op = .call { callee := .builtin .append, args := #[a, x], argTypes := #[t, t] })
    (hs : (⟨T.toArray, ds⟩ : Act).eval a = .slice ao l.length cap) (hown : OW K e w B ao cap l)
    {ao' : Option Addr} {cap' : Nat} {l' : List α} (hx : (⟨T.toArray, ds⟩ : Act).eval x = .slice ao' l'.length cap') (hsrc : RK K w ao' cap' l') (hb : (l.length + l'.length) * s ≤ 140737488355328) (hB : B ≤ w.heap.size)
    (h : ∀ ao2 cap2 w', OW K e w' B ao2 cap2 (l ++ l') → GroS (Go.Proofs.Ytfabgonoonanfaa.blk ao) w w' → Kept w.heap.size ao ao2 → wpList Try.prog ops Q rest ⟨(T.set dst (.slice ao2 (l ++ l').length cap2)).toArray, ds⟩ w') : wpList Try.prog ops Q (o :: rest) ⟨T.toArray, ds⟩ w := by
  refine s_appY R dst hd hgd a x ho hs hown.own hx hsrc.xc hb hs1 hB ?_
  intro ao2 cap2 w' h1 h2 h3
  rw [← List.flatMap_append, ← List.length_append] at h1
  have := h ao2 cap2 w' ⟨h1, fun x hx => (List.mem_append.1 hx).elim (hown.all x) (hsrc.all x)⟩ h2 h3
  rw [List.length_append] at this
  exact this
end
theorem one_all {α : Type} {p : α → Prop} {x : α} (h : p x) : ∀ y ∈ [x], p y := fun y hy => by rw [List.mem_singleton.1 hy]; exact h
/-- A region's call of a function value. -/
theorem opE_callF {ops : Array Oper} {o : Oper} {A : Act} {w : World} (k : PostE) (hw : Region.wanted o (yielded ops A.tmps) = true) (c : Call) (f : FuncId) (cb : Array Value) (hen : ∀ args w, (callFunc f args).run Try.prog w = .ok (.enter f args) w) (ho : o.op = .call c) (x : Operand) (hc : c.callee = .value x) (hx : A.eval x = .func (.func f) #[] cb) (xs : List Operand) (hxs : c.args = xs.toArray) (vs : List Value) (hvs : xs.map A.eval = vs)
    (H : Calls Try.prog f (vs.toArray ++ cb) w fun e w' => ∃ v, e = .returned v ∧ Gro w w' ∧ k.p v w') : OpE Try.prog ops k o A w :=
  ⟨by rw [if_pos hw, run_callF c f cb hen ho x hc hx, hxs, List.map_toArray, hvs]; exact H⟩
theorem sl_one (ao : Option Addr) (n cap : Nat) : (#[Value.slice ao n cap]).all (·.oneCell') = true := by kernel_rfl
def kI : Kd Nat := ⟨fun n => (idA n).toList, 16, fun n => n < top, 0, idA_len, idL_one⟩
def kC : Kd Cd := ⟨cdL, 35, Cd.ok, zC, cdL_len, cdL_one⟩
theorem rIk : RowT Try.prog 24 23 kI.sz 16 (.agg (idA 0)) := ⟨Try.underlying24, info_of (by kernel_rfl), idA_size 0, by decide⟩
theorem rC : RowT Try.prog 25 33 kC.sz 56 (.agg (cdA zC)) := ⟨Try.underlying25, info_of (by kernel_rfl), cdA_size zC, by decide⟩
section
variable {o : Oper} {A : Act} {w : World} {ao : Option Addr} {cap : Nat}
theorem run_ldKC {l : List Cd} (h : RK kC w ao cap l) (x : Operand) (ho : o.op = .load 33 x) (j : Nat) (hx : A.eval x = .pointer (pK kC ao j 0)) (hj : j < l.length) : (execOp A.eval o).run Try.prog w = .ok (.value (.agg (cdA (l.getD j zC)))) w :=
  run_ldK h 33 _ Try.underlying33 rfl 0 35 siC (by decide) x ho j hx hj _ (dC_0 _)
theorem run_ldKCi {l : List Cd} (h : RK kC w ao cap l) (x : Operand) (ho : o.op = .load 23 x) (j : Nat) (hx : A.eval x = .pointer (pK kC ao j 0)) (hj : j < l.length) : (execOp A.eval o).run Try.prog w = .ok (.value (.agg (idA (l.getD j zC).id))) w :=
  run_ldK h 23 _ Try.underlying23 rfl 0 16 size23 (by decide) x ho j hx hj _ (dC_i _)
theorem run_ldKCl {l : List Cd} (h : RK kC w ao cap l) (x : Operand) (ho : o.op = .load 3 x) (j : Nat) (hx : A.eval x = .pointer (pK kC ao j 16)) (hj : j < l.length) : (execOp A.eval o).run Try.prog w = .ok (.value (.int .i64 (l.getD j zC).leg)) w :=
  run_ldKc h 3 (na3 w) 16 (by decide) x ho j hx hj _ (dC_l _)
theorem run_ldKI {l : List Nat} (h : RK kI w ao cap l) (x : Operand) (ho : o.op = .load 23 x) (j : Nat) (hx : A.eval x = .pointer (pK kI ao j 0)) (hj : j < l.length) : (execOp A.eval o).run Try.prog w = .ok (.value (.agg (idA (l.getD j 0)))) w :=
  run_ldK h 23 _ Try.underlying23 rfl 0 16 size23 (by decide) x ho j hx hj _ (by show ((idA _).toList.drop 0).take 16 = _; rw [List.drop_zero, List.take_of_length_le (by rw [idA_len]; exact Nat.le_refl _)]; rfl)
theorem fdC_0 (w : World) (ad : Addr) : (Instr.fieldAt 33 (.pointer (some ad)) 0).run Try.prog w = .ok (.pointer (some (ad.add 0))) w := by kernel_rfl
theorem fdC_1 (w : World) (ad : Addr) : (Instr.fieldAt 33 (.pointer (some ad)) 1).run Try.prog w = .ok (.pointer (some (ad.add 16))) w := by kernel_rfl
end
theorem bsC (a : Cd) (w : World) : (Instr.buildSlice 25 1 #[(0, .agg (cdA a))]).run Try.prog w = .ok (.slice (some ⟨w.heap.size, 0, none⟩) 1 1) (w.alloc (.cells ([a].flatMap kC.E).toArray 33)) := by kernel_rfl
theorem bsC3 (a b c : Cd) (w : World) : (Instr.buildSlice 25 3 #[(0, .agg (cdA a)), (1, .agg (cdA b)), (2, .agg (cdA c))]).run Try.prog w = .ok (.slice (some ⟨w.heap.size, 0, none⟩) 3 3) (w.alloc (.cells ([a, b, c].flatMap kC.E).toArray 33)) := by kernel_rfl
theorem bsI (a : Nat) (w : World) : (Instr.buildSlice 24 1 #[(0, .agg (idA a))]).run Try.prog w = .ok (.slice (some ⟨w.heap.size, 0, none⟩) 1 1) (w.alloc (.cells ([a].flatMap kI.E).toArray 23)) := by kernel_rfl
theorem bdC013 (i : Nat) (l : Int) (p : Pa) (w : World) : (Instr.build 33 #[(0, .agg (idA i)), (1, .int .i64 l), (3, .agg (paA p))]).run Try.prog w = .ok (.agg (cdA (mkC i l 0 p))) w := by kernel_rfl
theorem bdC02 (i : Nat) (n : Int) (w : World) : (Instr.build 33 #[(0, .agg (idA i)), (2, .int .i64 n)]).run Try.prog w = .ok (.agg (cdA (mkC i 0 n zP))) w := by kernel_rfl
theorem bdC012 (i : Nat) (l n : Int) (w : World) : (Instr.build 33 #[(0, .agg (idA i)), (1, .int .i64 l), (2, .int .i64 n)]).run Try.prog w = .ok (.agg (cdA (mkC i l n zP))) w := by kernel_rfl
theorem bdP1 (n : Int) (w : World) : (Instr.build 31 #[(1, .int .i64 n)]).run Try.prog w = .ok (.agg (paA (mkP 0 n))) w := by kernel_rfl
/-! ### Stores into rows -/
/-- Some of a list written over. -/
def spl {α : Type} (l : List α) (j : Nat) (vs : List α) : List α := l.take j ++ (vs ++ l.drop (j + vs.length))
theorem spl_get {α : Type} (l : List α) (j : Nat) (vs : List α) (h : j + vs.length ≤ l.length) (i : Nat) : (spl l j vs)[i]? = if i < j then l[i]? else if i < j + vs.length then vs[i - j]? else l[i]? := by
  unfold spl
  have h1 : (l.take j).length = j := by rw [List.length_take]; omega
  by_cases c1 : i < j
  · rw [if_pos c1, List.getElem?_append_left (by omega), List.getElem?_take, if_pos c1]
  · rw [if_neg c1, List.getElem?_append_right (by omega), h1]
    by_cases c2 : i < j + vs.length
    · rw [if_pos c2, List.getElem?_append_left (by omega)]
    · rw [if_neg c2, List.getElem?_append_right (by omega), List.getElem?_drop]
      congr 1
      omega
theorem spl_len {α : Type} (l : List α) (j : Nat) (vs : List α) (h : j + vs.length ≤ l.length) : (spl l j vs).length = l.length := by
  unfold spl
  simp only [List.length_append, List.length_take, List.length_drop]
  omega
theorem spl_all {α : Type} {p : α → Prop} {l : List α} {j : Nat} {vs : List α} (h : ∀ x ∈ l, p x) (k : ∀ x ∈ vs, p x) : ∀ x ∈ spl l j vs, p x := fun x hx => by
  unfold spl at hx
  rcases List.mem_append.1 hx with hx | hx
  · exact h x (List.mem_of_mem_take hx)
  rcases List.mem_append.1 hx with hx | hx
  · exact k x hx
  · exact h x (List.mem_of_mem_drop hx)
theorem spl_within {α : Type} (l : List α) (d m j : Nat) (vs : List α) (h : j + vs.length ≤ m) (hm : d + m ≤ l.length) : ((spl l (d + j) vs).drop d).take m = spl ((l.drop d).take m) j vs := by
  apply List.ext_getElem?
  intro i
  rw [spl_get _ _ _ (by rw [List.length_take, List.length_drop]; omega), List.getElem?_take, List.getElem?_drop, spl_get _ _ _ (by omega), List.getElem?_take, List.getElem?_drop]
  by_cases c0 : i < m
  · rw [if_pos c0, if_pos c0]
    by_cases c1 : i < j
    · rw [if_pos c1, if_pos (by omega)]
    · rw [if_neg c1, if_neg (by omega)]
      by_cases c2 : i < j + vs.length
      · rw [if_pos c2, if_pos (by omega)]
        congr 1
        omega
      · rw [if_neg c2, if_neg (by omega)]
  · rw [if_neg c0, if_neg c0, if_neg (by omega), if_neg (by omega)]
theorem spl_mid {α : Type} (a b c : List α) (q : Nat) (vs : List α) (h : q + vs.length ≤ b.length) : spl (a ++ (b ++ c)) (a.length + q) vs = a ++ (spl b q vs ++ c) := by
  unfold spl
  rw [List.take_append, List.take_of_length_le (by omega), Nat.add_sub_cancel_left, List.take_append_of_le_length (by omega), Nat.add_assoc, List.drop_append, List.drop_of_length_le (by omega), List.nil_append, Nat.add_sub_cancel_left, List.drop_append_of_le_length (by omega)]
  simp [List.append_assoc]
theorem OY.put {w : World} {e : TypeId} {sz B : Nat} {ao : Option Addr} {cap n : Nat} {cs : List Value} (h : OY w e sz B ao cap n cs) {j : Nat} (vs : List Value) (hj : j + vs.length ≤ n * sz) (h0 : 0 < vs.length) (hv : ∀ v ∈ vs, v.oneCell' = true) : ∃ g d cur, ao = some ⟨g, d, none⟩ ∧ B ≤ g ∧ w.heap[g]? = some (.cells cur e (0, 0)) ∧ d + j + vs.length ≤ cur.size ∧
    ∀ w', Stored w w' g (.cells (splice cur (d + j) vs.toArray) e (0, 0)) → OY w' e sz B ao cap n (spl cs j vs) := by
  rcases h.row with ⟨_, _, h3⟩ | ⟨g, d, cur, h1, h2, h3, h4, h5, h6, h7⟩
  · rw [h3, Nat.zero_mul] at hj
    omega
  have hm2 : n * sz ≤ cap * sz := Nat.mul_le_mul_right _ h4
  have e1 : (splice cur (d + j) vs.toArray).toList = spl cur.toList (d + j) vs := by simp [splice, spl, List.append_assoc]
  have hle : d + j + vs.length ≤ cur.size := by omega
  refine ⟨g, d, cur, h1, h2, h3, hle, fun w' St => ⟨by rw [spl_len _ _ _ (by rw [h.len]; exact hj)]; exact h.len, .inr ⟨g, d, _, h1, h2, St.new, h4, h5, ?_, ?_⟩, spl_all h.one hv⟩⟩
  · have : (splice cur (d + j) vs.toArray).size = cur.size := splice_size _ _ _ (by simpa using hle)
    omega
  · rw [e1, spl_within _ _ _ _ _ hj (by rw [Array.length_toList]; omega), h7]
section
variable {α : Type} {K : Kd α} {e : TypeId} {w w' : World} {ao : Option Addr} {cap B b g : Nat} {l : List α}
theorem set_flat (l : List α) (j q : Nat) (hj : j < l.length) (x : α) (vs : List Value) (hq : q + vs.length ≤ K.sz) (hx : K.E x = spl (K.E (l.getD j K.z)) q vs) : (l.set j x).flatMap K.E = spl (l.flatMap K.E) (j * K.sz + q) vs := by
  have hg : l.getD j K.z = l[j] := by simp [List.getD_eq_getElem?_getD, hj]
  rw [hg] at hx
  have h1 : l.flatMap K.E = (l.take j).flatMap K.E ++ (K.E l[j] ++ (l.drop (j + 1)).flatMap K.E) := by
    rw [← List.flatMap_cons, ← List.drop_eq_getElem_cons hj, ← List.flatMap_append, List.take_append_drop]
  have h2 : ((l.take j).flatMap K.E).length = j * K.sz := by rw [flx_len K.len, List.length_take, Nat.min_eq_left (by omega)]
  rw [h1, ← h2, spl_mid _ _ _ _ _ (by rw [K.len]; exact hq), ← hx, List.set_eq_take_append_cons_drop, if_pos hj, List.flatMap_append, List.flatMap_cons]
variable {P : Program} {ops : Array Oper} {rest : List Oper} {T : List Value} {ds : List Deferred} {Q : Exit → Act → World → Prop} {o : Oper}
/-- A part of an element is written. -/
theorem s_stK (hgd : o.guard = none) (hdst : o.dst = none) (ty : TypeId) (x y : Operand) (ho : o.op = .store ty x y) (h : OW K e w B ao cap l) (j q : Nat) (hj : j < l.length) (hx : (⟨T.toArray, ds⟩ : Act).eval x = .pointer (pK K ao j q)) (v : Value) (hy : (⟨T.toArray, ds⟩ : Act).eval y = v) (vs : List Value) (hc : v.cells = vs.toArray)
    (hi : (P.info? ty).map (·.size) = some vs.length) (h0 : 0 < vs.length) (hq : q + vs.length ≤ K.sz) (h1 : ∀ v ∈ vs, v.oneCell' = true) (u : α) (hu : K.E u = spl (K.E (l.getD j K.z)) q vs) (hok : K.ok u)
    (hh : ∀ w', OW K e w' B ao cap (l.set j u) → GroS (Go.Proofs.Ytfabgonoonanfaa.blk ao) w w' → wpList P ops Q rest ⟨T.toArray, ds⟩ w') : wpList P ops Q (o :: rest) ⟨T.toArray, ds⟩ w := by
  have hjq : j * K.sz + q + vs.length ≤ l.length * K.sz := by
    have := Nat.mul_le_mul_right K.sz (show j + 1 ≤ l.length from hj)
    rw [Nat.add_mul, Nat.one_mul] at this
    omega
  obtain ⟨g, d, cur, e1, hB, hg, hle, hput⟩ := h.own.put vs hjq h0 h1
  have e2 : pK K ao j q = some ⟨g, d + (j * K.sz + q), none⟩ := by
    unfold pK
    rw [e1, Option.map_some, add_at]
  rw [e2] at hx
  refine s_store hgd hdst ty x y ho g (d + (j * K.sz + q)) hx v hy e cur hg vs.toArray hc (by rw [hi]; rfl) (by simpa using hle) ?_ _ rfl fun w' St => hh w' ⟨?_, ?_⟩ ?_
  · rw [Array.all_eq_true_iff_forall_mem]
    exact fun v hv => h1 v (by simpa using hv)
  · have := hput w' St
    rwa [← set_flat l j q hj u vs hq hu, ← List.length_set (i := j) (a := u)] at this
  · intro z hz
    rcases List.mem_or_eq_of_mem_set hz with hz | rfl
    · exact h.all z hz
    · exact hok
  · refine ⟨St.os, St.tape, St.output, Nat.le_of_eq St.size.symm, fun k _ hk => St.old k fun hkg => hk ?_⟩
    rw [e1, hkg]
    exact mem_blk.2 ⟨_, rfl, rfl⟩
end
theorem spl_cd (x y : Cd) : cdL y = spl (cdL x) 0 (cdL y) := by
  unfold spl
  rw [List.take_zero, List.nil_append, cdL_len, Nat.zero_add, List.drop_of_length_le (by rw [cdL_len]; exact Nat.le_refl _), List.append_nil]
theorem spl_id (x y : Nat) : (idA y).toList = spl (idA x).toList 0 (idA y).toList := by
  unfold spl
  rw [List.take_zero, List.nil_append, idA_len, Nat.zero_add, List.drop_of_length_le (by rw [idA_len]; exact Nat.le_refl _), List.append_nil]
theorem atC {w : World} {ao : Option Addr} {cap : Nat} {l : List Cd} (h : RK kC w ao cap l) {j : Nat} (hj : j < l.length) : (l.getD j zC).ok := h.at hj
theorem atI {w : World} {ao : Option Addr} {cap : Nat} {l : List Nat} (h : RK kI w ao cap l) {j : Nat} (hj : j < l.length) : l.getD j 0 < top := h.at hj
theorem take_at {α : Type} (z : α) (l : List α) (i : Nat) (hi : i < l.length) : l.take (i + 1) = l.take i ++ [l.getD i z] := by
  have hg : l.getD i z = l[i] := by simp [List.getD_eq_getElem?_getD, hi]
  rw [List.take_add_one, List.getElem?_eq_getElem hi, Option.toList_some, hg]
theorem cmp_neg (a b : Nat) : decide (cmpN a b < 0) = decide (a < b) := by
  unfold cmpN
  by_cases h : a < b
  · simp [h]
  · by_cases k : b < a <;> simp [h, k]
end Go.Proofs.Ytfabgonoonanfaa
