import Derived.Test.YtgfnjekpafempaaGreatBW6
import Derived.Test.YtgfnjekpafempaaGreatBB2
import Derived.Test.YtgfnjekpafempaaGreatBB1
import Derived.Test.YtgfnjekpafempaaGreatBLaw2
import Derived.Test.YtgfnjekpafempaaGreatBB11
namespace Go.Proofs.YtgfnjekpafempaaGreat
open Go.Proofs.Tryz
open Go.RowKit
theorem uG (n : Nat) : (idA n).toList.length = 16 := by simp [idA]
theorem Vl (n : Nat) : ∀ v ∈ (idA n).toList, v.oneCell' = true := fun v hv => Array.all_eq_true_iff_forall_mem.1 (vW n) v (by simpa using hv)
theorem uH (a b : Nat) : 0 + (idA a).size ≤ (idA b).size := by rw [zI, zI]; exact Nat.le_refl _
theorem JU (a b : Nat) : (idA a).size = (idA b).size := (zI a).trans (zI b).symm
theorem jea (x : Int) : (#[Value.int .i64 x]).all (·.oneCell') = true := by kernel_rfl
theorem beq_dec (a b : Int) : (a == b) = decide (a = b) := rfl
theorem eqI_id (d : Nat) (a b : Nat) (ha : a < top) (hb : b < top) (w : World) : (Op.equalIn (d + 1 + 1) 38 (.agg (idA a)) (.agg (idA b))).run Tryz.prog w = .ok (decide (a = b)) w := by
  refine vY _ 38 5 16 underlying38 w (Tryz.sizeOf5 w) (idA a) (idA b) (fun i => .int .u8 (byt a i)) (fun i => .int .u8 (byt b i)) (fun i => (byt a i : Int) == byt b i)
    (fun i hi => Jv a i hi w) (fun i hi => Jv b i hi w) (fun i _ => run_equalIn_int w _ 5 .u8 .u8 _ _ underlying5) _ ?_
  rw [decide_eq_true_iff]
  constructor
  · rintro rfl i _; simp
  · intro h
    exact ul ha hb fun i hi => by have := h i hi; simp at this; omega
theorem jcl {o : Oper} {A : Act} {w : World} (op : BinOp) (t : TypeId) (x y : Operand) (t2 : TypeId) (ho : o.op = .binOp op t x y t2) (c d : Array Value) (hx : A.eval x = .agg c) (hy : A.eval y = .agg d) (hm : Tryz.prog.eqGuardType Tryz.prog.depth t = false) (v : Value) (h : (binOp op t (.agg c) (.agg d)).run Tryz.prog w = .ok v w) : (execOp A.eval o).run Tryz.prog w = .ok (.value v) w :=
  jF op t x y t2 ho _ _ _ hx hy (run_eqGuard_agg w op t x y c d hm) h
section
variable {o : Oper} {A : Act} {w : World}
theorem Zu (x y : Operand) (t2 : TypeId) (ho : o.op = .binOp .eql 38 x y t2) (n m : Nat) (hx : A.eval x = .agg (idA n)) (hy : A.eval y = .agg (idA m)) (hn : n < top) (hm : m < top) (p : Bool) (hp : decide (n = m) = p) :
    (execOp A.eval o).run Tryz.prog w = .ok (.value (.bool p)) w := by
  subst hp
  exact Jl x y t2 ho n m hx hy _ (fun w => UU n m hn hm w) w
theorem Zs (x y : Operand) (t2 : TypeId) (ho : o.op = .binOp .neq 38 x y t2) (n m : Nat) (hx : A.eval x = .agg (idA n)) (hy : A.eval y = .agg (idA m)) (hn : n < top) (hm : m < top) (p : Bool) (hp : decide (n = m) = !p) :
    (execOp A.eval o).run Tryz.prog w = .ok (.value (.bool p)) w := by
  have : p = !decide (n = m) := by rw [hp]; simp
  subst this
  exact Jl x y t2 ho n m hx hy _ (fun w => UR n m hn hm w) w
end
section
variable {α : Type} {enc : α → List Value} {sz : Nat}
theorem yn (h : ∀ x, (enc x).length = sz) : ∀ l : List α, (l.flatMap enc).length = l.length * sz
  | [] => by simp
  | n :: l => by rw [List.flatMap_cons, List.length_append, h, yn h l, List.length_cons, Nat.add_mul, Nat.one_mul, Nat.add_comm]
theorem UC (h : ∀ x, (enc x).length = sz) : ∀ (i : Nat) (l : List α), (l.flatMap enc).drop (i * sz) = (l.drop i).flatMap enc
  | 0, l => by simp
  | i + 1, [] => by simp
  | i + 1, n :: l => by
    rw [List.flatMap_cons, List.drop_succ_cons, ← UC h i l, show (i + 1) * sz = (enc n).length + i * sz by rw [h, Nat.add_mul, Nat.one_mul, Nat.add_comm], List.drop_length_add_append]
theorem flx_at (h : ∀ x, (enc x).length = sz) (z : α) (l : List α) (j : Nat) (hj : j < l.length) : (l.flatMap enc).drop (j * sz) = enc (l.getD j z) ++ (l.drop (j + 1)).flatMap enc := by
  rw [UC h, List.drop_eq_getElem_cons hj, List.flatMap_cons]
  simp [List.getD_eq_getElem?_getD, hj]
theorem flx_el (h : ∀ x, (enc x).length = sz) (z : α) (l : List α) (j : Nat) (hj : j < l.length) (q k : Nat) (hq : q + k ≤ sz) : ((l.flatMap enc).drop (j * sz + q)).take k = ((enc (l.getD j z)).drop q).take k := by
  rw [← List.drop_drop, flx_at h z l j hj, List.drop_append_of_le_length (by rw [h]; omega), List.take_append_of_le_length (by rw [List.length_drop, h]; omega)]
theorem JG (h : ∀ x, (enc x).length = sz) (z : α) (l : List α) (j : Nat) (hj : j < l.length) (q : Nat) (hq : q < sz) : (l.flatMap enc)[j * sz + q]? = (enc (l.getD j z))[q]? := by
  have := flx_at h z l j hj
  rw [← List.getElem?_drop, this, List.getElem?_append_left (by rw [h]; exact hq)]
end
section
variable {P : Program} {o : Oper} {A : Act} {w : World} {sz cap n : Nat} {cs : List Value} {ad : Addr}
theorem jcf (ty : TypeId) (d : TypeDesc) (hu : P.underlying ty = some d) (hd : (match d with | .struct _ | .array _ _ => true | _ => false) = true) (k : Nat) (hi : (P.info? ty).map (·.size) = some k) (x : Operand) (ho : o.op = .load ty x) (q : Nat) (hx : A.eval x = .pointer (some (ad.add q))) (h : XC w sz (some ad) cap n cs) (hq : q + k ≤ cs.length) :
    (execOp A.eval o).run P w = .ok (.value (.agg ((cs.drop q).take k).toArray)) w := by
  have hlen : ((cs.drop q).take k).length = k := by rw [List.length_take, List.length_drop]; omega
  have hld : (loadCells (ad.add q) k).run P w = .ok ((cs.drop q).take k).toArray w := by
    have := run_loadCells_list (P := P) w (ad.add q) ((cs.drop q).take k) fun i v hv => by
      rw [List.getElem?_take] at hv
      split at hv
      · rw [List.getElem?_drop] at hv
        rw [JK]
        exact h.cell ad rfl _ v hv
      · cases hv
    rwa [hlen] at this
  have hagg : (isAgg ty).run P w = .ok true w := by
    unfold isAgg
    rw [Sem.run_bind, run_underlying hu w]
    cases d <;> simp_all
  have hsz : (sizeOf ty).run P w = .ok k w := by
    cases e : P.info? ty with
    | none => rw [e] at hi; cases hi
    | some i =>
      rw [e] at hi
      cases hi
      simp [sizeOf, typeInfo, e]
  have hv : (loadVar ty (ad.add q)).run P w = .ok (.agg ((cs.drop q).take k).toArray) w := by
    simp [loadVar, hagg, hsz, hld]
  unfold execOp
  simp only [ho, hx, Instr.loadAt, Instr.sureAddr, Sem.run_bind, Sem.run_pure, Result.andThen_ok, hv]
theorem jce (ty : TypeId) (hu : (isAgg ty).run P w = .ok false w) (x : Operand) (ho : o.op = .load ty x) (q : Nat) (hx : A.eval x = .pointer (some (ad.add q))) (h : XC w sz (some ad) cap n cs) (v : Value) (hv : cs[q]? = some v) :
    (execOp A.eval o).run P w = .ok (.value v) w := by
  have hc := h.cell ad rfl q v hv
  unfold execOp
  simp only [ho, hx]
  simp [Instr.loadAt, Instr.sureAddr, Sem.run_bind, loadVar, hu, hc, go_sem]
theorem run_fdA (s : TypeId) (x : Operand) (i : Nat) (ho : o.op = .fieldAddr s x i) (hx : A.eval x = .pointer (some ad)) (r : Addr)
    (hf : (Instr.fieldAt s (.pointer (some ad)) i).run P w = .ok (.pointer (some r)) w) : (execOp A.eval o).run P w = .ok (.value (.pointer (some r))) w := by
  unfold execOp
  simp only [ho, hx, Sem.run_bind, hf, Result.andThen_ok, Sem.run_pure]
end
section
variable {P : Program} {o : Oper} {A : Act}
theorem jV (t : TypeId) (x y : Operand) (t2 : TypeId) (ho : o.op = .binOp .add t x y t2) (a b r : Int) (hx : A.eval x = .int .i64 a) (hy : A.eval y = .int .i64 b) (hr : a + b = r) (h1 : -9223372036854775808 ≤ r) (h2 : r < 9223372036854775808) (w : World) : (execOp A.eval o).run P w = .ok (.value (.int .i64 r)) w := by
  subst hr
  refine jF .add t x y t2 ho _ _ _ hx hy (by simp [eqGuard]) ?_
  simp [go_sem]
  exact ya _ h1 h2
variable {ops : Array Oper} {rest : List Oper} {T : List Value} {ds : List Deferred} {w : World} {Q : Exit → Act → World → Prop}
end
theorem Calls.bool {P : Program} {f : FuncId} {args : Array Value} {w : World} {R : World → World → Prop} {p q : Bool} (h : Calls P f args w fun e w' => e = .returned (.bool p) ∧ R w w') (e : p = q) : Calls P f args w fun e w' => e = .returned (.bool q) ∧ R w w' := e ▸ h
def NE (ao : Option Addr) (n g : Nat) : Prop := ∀ ad, ao = some ad → 0 < n → ad.block ≠ g
section
variable {w w' : World} {ao : Option Addr} {cap g : Nat}
theorem XC.st {sz n : Nat} {cs : List Value} {x : Obj} (h : XC w sz ao cap n cs) (St : Stored w w' g x) (hn : NE ao cs.length g) : XC w' sz ao cap n cs :=
  ⟨h.len, h.fit, h.bare, fun ad ha j v hv => (World.cell?_of_block (St.old _ (by rw [zY]; exact hn ad ha (by have := (List.getElem?_eq_some_iff.1 hv).1; omega)))).trans (h.cell ad ha j v hv), h.one⟩
theorem Stored.gros {x : Obj} (St : Stored w w' g x) : GroS [g] w w' := ⟨St.os, St.tape, St.output, Nat.le_of_eq St.size.symm, fun k _ hk => St.old k (by simpa using hk)⟩
end
/-! ### Candidates and keys -/
theorem ldI0 {o : Oper} {A : Act} {w : World} {x : Nat} (y : Operand) (ho : o.op = .load 38 y) (g : Nat) (hx : A.eval y = .pointer (some ⟨g, 0, none⟩)) (hg : w.heap[g]? = some (.cells (idA x) 38 (0, 0))) : (execOp A.eval o).run Tryz.prog w = .ok (.value (.agg (idA x))) w :=
  zx 38 y ho g 0 16 hx 38 _ hg _ underlying38 rfl size23 (by rw [zI]; decide) _ (Qq x)
/-! ### Likeness -/
/-! ### Rows of whatever -/
structure Kd (α : Type) where
  E : α → List Value
  sz : Nat
  ok : α → Prop
  z : α
  len : ∀ x, (E x).length = sz
  one : ∀ x, ∀ v ∈ E x, v.oneCell' = true
section
variable {α : Type}
structure RK (K : Kd α) (w : World) (ao : Option Addr) (cap : Nat) (l : List α) : Prop where
  xc : XC w K.sz ao cap l.length (l.flatMap K.E)
  all : ∀ x ∈ l, K.ok x
structure OW (K : Kd α) (e : TypeId) (w : World) (B : Nat) (ao : Option Addr) (cap : Nat) (l : List α) : Prop where
  own : OY w e K.sz B ao cap l.length (l.flatMap K.E)
  all : ∀ x ∈ l, K.ok x
variable {K : Kd α} {e : TypeId} {w w' : World} {ao : Option Addr} {cap B b g : Nat} {l : List α}
theorem Kq : ∀ v ∈ l.flatMap K.E, v.oneCell' = true := fun v hv => by
  obtain ⟨n, _, hn⟩ := List.mem_flatMap.1 hv
  exact K.one n v hn
theorem RK.gro (h : RK K w ao cap l) (G : Gro w w') : RK K w' ao cap l := ⟨h.xc.gro G, h.all⟩
theorem RK.nil (w : World) : RK K w none 0 [] := ⟨XC.nil w K.sz, fun _ h => by cases h⟩
theorem RK.lt (h : RK K w ao cap l) : ∀ ad, ao = some ad → 0 < (l.flatMap K.E).length → ad.block < w.heap.size := h.xc.lt
theorem RK.ne (h : RK K w ao cap l) (e : w.heap.size = g) : NE ao (l.flatMap K.E).length g := fun ad ha h0 => by
  have := h.lt ad ha h0
  omega
theorem RK.st {x : Obj} (h : RK K w ao cap l) (St : Stored w w' g x) (hn : NE ao (l.flatMap K.E).length g) : RK K w' ao cap l := ⟨XC.st h.xc St hn, h.all⟩
theorem RK.gros {S : List Nat} (h : RK K w ao cap l) (G : GroS S w w') (hs : ∀ ad, ao = some ad → 0 < (l.flatMap K.E).length → ad.block ∉ S) : RK K w' ao cap l :=
  ⟨⟨h.xc.len, h.xc.fit, h.xc.bare, fun ad ha j v hv => by
    have h0 : 0 < (l.flatMap K.E).length := by have := (List.getElem?_eq_some_iff.1 hv).1; omega
    exact (World.cell?_of_block (by rw [zY]; exact G.old _ (h.lt ad ha h0) (hs ad ha h0))).trans (h.xc.cell ad ha j v hv), h.xc.one⟩, h.all⟩
theorem RK.below (h : RK K w ao cap l) {B : Nat} (G : Below B w w') (hb : ∀ ad, ao = some ad → 0 < (l.flatMap K.E).length → ad.block < B) : RK K w' ao cap l := ⟨h.xc.below G hb, h.all⟩
theorem RK.at (h : RK K w ao cap l) {j : Nat} (hj : j < l.length) : K.ok (l.getD j K.z) := by
  have : l.getD j K.z = l[j] := by simp [List.getD_eq_getElem?_getD, hj]
  rw [this]
  exact h.all _ (List.getElem_mem hj)
theorem RK.blk {t : TypeId} {fr : Nat × Nat} (hg : w.heap[g]? = some (.cells (l.flatMap K.E).toArray t fr)) (hl : ∀ x ∈ l, K.ok x) (hc : l.length ≤ cap) : RK K w (some ⟨g, 0, none⟩) cap l := by
  refine ⟨⟨yn K.len _, hc, fun h => (by cases h), fun ad ha j v hv => ?_, Kq⟩, hl⟩
  cases ha
  rw [zQ, Nat.zero_add, cell_of_row w g j _ t _ hg]
  simpa using hv
theorem OW.re (h : OW K e w B ao cap l) : RK K w ao cap l := ⟨h.own.xc, h.all⟩
theorem OW.gro (h : OW K e w B ao cap l) (G : Gro w w') : OW K e w' B ao cap l := ⟨h.own.gro G, h.all⟩
theorem OW.nil (w : World) (B : Nat) : OW K e w B none 0 [] := ⟨OY.nil w e K.sz B, fun _ h => by cases h⟩
theorem OW.mono (h : OW K e w B ao cap l) {B' : Nat} (hB : B' ≤ B) : OW K e w B' ao cap l := ⟨h.own.mono hB, h.all⟩
theorem OW.gros {S : List Nat} (h : OW K e w B ao cap l) (G : GroS S w w') (hs : ∀ k ∈ Go.Proofs.YtgfnjekpafempaaGreat.blk ao, k ∉ S) : OW K e w' B ao cap l := ⟨h.own.gros G hs, h.all⟩
theorem OW.ne (h : OW K e w B ao cap l) (e : w.heap.size = g) : g ∉ Go.Proofs.YtgfnjekpafempaaGreat.blk ao := fun hm => by
  have := h.own.lt g hm
  omega
theorem OW.st {x : Obj} (h : OW K e w B ao cap l) (St : Stored w w' g x) (hn : g ∉ Go.Proofs.YtgfnjekpafempaaGreat.blk ao) : OW K e w' B ao cap l := h.gros St.gros fun k hk hm => hn (by rw [List.mem_singleton] at hm; exact hm ▸ hk)
theorem OW.blk (hg : w.heap[g]? = some (.cells (l.flatMap K.E).toArray e (0, 0))) (hl : ∀ x ∈ l, K.ok x) (hB : B ≤ g) (hm : l.length ≤ 1000000) : OW K e w B (some ⟨g, 0, none⟩) l.length l :=
  ⟨⟨yn K.len l, .inr ⟨g, 0, _, rfl, hB, hg, Nat.le_refl _, by unfold maxLen; omega, by simp only [List.size_toArray, yn K.len]; omega, by simp only [List.drop_zero]; rw [← yn K.len l]; exact List.take_length⟩, Kq⟩, hl⟩
def pK (K : Kd α) (ao : Option Addr) (j q : Nat) : Option Addr := ao.map (·.add (j * K.sz + q))
variable {o : Oper} {A : Act} {t s : TypeId} {z : Value}
theorem za (R : RowT Tryz.prog t e K.sz s z) (h : RK K w ao cap l) (x y : Operand) (ho : o.op = .indexAddr t x y) (hx : A.eval x = .slice ao l.length cap) (j : Nat) (hy : A.eval y = .int .i64 (j : Int)) (hj : j < l.length) :
    (execOp A.eval o).run Tryz.prog w = .ok (.value (.pointer (pK K ao j 0))) w := by
  obtain ⟨ad, rfl⟩ := h.xc.some (by omega)
  exact VY R x y ho ad _ _ j hx hy hj w
theorem el_fitK {j q k : Nat} (hj : j < l.length) (hq : q + k ≤ K.sz) : j * K.sz + q + k ≤ (l.flatMap K.E).length := by
  rw [yn K.len]
  have := Nat.mul_le_mul_right K.sz (show j + 1 ≤ l.length from hj)
  rw [Nat.add_mul, Nat.one_mul] at this
  omega
theorem Zt (h : RK K w ao cap l) (ty : TypeId) (d : TypeDesc) (hu : Tryz.prog.underlying ty = some d) (hd : (match d with | .struct _ | .array _ _ => true | _ => false) = true) (q k : Nat) (hi : (Tryz.prog.info? ty).map (·.size) = some k) (hq : q + k ≤ K.sz) (x : Operand) (ho : o.op = .load ty x) (j : Nat) (hx : A.eval x = .pointer (pK K ao j q)) (hj : j < l.length) (v : Array Value) (hv : ((K.E (l.getD j K.z)).drop q).take k = v.toList) :
    (execOp A.eval o).run Tryz.prog w = .ok (.value (.agg v)) w := by
  obtain ⟨ad, rfl⟩ := h.xc.some (by omega)
  rw [jcf ty d hu (by cases d <;> first | rfl | cases hd) k hi x ho (j * K.sz + q) hx h.xc (el_fitK hj hq), flx_el K.len K.z l j hj q k hq, hv]
theorem VX (h : RK K w ao cap l) (ty : TypeId) (hu : (isAgg ty).run Tryz.prog w = .ok false w) (q : Nat) (hq : q < K.sz) (x : Operand) (ho : o.op = .load ty x) (j : Nat) (hx : A.eval x = .pointer (pK K ao j q)) (hj : j < l.length) (v : Value) (hv : (K.E (l.getD j K.z))[q]? = some v) :
    (execOp A.eval o).run Tryz.prog w = .ok (.value v) w := by
  obtain ⟨ad, rfl⟩ := h.xc.some (by omega)
  exact jce ty hu x ho (j * K.sz + q) hx h.xc _ (by rw [JG K.len K.z l j hj q hq, hv])
theorem zk (h : RK K w ao cap l) (ty : TypeId) (x : Operand) (i q : Nat) (hf : ∀ ad, (Instr.fieldAt ty (.pointer (some ad)) i).run Tryz.prog w = .ok (.pointer (some (ad.add q))) w) (ho : o.op = .fieldAddr ty x i) (j : Nat) (hx : A.eval x = .pointer (pK K ao j 0)) (hj : j < l.length) :
    (execOp A.eval o).run Tryz.prog w = .ok (.value (.pointer (pK K ao j q))) w := by
  obtain ⟨ad, rfl⟩ := h.xc.some (by omega)
  have := hf (ad.add (j * K.sz + 0))
  rw [JK, Nat.add_zero] at this
  exact run_fdA ty x i ho hx _ this
variable {ops : Array Oper} {rest : List Oper} {T : List Value} {ds : List Deferred} {Q : Exit → Act → World → Prop}
theorem ZJ (R : RowT Tryz.prog t e K.sz s z) (hs1 : 0 < s) (dst : Nat) (hd : o.dst = some dst) (hgd : o.guard = none) (a x : Operand) (ho : o.op = .call { callee := .builtin .append, args := #[a, x], argTypes := #[t, t] })
    (hs : (⟨T.toArray, ds⟩ : Act).eval a = .slice ao l.length cap) (hown : OW K e w B ao cap l)
    {ao' : Option Addr} {cap' : Nat} {l' : List α} (hx : (⟨T.toArray, ds⟩ : Act).eval x = .slice ao' l'.length cap') (hsrc : RK K w ao' cap' l') (hb : (l.length + l'.length) * s ≤ 140737488355328) (hB : B ≤ w.heap.size)
    (h : ∀ ao2 cap2 w', OW K e w' B ao2 cap2 (l ++ l') → GroS (Go.Proofs.YtgfnjekpafempaaGreat.blk ao) w w' → Kept w.heap.size ao ao2 → wpList Tryz.prog ops Q rest ⟨(T.set dst (.slice ao2 (l ++ l').length cap2)).toArray, ds⟩ w') : wpList Tryz.prog ops Q (o :: rest) ⟨T.toArray, ds⟩ w := by
  refine s_appY R dst hd hgd a x ho hs hown.own hx hsrc.xc hb hs1 hB ?_
  intro ao2 cap2 w' h1 h2 h3
  rw [← List.flatMap_append, ← List.length_append] at h1
  have := h ao2 cap2 w' ⟨h1, fun x hx => (List.mem_append.1 hx).elim (hown.all x) (hsrc.all x)⟩ h2 h3
  rw [List.length_append] at this
  exact this
end
theorem vg {α : Type} {p : α → Prop} {x : α} (h : p x) : ∀ y ∈ [x], p y := fun y hy => by rw [List.mem_singleton.1 hy]; exact h
theorem ZH (ao : Option Addr) (n cap : Nat) : (#[Value.slice ao n cap]).all (·.oneCell') = true := by kernel_rfl
def opsA2 (P : Program) (ops : Array Oper) (posts : List PostS) (A : (Nat → Value) → Act) (w0 : World) : Nat → List Oper → Prop
  | _, [] => True
  | i, o :: r => (∀ ptrs L w, Gro w0 w → newsHold2 L w0.heap.size posts ptrs w (edges o) → L i = false → OpOK2 P ops (postAt2 posts i) (postAt2 posts (postAt2 posts i).other) (ptrs (postAt2 posts i).other) o (A ptrs) w) ∧ opsA2 P ops posts A w0 (i + 1) r
theorem uz {P : Program} {ops : Array Oper} {posts : List PostS} {A : (Nat → Value) → Act} {w0 : World} {i : Nat} : opsA2 P ops posts A w0 i [] := trivial
theorem jz {P : Program} {ops : Array Oper} {posts : List PostS} {A : (Nat → Value) → Act} {w0 : World} {i : Nat} {o : Oper} {r : List Oper}
    (h : ∀ ptrs L w, Gro w0 w → newsHold2 L w0.heap.size posts ptrs w (edges o) → L i = false → OpOK2 P ops (postAt2 posts i) (postAt2 posts (postAt2 posts i).other) (ptrs (postAt2 posts i).other) o (A ptrs) w) (hr : opsA2 P ops posts A w0 (i + 1) r) : opsA2 P ops posts A w0 i (o :: r) := ⟨h, hr⟩
theorem YC {P : Program} {ops : Array Oper} {posts : List PostS} {a0 : Act} {D : List (Nat × Nat)} {w0 : World} : ∀ (l : List Oper) (i : Nat), opsA2 P ops posts (fun ptrs => full a0 D (filled2 posts ptrs)) w0 i l → opsOK2 P ops posts a0 D w0 i l
  | [], _, _ => trivial
  | _ :: r, i, h => ⟨h.1, YC r (i + 1) h.2⟩
theorem yy {P : Program} {id : Nat} {l : List Oper} {Q : Exit → Act → World → Prop} {a0 : Act} {w : World} {A : (Nat → Value) → Act} (n : Nat) (D : List (Nat × Nat)) (posts : List PostS) (hm : P.follows .mixedOrders = true)
    (hB : growB l.toArray n D = true) (hP : postsB l.toArray n (postAt2 posts) = true) (hsz : (D.all fun p => decide (p.2 < a0.tmps.size)) = true)
    (hA : ∀ ptrs, full a0 D (filled2 posts ptrs) = A ptrs)
    (hop : opsA2 P l.toArray posts A w.drew 0 (l.take n))
    (hrest : ∀ ptrs L w', Gro w.drew w' → (∀ i, L i = decide (i < n)) → newsHold2 L w.heap.size posts ptrs w' (List.range n) → newsApart2 posts ptrs n → wpList P l.toArray Q (l.drop n) (A ptrs) w') :
    (Code.region id l.toArray true).wp P Q a0 w := by
  have e : A = fun ptrs => full a0 D (filled2 posts ptrs) := funext fun ptrs => (hA ptrs).symm
  subst e
  exact Zk n D posts hm hB hP hsz (YC _ _ hop) hrest
section
variable {w : World} {ao : Option Addr} {cap B g : Nat}
theorem RK.neG {α : Type} {K : Kd α} {l : List α} (h : RK K w ao cap l) (c : w.heap.size ≤ g) : NE ao (l.flatMap K.E).length g := fun ad ha h0 => by
  have := h.lt ad ha h0
  omega
theorem OW.neG {α : Type} {K : Kd α} {e : TypeId} {l : List α} (h : OW K e w B ao cap l) (c : w.heap.size ≤ g) : g ∉ Go.Proofs.YtgfnjekpafempaaGreat.blk ao := fun hm => by
  have := h.own.lt g hm
  omega
end
/-! ### Stores into rows -/
def spl {α : Type} (l : List α) (j : Nat) (vs : List α) : List α := l.take j ++ (vs ++ l.drop (j + vs.length))
theorem QH {α : Type} (l : List α) (j : Nat) (vs : List α) (h : j + vs.length ≤ l.length) (i : Nat) : (spl l j vs)[i]? = if i < j then l[i]? else if i < j + vs.length then vs[i - j]? else l[i]? := by
  unfold spl
  have h1 : (l.take j).length = j := by rw [List.length_take]; omega
  by_cases c1 : i < j
  · rw [if_pos c1, List.getElem?_append_left (by omega), List.getElem?_take, if_pos c1]
  · rw [if_neg c1, List.getElem?_append_right (by omega), h1]
    by_cases c2 : i < j + vs.length
    · rw [if_pos c2, List.getElem?_append_left (by omega)]
    · rw [if_neg c2, List.getElem?_append_right (by omega), List.getElem?_drop]
      congr 1
      omega
theorem spl_len {α : Type} (l : List α) (j : Nat) (vs : List α) (h : j + vs.length ≤ l.length) : (spl l j vs).length = l.length := by
  unfold spl
  simp only [List.length_append, List.length_take, List.length_drop]
  omega
theorem spl_all {α : Type} {p : α → Prop} {l : List α} {j : Nat} {vs : List α} (h : ∀ x ∈ l, p x) (k : ∀ x ∈ vs, p x) : ∀ x ∈ spl l j vs, p x := fun x hx => by
  unfold spl at hx
  rcases List.mem_append.1 hx with hx | hx
  · exact h x (List.mem_of_mem_take hx)
  rcases List.mem_append.1 hx with hx | hx
  · exact k x hx
  · exact h x (List.mem_of_mem_drop hx)
theorem UM {α : Type} (l : List α) (d m j : Nat) (vs : List α) (h : j + vs.length ≤ m) (hm : d + m ≤ l.length) : ((spl l (d + j) vs).drop d).take m = spl ((l.drop d).take m) j vs := by
  apply List.ext_getElem?
  intro i
  rw [QH _ _ _ (by rw [List.length_take, List.length_drop]; omega), List.getElem?_take, List.getElem?_drop, QH _ _ _ (by omega), List.getElem?_take, List.getElem?_drop]
  by_cases c0 : i < m
  · rw [if_pos c0, if_pos c0]
    by_cases c1 : i < j
    · rw [if_pos c1, if_pos (by omega)]
    · rw [if_neg c1, if_neg (by omega)]
      by_cases c2 : i < j + vs.length
      · rw [if_pos c2, if_pos (by omega)]
        congr 1
        omega
      · rw [if_neg c2, if_neg (by omega)]
  · rw [if_neg c0, if_neg c0, if_neg (by omega), if_neg (by omega)]
theorem OY.put {w : World} {e : TypeId} {sz B : Nat} {ao : Option Addr} {cap n : Nat} {cs : List Value} (h : OY w e sz B ao cap n cs) {j : Nat} (vs : List Value) (hj : j + vs.length ≤ n * sz) (h0 : 0 < vs.length) (hv : ∀ v ∈ vs, v.oneCell' = true) : ∃ g d cur, ao = some ⟨g, d, none⟩ ∧ B ≤ g ∧ w.heap[g]? = some (.cells cur e (0, 0)) ∧ d + j + vs.length ≤ cur.size ∧
    ∀ w', Stored w w' g (.cells (splice cur (d + j) vs.toArray) e (0, 0)) → OY w' e sz B ao cap n (spl cs j vs) := by
  rcases h.row with ⟨_, _, h3⟩ | ⟨g, d, cur, h1, h2, h3, h4, h5, h6, h7⟩
  · rw [h3, Nat.zero_mul] at hj
    omega
  have hm2 : n * sz ≤ cap * sz := Nat.mul_le_mul_right _ h4
  have e1 : (splice cur (d + j) vs.toArray).toList = spl cur.toList (d + j) vs := by simp [splice, spl, List.append_assoc]
  have hle : d + j + vs.length ≤ cur.size := by omega
  refine ⟨g, d, cur, h1, h2, h3, hle, fun w' St => ⟨by rw [spl_len _ _ _ (by rw [h.len]; exact hj)]; exact h.len, .inr ⟨g, d, _, h1, h2, St.new, h4, h5, ?_, ?_⟩, spl_all h.one hv⟩⟩
  · have : (splice cur (d + j) vs.toArray).size = cur.size := VJ _ _ _ (by simpa using hle)
    omega
  · rw [e1, UM _ _ _ _ _ hj (by rw [Array.length_toList]; omega), h7]
/-! ### Items and versions -/
structure VM where
  n : Int
  who : Nat
structure IM where
  key : Nat
  n : Int
  who : Nat
  ao : Option Addr
  cap : Nat
  val : List Nat
def I64 (x : Int) : Prop := -9223372036854775808 ≤ x ∧ x < 9223372036854775808
structure VM.ok (x : VM) : Prop where
  n : I64 x.n
  who : x.who < top
structure IM.ok (x : IM) : Prop where
  key : x.key < top
  n : I64 x.n
  who : x.who < top
def mkV (n : Int) (w : Nat) : VM := ⟨n, w⟩
def zV : VM := ⟨0, 0⟩
def mkI (k : Nat) (v : VM) (ao : Option Addr) (cap : Nat) (l : List Nat) : IM := ⟨k, v.n, v.who, ao, cap, l⟩
def zM : IM := ⟨0, 0, 0, none, 0, []⟩
def IM.ver (x : IM) : VM := ⟨x.n, x.who⟩
theorem top_0' : 0 < top := by unfold top; decide
theorem JY : zM.ok := ⟨top_0', ⟨by decide, by decide⟩, top_0'⟩
theorem IM.ok.ver {x : IM} (h : x.ok) : x.ver.ok := ⟨h.n, h.who⟩
theorem vr {n : Int} {w : Nat} (h1 : I64 n) (h2 : w < top) : (mkV n w).ok := ⟨h1, h2⟩
theorem vS {k : Nat} {v : VM} {ao : Option Addr} {cap : Nat} {l : List Nat} (h1 : k < top) (h2 : v.ok) : (mkI k v ao cap l).ok := ⟨h1, h2.n, h2.who⟩
def veL (x : VM) : List Value := .int .i64 x.n :: (idA x.who).toList
def veA (x : VM) : Array Value := (veL x).toArray
def itL (x : IM) : List Value := (idA x.key).toList ++ (.int .i64 x.n :: ((idA x.who).toList ++ [.slice x.ao x.val.length x.cap]))
def itA (x : IM) : Array Value := (itL x).toArray
theorem veL_len (x : VM) : (veL x).length = 17 := by simp [veL, idA]
theorem yQ (x : VM) : (veA x).size = 17 := veL_len x
theorem vV (x : IM) : (itL x).length = 34 := by simp [itL, idA]
theorem zB (x : IM) : (itA x).size = 34 := vV x
theorem veL_one (x : VM) : ∀ v ∈ veL x, v.oneCell' = true := fun v hv => by
  rcases List.mem_cons.1 hv with rfl | h
  · rfl
  · exact Vl _ _ h
theorem JD (x : IM) : ∀ v ∈ itL x, v.oneCell' = true := fun v hv => by
  rcases List.mem_append.1 hv with h | h
  · exact Vl _ _ h
  · rcases List.mem_cons.1 h with rfl | h
    · rfl
    · rcases List.mem_append.1 h with h | h
      · exact Vl _ _ h
      · rw [List.mem_singleton.1 h]
        rfl
theorem vJ (x : VM) : (veA x).all (·.oneCell') = true := by
  rw [Array.all_eq_true_iff_forall_mem]
  exact fun v hv => veL_one x v (by simpa [veA] using hv)
theorem JE (x : IM) : (itA x).all (·.oneCell') = true := by
  rw [Array.all_eq_true_iff_forall_mem]
  exact fun v hv => JD x v (by simpa [itA] using hv)
theorem uV (a b : VM) : (veA a).size = (veA b).size := (yQ a).trans (yQ b).symm
theorem vK (a b : VM) : 0 + (veA a).size ≤ (veA b).size := by rw [yQ, yQ]; exact Nat.le_refl _
theorem ZZ (a b : IM) : (itA a).size = (itA b).size := (zB a).trans (zB b).symm
theorem itA_fit (a b : IM) : 0 + (itA a).size ≤ (itA b).size := by rw [zB, zB]; exact Nat.le_refl _
theorem siIt : (Tryz.prog.info? 42).map (·.size) = some 34 := by kernel_rfl
theorem siVe : (Tryz.prog.info? 40).map (·.size) = some 17 := by kernel_rfl
theorem siIt' (x : IM) : (Tryz.prog.info? 42).map (·.size) = some (itA x).size := by rw [zB]; exact siIt
theorem stI {ops : Array Oper} {rest : List Oper} {o : Oper} {T : List Value} {ds : List Deferred} {w : World} {Q : Exit → Act → World → Prop} {g : Nat} {y : IM} {p v : Operand} (x : IM) (ho : o.op = .store 42 p v) (hp : (⟨T.toArray, ds⟩ : Act).eval p = .pointer (some ⟨g, 0, none⟩)) (hv : (⟨T.toArray, ds⟩ : Act).eval v = .agg (itA x)) (hg : w.heap[g]? = some (.cells (itA y) 42 (0, 0))) (hd : (o.guard, o.dst) = (none, none)) (h : ∀ w', Stored w w' g (.cells (itA x) 42 (0, 0)) → wpList Tryz.prog ops Q rest ⟨T.toArray, ds⟩ w') : wpList Tryz.prog ops Q (o :: rest) ⟨T.toArray, ds⟩ w :=
  jE (congrArg Prod.fst hd) (congrArg Prod.snd hd) 42 _ _ ho g 0 hp (.agg (itA x)) hv 42 _ hg (itA x) rfl (siIt' _) (itA_fit _ _) (JE _) (itA x) (jS _ _ (ZZ _ _)) h
theorem siVe' (x : VM) : (Tryz.prog.info? 40).map (·.size) = some (veA x).size := by rw [yQ]; exact siVe
theorem zeroIt (w : World) : (zeroValue 42).run Tryz.prog w = .ok (.agg (itA zM)) w := by rw [Tryz.zeroValue42]; kernel_rfl
theorem zeroVe (w : World) : (zeroValue 40).run Tryz.prog w = .ok (.agg (veA zV)) w := by rw [Tryz.zeroValue40]; kernel_rfl
def kM : Kd IM := ⟨itL, 34, IM.ok, zM, vV, JD⟩
theorem na2v (w : World) : (isAgg 2).run Tryz.prog w = .ok false w := by kernel_rfl
theorem na27v (w : World) : (isAgg 27).run Tryz.prog w = .ok false w := by kernel_rfl
theorem na58v (w : World) : (isAgg 58).run Tryz.prog w = .ok false w := by kernel_rfl
theorem na76v (w : World) : (isAgg 76).run Tryz.prog w = .ok false w := by kernel_rfl
theorem na72v (w : World) : (isAgg 72).run Tryz.prog w = .ok false w := by kernel_rfl
theorem na60v (w : World) : (isAgg 60).run Tryz.prog w = .ok false w := by kernel_rfl
theorem aI_0 (x : IM) : (itA x).extract 0 (0 + 34) = itA x := by kernel_rfl
theorem aI_k (x : IM) : (itA x).extract 0 (0 + 16) = idA x.key := by kernel_rfl
theorem aI_v (x : IM) : (itA x).extract 16 (16 + 17) = veA x.ver := by kernel_rfl
theorem aI_n (x : IM) : (itA x)[16]? = some (.int .i64 x.n) := by kernel_rfl
theorem aI_w (x : IM) : (itA x).extract 17 (17 + 16) = idA x.who := by kernel_rfl
theorem aI_r (x : IM) : (itA x)[33]? = some (.slice x.ao x.val.length x.cap) := by kernel_rfl
theorem aV_0 (x : VM) : (veA x).extract 0 (0 + 17) = veA x := by kernel_rfl
theorem aV_n (x : VM) : (veA x)[0]? = some (.int .i64 x.n) := by kernel_rfl
theorem aV_w (x : VM) : (veA x).extract 1 (1 + 16) = idA x.who := by kernel_rfl
theorem dI_0 (x : IM) : ((itL x).drop 0).take 34 = (itA x).toList := by kernel_rfl
theorem dI_k (x : IM) : ((itL x).drop 0).take 16 = (idA x.key).toList := by kernel_rfl
theorem dI_v (x : IM) : ((itL x).drop 16).take 17 = (veA x.ver).toList := by kernel_rfl
theorem dI_r (x : IM) : (itL x)[33]? = some (.slice x.ao x.val.length x.cap) := by kernel_rfl
def vtA (lp : Nat) (inc : Int) (mb : Nat) : Array Value := #[.pointer (some ⟨lp, 0, none⟩), .int .i64 inc, .map (some mb)]
def rvA (mp : Option Nat) (ao : Option Addr) (n cap : Nat) (inc : Int) : Array Value := #[.pointer (mp.map fun g => ⟨g, 0, none⟩), .slice ao n cap, .int .i64 inc]
theorem ldIt0 {o : Oper} {A : Act} {w : World} {x : IM} (y : Operand) (ho : o.op = .load 42 y) (g : Nat) (hx : A.eval y = .pointer (some ⟨g, 0, none⟩)) (hg : w.heap[g]? = some (.cells (itA x) 42 (0, 0))) : (execOp A.eval o).run Tryz.prog w = .ok (.value (.agg (itA x))) w :=
  zx 42 y ho g 0 34 hx 42 _ hg _ underlying42 rfl siIt (by rw [zB]; decide) _ (aI_0 x)
theorem ldItk {o : Oper} {A : Act} {w : World} {x : IM} (y : Operand) (ho : o.op = .load 38 y) (g : Nat) (hx : A.eval y = .pointer (some ⟨g, 0, none⟩)) (hg : w.heap[g]? = some (.cells (itA x) 42 (0, 0))) : (execOp A.eval o).run Tryz.prog w = .ok (.value (.agg (idA x.key))) w :=
  zx 38 y ho g 0 16 hx 42 _ hg _ underlying38 rfl size23 (by rw [zB]; decide) _ (aI_k x)
theorem ldItv {o : Oper} {A : Act} {w : World} {x : IM} (y : Operand) (ho : o.op = .load 40 y) (g : Nat) (hx : A.eval y = .pointer (some ⟨g, 16, none⟩)) (hg : w.heap[g]? = some (.cells (itA x) 42 (0, 0))) : (execOp A.eval o).run Tryz.prog w = .ok (.value (.agg (veA x.ver))) w :=
  zx 40 y ho g 16 17 hx 42 _ hg _ underlying40 rfl siVe (by rw [zB]; decide) _ (aI_v x)
theorem ldItn {o : Oper} {A : Act} {w : World} {x : IM} (y : Operand) (ho : o.op = .load 2 y) (g : Nat) (hx : A.eval y = .pointer (some ⟨g, 16, none⟩)) (hg : w.heap[g]? = some (.cells (itA x) 42 (0, 0))) : (execOp A.eval o).run Tryz.prog w = .ok (.value (.int .i64 x.n)) w :=
  jo 2 y ho g 16 hx 42 _ hg (na2v w) _ (aI_n x)
theorem ldItw {o : Oper} {A : Act} {w : World} {x : IM} (y : Operand) (ho : o.op = .load 38 y) (g : Nat) (hx : A.eval y = .pointer (some ⟨g, 17, none⟩)) (hg : w.heap[g]? = some (.cells (itA x) 42 (0, 0))) : (execOp A.eval o).run Tryz.prog w = .ok (.value (.agg (idA x.who))) w :=
  zx 38 y ho g 17 16 hx 42 _ hg _ underlying38 rfl size23 (by rw [zB]; decide) _ (aI_w x)
theorem ldItr {o : Oper} {A : Act} {w : World} {x : IM} (y : Operand) (ho : o.op = .load 27 y) (g : Nat) (hx : A.eval y = .pointer (some ⟨g, 33, none⟩)) (hg : w.heap[g]? = some (.cells (itA x) 42 (0, 0))) : (execOp A.eval o).run Tryz.prog w = .ok (.value (.slice x.ao x.val.length x.cap)) w :=
  jo 27 y ho g 33 hx 42 _ hg (na27v w) _ (aI_r x)
theorem ldVe0 {o : Oper} {A : Act} {w : World} {x : VM} (y : Operand) (ho : o.op = .load 40 y) (g : Nat) (hx : A.eval y = .pointer (some ⟨g, 0, none⟩)) (hg : w.heap[g]? = some (.cells (veA x) 40 (0, 0))) : (execOp A.eval o).run Tryz.prog w = .ok (.value (.agg (veA x))) w :=
  zx 40 y ho g 0 17 hx 40 _ hg _ underlying40 rfl siVe (by rw [yQ]; decide) _ (aV_0 x)
theorem ldVen {o : Oper} {A : Act} {w : World} {x : VM} (y : Operand) (ho : o.op = .load 2 y) (g : Nat) (hx : A.eval y = .pointer (some ⟨g, 0, none⟩)) (hg : w.heap[g]? = some (.cells (veA x) 40 (0, 0))) : (execOp A.eval o).run Tryz.prog w = .ok (.value (.int .i64 x.n)) w :=
  jo 2 y ho g 0 hx 40 _ hg (na2v w) _ (aV_n x)
theorem ldVew {o : Oper} {A : Act} {w : World} {x : VM} (y : Operand) (ho : o.op = .load 38 y) (g : Nat) (hx : A.eval y = .pointer (some ⟨g, 1, none⟩)) (hg : w.heap[g]? = some (.cells (veA x) 40 (0, 0))) : (execOp A.eval o).run Tryz.prog w = .ok (.value (.agg (idA x.who))) w :=
  zx 38 y ho g 1 16 hx 40 _ hg _ underlying38 rfl size23 (by rw [yQ]; decide) _ (aV_w x)
theorem ldVtl {o : Oper} {A : Act} {w : World} {lp mb : Nat} {inc : Int} (y : Operand) (ho : o.op = .load 72 y) (g : Nat) (hx : A.eval y = .pointer (some ⟨g, 0, none⟩)) (hg : w.heap[g]? = some (.cells (vtA lp inc mb) 78 (0, 0))) : (execOp A.eval o).run Tryz.prog w = .ok (.value (.pointer (some ⟨lp, 0, none⟩))) w :=
  jo 72 y ho g 0 hx 78 _ hg (na72v w) _ (by kernel_rfl)
theorem ldVti {o : Oper} {A : Act} {w : World} {lp mb : Nat} {inc : Int} (y : Operand) (ho : o.op = .load 2 y) (g : Nat) (hx : A.eval y = .pointer (some ⟨g, 1, none⟩)) (hg : w.heap[g]? = some (.cells (vtA lp inc mb) 78 (0, 0))) : (execOp A.eval o).run Tryz.prog w = .ok (.value (.int .i64 inc)) w :=
  jo 2 y ho g 1 hx 78 _ hg (na2v w) _ (by kernel_rfl)
theorem ldVtm {o : Oper} {A : Act} {w : World} {lp mb : Nat} {inc : Int} (y : Operand) (ho : o.op = .load 76 y) (g : Nat) (hx : A.eval y = .pointer (some ⟨g, 2, none⟩)) (hg : w.heap[g]? = some (.cells (vtA lp inc mb) 78 (0, 0))) : (execOp A.eval o).run Tryz.prog w = .ok (.value (.map (some mb))) w :=
  jo 76 y ho g 2 hx 78 _ hg (na76v w) _ (by kernel_rfl)
theorem ldRvl {o : Oper} {A : Act} {w : World} {mp : Option Nat} {ao : Option Addr} {n cap : Nat} {inc : Int} (y : Operand) (ho : o.op = .load 60 y) (g : Nat) (hx : A.eval y = .pointer (some ⟨g, 0, none⟩)) (hg : w.heap[g]? = some (.cells (rvA mp ao n cap inc) 62 (0, 0))) : (execOp A.eval o).run Tryz.prog w = .ok (.value (.pointer (mp.map fun g => ⟨g, 0, none⟩))) w :=
  jo 60 y ho g 0 hx 62 _ hg (na60v w) _ (by kernel_rfl)
theorem ldRvr {o : Oper} {A : Act} {w : World} {mp : Option Nat} {ao : Option Addr} {n cap : Nat} {inc : Int} (y : Operand) (ho : o.op = .load 58 y) (g : Nat) (hx : A.eval y = .pointer (some ⟨g, 1, none⟩)) (hg : w.heap[g]? = some (.cells (rvA mp ao n cap inc) 62 (0, 0))) : (execOp A.eval o).run Tryz.prog w = .ok (.value (.slice ao n cap)) w :=
  jo 58 y ho g 1 hx 62 _ hg (na58v w) _ (by kernel_rfl)
theorem ldRvi {o : Oper} {A : Act} {w : World} {mp : Option Nat} {ao : Option Addr} {n cap : Nat} {inc : Int} (y : Operand) (ho : o.op = .load 2 y) (g : Nat) (hx : A.eval y = .pointer (some ⟨g, 2, none⟩)) (hg : w.heap[g]? = some (.cells (rvA mp ao n cap inc) 62 (0, 0))) : (execOp A.eval o).run Tryz.prog w = .ok (.value (.int .i64 inc)) w :=
  jo 2 y ho g 2 hx 62 _ hg (na2v w) _ (by kernel_rfl)
theorem VF (lp : Nat) (inc : Int) (mb : Nat) : (vtA lp inc mb).size = 3 := rfl
theorem VP (mp : Option Nat) (ao : Option Addr) (n cap : Nat) (inc : Int) : (rvA mp ao n cap inc).size = 3 := rfl
theorem si64i : (Tryz.prog.info? 2).map (·.size) = some 1 := by kernel_rfl
theorem siBy : (Tryz.prog.info? 27).map (·.size) = some 1 := by kernel_rfl
theorem siIts : (Tryz.prog.info? 58).map (·.size) = some 1 := by kernel_rfl
theorem bdVt (lp mb : Nat) (w : World) : (Instr.build 78 #[(0, .pointer (some ⟨lp, 0, none⟩)), (2, .map (some mb))]).run Tryz.prog w = .ok (.agg (vtA lp 0 mb)) w := by kernel_rfl
theorem bdRv0 (w : World) : (Instr.build 62 #[]).run Tryz.prog w = .ok (.agg (rvA none none 0 0 0)) w := by kernel_rfl
theorem bdRv (mp : Nat) (ao : Option Addr) (n cap : Nat) (inc : Int) (w : World) : (Instr.build 62 #[(0, .pointer (some ⟨mp, 0, none⟩)), (1, .slice ao n cap), (2, .int .i64 inc)]).run Tryz.prog w = .ok (.agg (rvA (some mp) ao n cap inc)) w := by kernel_rfl
theorem bdI0 (w : World) : (Instr.build 42 #[]).run Tryz.prog w = .ok (.agg (itA zM)) w := by kernel_rfl
theorem bdV0 (w : World) : (Instr.build 40 #[]).run Tryz.prog w = .ok (.agg (veA zV)) w := by kernel_rfl
theorem bdI012 (k : Nat) (v : VM) (ao : Option Addr) (cap : Nat) (l : List Nat) (w : World) : (Instr.build 42 #[(0, .agg (idA k)), (1, .agg (veA v)), (2, .slice ao l.length cap)]).run Tryz.prog w = .ok (.agg (itA (mkI k v ao cap l))) w := by kernel_rfl
theorem bdI01 (k : Nat) (v : VM) (w : World) : (Instr.build 42 #[(0, .agg (idA k)), (1, .agg (veA v))]).run Tryz.prog w = .ok (.agg (itA (mkI k v none 0 []))) w := by kernel_rfl
theorem bdV01 (n : Int) (k : Nat) (w : World) : (Instr.build 40 #[(0, .int .i64 n), (1, .agg (idA k))]).run Tryz.prog w = .ok (.agg (veA (mkV n k))) w := by kernel_rfl
theorem YY {o : Oper} {A : Act} (x : Operand) (ho : o.op = .field 42 x 1) (y : IM) (hx : A.eval x = .agg (itA y)) (w : World) : (execOp A.eval o).run Tryz.prog w = .ok (.value (.agg (veA y.ver))) w := by
  have h1 : (Instr.field 42 (.agg (itA y)) 1).run Tryz.prog w = .ok (.agg (veA y.ver)) w := by kernel_rfl
  unfold execOp
  simp only [ho, hx, Sem.run_bind, h1, Result.andThen_ok, Sem.run_pure]
theorem YX {o : Oper} {A : Act} (x : Operand) (ho : o.op = .field 40 x 0) (y : VM) (hx : A.eval x = .agg (veA y)) (w : World) : (execOp A.eval o).run Tryz.prog w = .ok (.value (.int .i64 y.n)) w := by
  have h1 : (Instr.field 40 (.agg (veA y)) 0).run Tryz.prog w = .ok (.int .i64 y.n) w := by kernel_rfl
  unfold execOp
  simp only [ho, hx, Sem.run_bind, h1, Result.andThen_ok, Sem.run_pure]
def IM.re (x : IM) (ao : Option Addr) (cap : Nat) : IM := ⟨x.key, x.n, x.who, ao, cap, x.val⟩
theorem IM.ok.re {x : IM} (h : x.ok) (ao : Option Addr) (cap : Nat) : (x.re ao cap).ok := ⟨h.key, h.n, h.who⟩
theorem Zp (x : IM) (ao : Option Addr) (cap : Nat) : splice (itA x) 33 #[.slice ao x.val.length cap] = itA (x.re ao cap) := by kernel_rfl
theorem QG (lp : Nat) (inc inc' : Int) (mb : Nat) : splice (vtA lp inc mb) 1 #[.int .i64 inc'] = vtA lp inc' mb := by kernel_rfl
theorem jbo (mp : Option Nat) (ao : Option Addr) (n cap : Nat) (inc inc' : Int) : splice (rvA mp ao n cap inc) 2 #[.int .i64 inc'] = rvA mp ao n cap inc' := by kernel_rfl
theorem jbn (mp : Option Nat) (ao : Option Addr) (n cap : Nat) (inc : Int) (ao' : Option Addr) (n' cap' : Nat) : splice (rvA mp ao n cap inc) 1 #[.slice ao' n' cap'] = rvA mp ao' n' cap' inc := by kernel_rfl
theorem rM : RowT Tryz.prog 58 42 kM.sz 64 (.agg (itA zM)) := ⟨underlying58, uF (by kernel_rfl), zB zM, by decide⟩
theorem bsM (a : IM) (w : World) : (Instr.buildSlice 58 1 #[(0, .agg (itA a))]).run Tryz.prog w = .ok (.slice (some ⟨w.heap.size, 0, none⟩) 1 1) (w.alloc (.cells ([a].flatMap kM.E).toArray 42)) := by kernel_rfl
theorem atM {w : World} {ao : Option Addr} {cap : Nat} {l : List IM} (h : RK kM w ao cap l) {j : Nat} (hj : j < l.length) : (l.getD j zM).ok := h.at hj
section
variable {o : Oper} {A : Act} {w : World} {ao : Option Addr} {cap : Nat}
theorem ZL {l : List IM} (h : RK kM w ao cap l) (x : Operand) (ho : o.op = .load 42 x) (j : Nat) (hx : A.eval x = .pointer (pK kM ao j 0)) (hj : j < l.length) : (execOp A.eval o).run Tryz.prog w = .ok (.value (.agg (itA (l.getD j zM)))) w :=
  Zt h 42 _ underlying42 rfl 0 34 siIt (Nat.le_refl _) x ho j hx hj _ (dI_0 _)
theorem zr {l : List IM} (h : RK kM w ao cap l) (x : Operand) (ho : o.op = .load 38 x) (j : Nat) (hx : A.eval x = .pointer (pK kM ao j 0)) (hj : j < l.length) : (execOp A.eval o).run Tryz.prog w = .ok (.value (.agg (idA (l.getD j zM).key))) w :=
  Zt h 38 _ underlying38 rfl 0 16 size23 (by decide) x ho j hx hj _ (dI_k _)
theorem yf {l : List IM} (h : RK kM w ao cap l) (x : Operand) (ho : o.op = .load 40 x) (j : Nat) (hx : A.eval x = .pointer (pK kM ao j 16)) (hj : j < l.length) : (execOp A.eval o).run Tryz.prog w = .ok (.value (.agg (veA (l.getD j zM).ver))) w :=
  Zt h 40 _ underlying40 rfl 16 17 siVe (by decide) x ho j hx hj _ (dI_v _)
theorem uu {l : List IM} (h : RK kM w ao cap l) (x : Operand) (ho : o.op = .load 27 x) (j : Nat) (hx : A.eval x = .pointer (pK kM ao j 33)) (hj : j < l.length) : (execOp A.eval o).run Tryz.prog w = .ok (.value (.slice (l.getD j zM).ao (l.getD j zM).val.length (l.getD j zM).cap)) w :=
  VX h 27 (na27v w) 33 (by decide) x ho j hx hj _ (dI_r _)
end
theorem vm (w : World) (ad : Addr) : (Instr.fieldAt 42 (.pointer (some ad)) 0).run Tryz.prog w = .ok (.pointer (some (ad.add 0))) w := by kernel_rfl
theorem Ze (w : World) (ad : Addr) : (Instr.fieldAt 42 (.pointer (some ad)) 1).run Tryz.prog w = .ok (.pointer (some (ad.add 16))) w := by kernel_rfl
theorem Kr (w : World) (ad : Addr) : (Instr.fieldAt 42 (.pointer (some ad)) 2).run Tryz.prog w = .ok (.pointer (some (ad.add 33))) w := by kernel_rfl
theorem fieldsV : Tryz.prog.fieldsOf 40 = #[{ name := "N", type := 2, offset := 0, embedded := false, tag := "", pkgPath := "", byteOffset := 0 }, { name := "Who", type := 38, offset := 1, embedded := false, tag := "", pkgPath := "", byteOffset := 8 }] := by kernel_rfl
theorem undV : Tryz.prog.underlying 40 = some (.struct (Tryz.prog.fieldsOf 40)) := by rw [fieldsV]; exact underlying40
def eqV (x y : VM) : Bool := decide (x.n = y.n) && decide (x.who = y.who)
theorem eqFV (d : Nat) (x y : VM) (hx : x.ok) (hy : y.ok) (w : World) : (Op.equalIn (d + 1 + 1 + 1) 40 (.agg (veA x)) (.agg (veA y))).run Tryz.prog w = .ok (eqV x y) w := by
  have p1 : ∀ z : VM, (part 38 (veA z) 1).run Tryz.prog w = .ok (.agg (idA z.who)) w := fun z => by kernel_rfl
  have p2 : ∀ z : VM, (part 2 (veA z) 0).run Tryz.prog w = .ok (.int .i64 z.n) w := fun z => by kernel_rfl
  have h1 := eqI_id d x.who y.who hx.who hy.who w
  have h2 := run_equalIn_int (P := Tryz.prog) w (d + 1) 2 .i64 .i64 x.n y.n underlying2
  rw [beq_dec] at h2
  have e : eqV x y = (decide (x.n = y.n) && decide (x.who = y.who)) := rfl
  rw [e, run_equalIn_struct w (d + 1 + 1) 40 _ _ undV (by kernel_rfl), fieldsV]
  clear e hx hy
  generalize decide (x.who = y.who) = P1 at *
  generalize decide (x.n = y.n) = P2 at *
  unfold Op.eqFields
  rw [if_pos (by decide), Sem.run_bind, p2, Result.andThen_ok, Sem.run_bind, p2, Result.andThen_ok, Sem.run_bind, h2, Result.andThen_ok]
  cases P2
  · rfl
  rw [if_neg (by decide)]
  unfold Op.eqFields
  rw [if_pos (by decide), Sem.run_bind, p1, Result.andThen_ok, Sem.run_bind, p1, Result.andThen_ok, Sem.run_bind, h1, Result.andThen_ok]
  cases P1 <;> rfl
theorem Zr {o : Oper} {A : Act} {w : World} (x y : Operand) (t2 : TypeId) (ho : o.op = .binOp .neq 40 x y t2) (n m : VM) (hx : A.eval x = .agg (veA n)) (hy : A.eval y = .agg (veA m)) (hn : n.ok) (hm : m.ok) (p : Bool) (hp : eqV n m = !p) :
    (execOp A.eval o).run Tryz.prog w = .ok (.value (.bool p)) w := by
  have : p = !eqV n m := by rw [hp]; simp
  subst this
  exact jcl .neq 40 x y t2 ho _ _ hx hy (by kernel_rfl) _ (by rw [run_neq_struct, eqFV 9997 n m hn hm w]; rfl)
abbrev iA (x : IM) : Value := .agg (itA x)
abbrev eA (n : Nat) : Value := .agg (idA n)
end Go.Proofs.YtgfnjekpafempaaGreat
