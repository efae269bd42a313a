/- Rows of whatever kind; items and versions in memory. -/
import Derived.Test.YtgfnjekpafempaaGW6
import Derived.Test.YtgfnjekpafempaaGB2
import Derived.Test.YtgfnjekpafempaaGLaw3
import Derived.Test.YtgfnjekpafempaaGLaw2
import Derived.Test.YtgfnjekpafempaaGB11
namespace Go.Proofs.Ytgfnjekpafempaa
open Go.RowKit
theorem um (n : Nat) : (idA n).toList.length = 16 := by simp [idA]
theorem Yk (n : Nat) : ∀ v ∈ (idA n).toList, v.oneCell' = true := fun v hv => Array.all_eq_true_iff_forall_mem.1 (vB n) v (by simpa using hv)
theorem un (a b : Nat) : 0 + (idA a).size ≤ (idA b).size := by rw [zN, zN]; exact Nat.le_refl _
theorem Js (a b : Nat) : (idA a).size = (idA b).size := (zN a).trans (zN b).symm
theorem jaz (x : Int) : (#[Value.int .i64 x]).all (·.oneCell') = true := by kernel_rfl
theorem beq_dec (a b : Int) : (a == b) = decide (a = b) := rfl
theorem eqI_id (d : Nat) (a b : Nat) (ha : a < top) (hb : b < top) (w : World) : (Op.equalIn (d + 1 + 1) 52 (.agg (idA a)) (.agg (idA b))).run Try.prog w = .ok (decide (a = b)) w := by
  refine vE _ 52 5 16 Try.underlying52 w (Try.sizeOf5 w) (idA a) (idA b) (fun i => .int .u8 (byt a i)) (fun i => .int .u8 (byt b i)) (fun i => (byt a i : Int) == byt b i)
    (fun i hi => Ja a i hi w) (fun i hi => Ja b i hi w) (fun i _ => run_equalIn_int w _ 5 .u8 .u8 _ _ Try.underlying5) _ ?_
  rw [decide_eq_true_iff]
  constructor
  · rintro rfl i _; simp
  · intro h
    exact vW ha hb fun i hi => by have := h i hi; simp at this; omega
theorem KO {o : Oper} {A : Act} {w : World} (op : BinOp) (t : TypeId) (x y : Operand) (t2 : TypeId) (ho : o.op = .binOp op t x y t2) (c d : Array Value) (hx : A.eval x = .agg c) (hy : A.eval y = .agg d) (hm : Try.prog.eqGuardType Try.prog.depth t = false) (v : Value) (h : (binOp op t (.agg c) (.agg d)).run Try.prog w = .ok v w) : (execOp A.eval o).run Try.prog w = .ok (.value v) w :=
  jD op t x y t2 ho _ _ _ hx hy (run_eqGuard_agg w op t x y c d hm) h
section
variable {o : Oper} {A : Act} {w : World}
theorem Uy (x y : Operand) (t2 : TypeId) (ho : o.op = .binOp .eql 52 x y t2) (n m : Nat) (hx : A.eval x = .agg (idA n)) (hy : A.eval y = .agg (idA m)) (hn : n < top) (hm : m < top) (p : Bool) (hp : decide (n = m) = p) :
    (execOp A.eval o).run Try.prog w = .ok (.value (.bool p)) w := by
  subst hp
  exact uP x y t2 ho n m hx hy _ (fun w => VE n m hn hm w) w
theorem JN (x y : Operand) (t2 : TypeId) (ho : o.op = .binOp .neq 52 x y t2) (n m : Nat) (hx : A.eval x = .agg (idA n)) (hy : A.eval y = .agg (idA m)) (hn : n < top) (hm : m < top) (p : Bool) (hp : decide (n = m) = !p) :
    (execOp A.eval o).run Try.prog w = .ok (.value (.bool p)) w := by
  have : p = !decide (n = m) := by rw [hp]; simp
  subst this
  exact uP x y t2 ho n m hx hy _ (fun w => Vy n m hn hm w) w
end
section
variable {α : Type} {enc : α → List Value} {sz : Nat}
theorem yD (h : ∀ x, (enc x).length = sz) : ∀ l : List α, (l.flatMap enc).length = l.length * sz
  | [] => by simp
  | n :: l => by rw [List.flatMap_cons, List.length_append, h, yD h l, List.length_cons, Nat.add_mul, Nat.one_mul, Nat.add_comm]
theorem Vm (h : ∀ x, (enc x).length = sz) : ∀ (i : Nat) (l : List α), (l.flatMap enc).drop (i * sz) = (l.drop i).flatMap enc
  | 0, l => by simp
  | i + 1, [] => by simp
  | i + 1, n :: l => by
    rw [List.flatMap_cons, List.drop_succ_cons, ← Vm h i l, show (i + 1) * sz = (enc n).length + i * sz by rw [h, Nat.add_mul, Nat.one_mul, Nat.add_comm], List.drop_length_add_append]
theorem jbn (h : ∀ x, (enc x).length = sz) (z : α) (l : List α) (j : Nat) (hj : j < l.length) : (l.flatMap enc).drop (j * sz) = enc (l.getD j z) ++ (l.drop (j + 1)).flatMap enc := by
  rw [Vm h, List.drop_eq_getElem_cons hj, List.flatMap_cons]
  simp [List.getD_eq_getElem?_getD, hj]
theorem flx_el (h : ∀ x, (enc x).length = sz) (z : α) (l : List α) (j : Nat) (hj : j < l.length) (q k : Nat) (hq : q + k ≤ sz) : ((l.flatMap enc).drop (j * sz + q)).take k = ((enc (l.getD j z)).drop q).take k := by
  rw [← List.drop_drop, jbn h z l j hj, List.drop_append_of_le_length (by rw [h]; omega), List.take_append_of_le_length (by rw [List.length_drop, h]; omega)]
theorem Zv (h : ∀ x, (enc x).length = sz) (z : α) (l : List α) (j : Nat) (hj : j < l.length) (q : Nat) (hq : q < sz) : (l.flatMap enc)[j * sz + q]? = (enc (l.getD j z))[q]? := by
  have := jbn h z l j hj
  rw [← List.getElem?_drop, this, List.getElem?_append_left (by rw [h]; exact hq)]
end
section
variable {P : Program} {o : Oper} {A : Act} {w : World} {sz cap n : Nat} {cs : List Value} {ad : Addr}
theorem KK (ty : TypeId) (d : TypeDesc) (hu : P.underlying ty = some d) (hd : (match d with | .struct _ | .array _ _ => true | _ => false) = true) (k : Nat) (hi : (P.info? ty).map (·.size) = some k) (x : Operand) (ho : o.op = .load ty x) (q : Nat) (hx : A.eval x = .pointer (some (ad.add q))) (h : XC w sz (some ad) cap n cs) (hq : q + k ≤ cs.length) :
    (execOp A.eval o).run P w = .ok (.value (.agg ((cs.drop q).take k).toArray)) w := by
  have hlen : ((cs.drop q).take k).length = k := by rw [List.length_take, List.length_drop]; omega
  have hld : (loadCells (ad.add q) k).run P w = .ok ((cs.drop q).take k).toArray w := by
    have := run_loadCells_list (P := P) w (ad.add q) ((cs.drop q).take k) fun i v hv => by
      rw [List.getElem?_take] at hv
      split at hv
      · rw [List.getElem?_drop] at hv
        rw [JZ]
        exact h.cell ad rfl _ v hv
      · cases hv
    rwa [hlen] at this
  have hagg : (isAgg ty).run P w = .ok true w := by
    unfold isAgg
    rw [Sem.run_bind, run_underlying hu w]
    cases d <;> simp_all
  have hsz : (sizeOf ty).run P w = .ok k w := by
    cases e : P.info? ty with
    | none => rw [e] at hi; cases hi
    | some i =>
      rw [e] at hi
      cases hi
      simp [sizeOf, typeInfo, e]
  have hv : (loadVar ty (ad.add q)).run P w = .ok (.agg ((cs.drop q).take k).toArray) w := by
    simp [loadVar, hagg, hsz, hld]
  unfold execOp
  simp only [ho, hx, Instr.loadAt, Instr.sureAddr, Sem.run_bind, Sem.run_pure, Result.andThen_ok, hv]
theorem KJ (ty : TypeId) (hu : (isAgg ty).run P w = .ok false w) (x : Operand) (ho : o.op = .load ty x) (q : Nat) (hx : A.eval x = .pointer (some (ad.add q))) (h : XC w sz (some ad) cap n cs) (v : Value) (hv : cs[q]? = some v) :
    (execOp A.eval o).run P w = .ok (.value v) w := by
  have hc := h.cell ad rfl q v hv
  unfold execOp
  simp only [ho, hx]
  simp [Instr.loadAt, Instr.sureAddr, Sem.run_bind, loadVar, hu, hc, go_sem]
theorem jcu (s : TypeId) (x : Operand) (i : Nat) (ho : o.op = .fieldAddr s x i) (hx : A.eval x = .pointer (some ad)) (r : Addr)
    (hf : (Instr.fieldAt s (.pointer (some ad)) i).run P w = .ok (.pointer (some r)) w) : (execOp A.eval o).run P w = .ok (.value (.pointer (some r))) w := by
  unfold execOp
  simp only [ho, hx, Sem.run_bind, hf, Result.andThen_ok, Sem.run_pure]
end
section
variable {P : Program} {o : Oper} {A : Act}
theorem zm (t : TypeId) (x y : Operand) (t2 : TypeId) (ho : o.op = .binOp .add t x y t2) (a b r : Int) (hx : A.eval x = .int .i64 a) (hy : A.eval y = .int .i64 b) (hr : a + b = r) (h1 : -9223372036854775808 ≤ r) (h2 : r < 9223372036854775808) (w : World) : (execOp A.eval o).run P w = .ok (.value (.int .i64 r)) w := by
  subst hr
  refine jD .add t x y t2 ho _ _ _ hx hy (by simp [eqGuard]) ?_
  simp [go_sem]
  exact yg _ h1 h2
variable {ops : Array Oper} {rest : List Oper} {T : List Value} {ds : List Deferred} {w : World} {Q : Exit → Act → World → Prop}
end
theorem Calls.bool {P : Program} {f : FuncId} {args : Array Value} {w : World} {R : World → World → Prop} {p q : Bool} (h : Calls P f args w fun e w' => e = .returned (.bool p) ∧ R w w') (e : p = q) : Calls P f args w fun e w' => e = .returned (.bool q) ∧ R w w' := e ▸ h
def NE (ao : Option Addr) (n g : Nat) : Prop := ∀ ad, ao = some ad → 0 < n → ad.block ≠ g
section
variable {w w' : World} {ao : Option Addr} {cap g : Nat}
theorem XC.st {sz n : Nat} {cs : List Value} {x : Obj} (h : XC w sz ao cap n cs) (St : Stored w w' g x) (hn : NE ao cs.length g) : XC w' sz ao cap n cs :=
  ⟨h.len, h.fit, h.bare, fun ad ha j v hv => (World.cell?_of_block (St.old _ (by rw [zU]; exact hn ad ha (by have := (List.getElem?_eq_some_iff.1 hv).1; omega)))).trans (h.cell ad ha j v hv), h.one⟩
theorem Stored.gros {x : Obj} (St : Stored w w' g x) : GroS [g] w w' := ⟨St.os, St.tape, St.output, Nat.le_of_eq St.size.symm, fun k _ hk => St.old k (by simpa using hk)⟩
end
/-! ### Candidates and keys -/
theorem ldI0 {o : Oper} {A : Act} {w : World} {x : Nat} (y : Operand) (ho : o.op = .load 52 y) (g : Nat) (hx : A.eval y = .pointer (some ⟨g, 0, none⟩)) (hg : w.heap[g]? = some (.cells (idA x) 52 (0, 0))) : (execOp A.eval o).run Try.prog w = .ok (.value (.agg (idA x))) w :=
  zP 52 y ho g 0 16 hx 52 _ hg _ Try.underlying52 rfl size23 (by rw [zN]; decide) _ (VV x)
/-! ### Likeness -/
/-! ### Rows of whatever -/
structure Kd (α : Type) where
  E : α → List Value
  sz : Nat
  ok : α → Prop
  z : α
  len : ∀ x, (E x).length = sz
  one : ∀ x, ∀ v ∈ E x, v.oneCell' = true
section
variable {α : Type}
structure RK (K : Kd α) (w : World) (ao : Option Addr) (cap : Nat) (l : List α) : Prop where
  xc : XC w K.sz ao cap l.length (l.flatMap K.E)
  all : ∀ x ∈ l, K.ok x
structure OW (K : Kd α) (e : TypeId) (w : World) (B : Nat) (ao : Option Addr) (cap : Nat) (l : List α) : Prop where
  own : OY w e K.sz B ao cap l.length (l.flatMap K.E)
  all : ∀ x ∈ l, K.ok x
variable {K : Kd α} {e : TypeId} {w w' : World} {ao : Option Addr} {cap B b g : Nat} {l : List α}
theorem UT : ∀ v ∈ l.flatMap K.E, v.oneCell' = true := fun v hv => by
  obtain ⟨n, _, hn⟩ := List.mem_flatMap.1 hv
  exact K.one n v hn
theorem RK.gro (h : RK K w ao cap l) (G : Gro w w') : RK K w' ao cap l := ⟨h.xc.gro G, h.all⟩
theorem RK.nil (w : World) : RK K w none 0 [] := ⟨XC.nil w K.sz, fun _ h => by cases h⟩
theorem RK.lt (h : RK K w ao cap l) : ∀ ad, ao = some ad → 0 < (l.flatMap K.E).length → ad.block < w.heap.size := h.xc.lt
theorem RK.ne (h : RK K w ao cap l) (e : w.heap.size = g) : NE ao (l.flatMap K.E).length g := fun ad ha h0 => by
  have := h.lt ad ha h0
  omega
theorem RK.st {x : Obj} (h : RK K w ao cap l) (St : Stored w w' g x) (hn : NE ao (l.flatMap K.E).length g) : RK K w' ao cap l := ⟨XC.st h.xc St hn, h.all⟩
theorem RK.gros {S : List Nat} (h : RK K w ao cap l) (G : GroS S w w') (hs : ∀ ad, ao = some ad → 0 < (l.flatMap K.E).length → ad.block ∉ S) : RK K w' ao cap l :=
  ⟨⟨h.xc.len, h.xc.fit, h.xc.bare, fun ad ha j v hv => by
    have h0 : 0 < (l.flatMap K.E).length := by have := (List.getElem?_eq_some_iff.1 hv).1; omega
    exact (World.cell?_of_block (by rw [zU]; exact G.old _ (h.lt ad ha h0) (hs ad ha h0))).trans (h.xc.cell ad ha j v hv), h.xc.one⟩, h.all⟩
theorem RK.below (h : RK K w ao cap l) {B : Nat} (G : Below B w w') (hb : ∀ ad, ao = some ad → 0 < (l.flatMap K.E).length → ad.block < B) : RK K w' ao cap l := ⟨h.xc.below G hb, h.all⟩
theorem RK.at (h : RK K w ao cap l) {j : Nat} (hj : j < l.length) : K.ok (l.getD j K.z) := by
  have : l.getD j K.z = l[j] := by simp [List.getD_eq_getElem?_getD, hj]
  rw [this]
  exact h.all _ (List.getElem_mem hj)
theorem RK.blk {t : TypeId} {fr : Nat × Nat} (hg : w.heap[g]? = some (.cells (l.flatMap K.E).toArray t fr)) (hl : ∀ x ∈ l, K.ok x) (hc : l.length ≤ cap) : RK K w (some ⟨g, 0, none⟩) cap l := by
  refine ⟨⟨yD K.len _, hc, fun h => (by cases h), fun ad ha j v hv => ?_, UT⟩, hl⟩
  cases ha
  rw [zQ, Nat.zero_add, cell_of_row w g j _ t _ hg]
  simpa using hv
theorem OW.re (h : OW K e w B ao cap l) : RK K w ao cap l := ⟨h.own.xc, h.all⟩
theorem OW.gro (h : OW K e w B ao cap l) (G : Gro w w') : OW K e w' B ao cap l := ⟨h.own.gro G, h.all⟩
theorem OW.nil (w : World) (B : Nat) : OW K e w B none 0 [] := ⟨OY.nil w e K.sz B, fun _ h => by cases h⟩
theorem OW.mono (h : OW K e w B ao cap l) {B' : Nat} (hB : B' ≤ B) : OW K e w B' ao cap l := ⟨h.own.mono hB, h.all⟩
theorem OW.gros {S : List Nat} (h : OW K e w B ao cap l) (G : GroS S w w') (hs : ∀ k ∈ Go.Proofs.Ytgfnjekpafempaa.blk ao, k ∉ S) : OW K e w' B ao cap l := ⟨h.own.gros G hs, h.all⟩
theorem OW.ne (h : OW K e w B ao cap l) (e : w.heap.size = g) : g ∉ Go.Proofs.Ytgfnjekpafempaa.blk ao := fun hm => by
  have := h.own.lt g hm
  omega
theorem OW.st {x : Obj} (h : OW K e w B ao cap l) (St : Stored w w' g x) (hn : g ∉ Go.Proofs.Ytgfnjekpafempaa.blk ao) : OW K e w' B ao cap l := h.gros St.gros fun k hk hm => hn (by rw [List.mem_singleton] at hm; exact hm ▸ hk)
theorem OW.blk (hg : w.heap[g]? = some (.cells (l.flatMap K.E).toArray e (0, 0))) (hl : ∀ x ∈ l, K.ok x) (hB : B ≤ g) (hm : l.length ≤ 1000000) : OW K e w B (some ⟨g, 0, none⟩) l.length l :=
  ⟨⟨yD K.len l, .inr ⟨g, 0, _, rfl, hB, hg, Nat.le_refl _, by unfold maxLen; omega, by simp only [List.size_toArray, yD K.len]; omega, by simp only [List.drop_zero]; rw [← yD K.len l]; exact List.take_length⟩, UT⟩, hl⟩
def pK (K : Kd α) (ao : Option Addr) (j q : Nat) : Option Addr := ao.map (·.add (j * K.sz + q))
variable {o : Oper} {A : Act} {t s : TypeId} {z : Value}
theorem zf (R : RowT Try.prog t e K.sz s z) (h : RK K w ao cap l) (x y : Operand) (ho : o.op = .indexAddr t x y) (hx : A.eval x = .slice ao l.length cap) (j : Nat) (hy : A.eval y = .int .i64 (j : Int)) (hj : j < l.length) :
    (execOp A.eval o).run Try.prog w = .ok (.value (.pointer (pK K ao j 0))) w := by
  obtain ⟨ad, rfl⟩ := h.xc.some (by omega)
  exact YP R x y ho ad _ _ j hx hy hj w
theorem jdu {j q k : Nat} (hj : j < l.length) (hq : q + k ≤ K.sz) : j * K.sz + q + k ≤ (l.flatMap K.E).length := by
  rw [yD K.len]
  have := Nat.mul_le_mul_right K.sz (show j + 1 ≤ l.length from hj)
  rw [Nat.add_mul, Nat.one_mul] at this
  omega
theorem Yf (h : RK K w ao cap l) (ty : TypeId) (d : TypeDesc) (hu : Try.prog.underlying ty = some d) (hd : (match d with | .struct _ | .array _ _ => true | _ => false) = true) (q k : Nat) (hi : (Try.prog.info? ty).map (·.size) = some k) (hq : q + k ≤ K.sz) (x : Operand) (ho : o.op = .load ty x) (j : Nat) (hx : A.eval x = .pointer (pK K ao j q)) (hj : j < l.length) (v : Array Value) (hv : ((K.E (l.getD j K.z)).drop q).take k = v.toList) :
    (execOp A.eval o).run Try.prog w = .ok (.value (.agg v)) w := by
  obtain ⟨ad, rfl⟩ := h.xc.some (by omega)
  rw [KK ty d hu (by cases d <;> first | rfl | cases hd) k hi x ho (j * K.sz + q) hx h.xc (jdu hj hq), flx_el K.len K.z l j hj q k hq, hv]
theorem YN (h : RK K w ao cap l) (ty : TypeId) (hu : (isAgg ty).run Try.prog w = .ok false w) (q : Nat) (hq : q < K.sz) (x : Operand) (ho : o.op = .load ty x) (j : Nat) (hx : A.eval x = .pointer (pK K ao j q)) (hj : j < l.length) (v : Value) (hv : (K.E (l.getD j K.z))[q]? = some v) :
    (execOp A.eval o).run Try.prog w = .ok (.value v) w := by
  obtain ⟨ad, rfl⟩ := h.xc.some (by omega)
  exact KJ ty hu x ho (j * K.sz + q) hx h.xc _ (by rw [Zv K.len K.z l j hj q hq, hv])
theorem zn (h : RK K w ao cap l) (ty : TypeId) (x : Operand) (i q : Nat) (hf : ∀ ad, (Instr.fieldAt ty (.pointer (some ad)) i).run Try.prog w = .ok (.pointer (some (ad.add q))) w) (ho : o.op = .fieldAddr ty x i) (j : Nat) (hx : A.eval x = .pointer (pK K ao j 0)) (hj : j < l.length) :
    (execOp A.eval o).run Try.prog w = .ok (.value (.pointer (pK K ao j q))) w := by
  obtain ⟨ad, rfl⟩ := h.xc.some (by omega)
  have := hf (ad.add (j * K.sz + 0))
  rw [JZ, Nat.add_zero] at this
  exact jcu ty x i ho hx _ this
variable {ops : Array Oper} {rest : List Oper} {T : List Value} {ds : List Deferred} {Q : Exit → Act → World → Prop}
theorem Zf (R : RowT Try.prog t e K.sz s z) (hs1 : 0 < s) (dst : Nat) (hd : o.dst = some dst) (hgd : o.guard = none) (a x : Operand) (ho : o.op = .call { callee := .builtin .append, args := #[a, x], argTypes := #[t, t] })
    (hs : (⟨T.toArray, ds⟩ : Act).eval a = .slice ao l.length cap) (hown : OW K e w B ao cap l)
    {ao' : Option Addr} {cap' : Nat} {l' : List α} (hx : (⟨T.toArray, ds⟩ : Act).eval x = .slice ao' l'.length cap') (hsrc : RK K w ao' cap' l') (hb : (l.length + l'.length) * s ≤ 140737488355328) (hB : B ≤ w.heap.size)
    (h : ∀ ao2 cap2 w', OW K e w' B ao2 cap2 (l ++ l') → GroS (Go.Proofs.Ytgfnjekpafempaa.blk ao) w w' → Kept w.heap.size ao ao2 → wpList Try.prog ops Q rest ⟨(T.set dst (.slice ao2 (l ++ l').length cap2)).toArray, ds⟩ w') : wpList Try.prog ops Q (o :: rest) ⟨T.toArray, ds⟩ w := by
  refine s_appY R dst hd hgd a x ho hs hown.own hx hsrc.xc hb hs1 hB ?_
  intro ao2 cap2 w' h1 h2 h3
  rw [← List.flatMap_append, ← List.length_append] at h1
  have := h ao2 cap2 w' ⟨h1, fun x hx => (List.mem_append.1 hx).elim (hown.all x) (hsrc.all x)⟩ h2 h3
  rw [List.length_append] at this
  exact this
end
theorem JR {α : Type} {p : α → Prop} {x : α} (h : p x) : ∀ y ∈ [x], p y := fun y hy => by rw [List.mem_singleton.1 hy]; exact h
theorem Ks (ao : Option Addr) (n cap : Nat) : (#[Value.slice ao n cap]).all (·.oneCell') = true := by kernel_rfl
def opsA2 (P : Program) (ops : Array Oper) (posts : List PostS) (A : (Nat → Value) → Act) (w0 : World) : Nat → List Oper → Prop
  | _, [] => True
  | i, o :: r => (∀ ptrs L w, Gro w0 w → newsHold2 L w0.heap.size posts ptrs w (edges o) → L i = false → OpOK2 P ops (postAt2 posts i) (postAt2 posts (postAt2 posts i).other) (ptrs (postAt2 posts i).other) o (A ptrs) w) ∧ opsA2 P ops posts A w0 (i + 1) r
theorem uh {P : Program} {ops : Array Oper} {posts : List PostS} {A : (Nat → Value) → Act} {w0 : World} {i : Nat} : opsA2 P ops posts A w0 i [] := trivial
theorem jz {P : Program} {ops : Array Oper} {posts : List PostS} {A : (Nat → Value) → Act} {w0 : World} {i : Nat} {o : Oper} {r : List Oper}
    (h : ∀ ptrs L w, Gro w0 w → newsHold2 L w0.heap.size posts ptrs w (edges o) → L i = false → OpOK2 P ops (postAt2 posts i) (postAt2 posts (postAt2 posts i).other) (ptrs (postAt2 posts i).other) o (A ptrs) w) (hr : opsA2 P ops posts A w0 (i + 1) r) : opsA2 P ops posts A w0 i (o :: r) := ⟨h, hr⟩
theorem ZO {P : Program} {ops : Array Oper} {posts : List PostS} {a0 : Act} {D : List (Nat × Nat)} {w0 : World} : ∀ (l : List Oper) (i : Nat), opsA2 P ops posts (fun ptrs => full a0 D (filled2 posts ptrs)) w0 i l → opsOK2 P ops posts a0 D w0 i l
  | [], _, _ => trivial
  | _ :: r, i, h => ⟨h.1, ZO r (i + 1) h.2⟩
theorem yr {P : Program} {id : Nat} {l : List Oper} {Q : Exit → Act → World → Prop} {a0 : Act} {w : World} {A : (Nat → Value) → Act} (n : Nat) (D : List (Nat × Nat)) (posts : List PostS) (hm : P.follows .mixedOrders = true)
    (hB : growB l.toArray n D = true) (hP : postsB l.toArray n (postAt2 posts) = true) (hsz : (D.all fun p => decide (p.2 < a0.tmps.size)) = true)
    (hA : ∀ ptrs, full a0 D (filled2 posts ptrs) = A ptrs)
    (hop : opsA2 P l.toArray posts A w.drew 0 (l.take n))
    (hrest : ∀ ptrs L w', Gro w.drew w' → (∀ i, L i = decide (i < n)) → newsHold2 L w.heap.size posts ptrs w' (List.range n) → newsApart2 posts ptrs n → wpList P l.toArray Q (l.drop n) (A ptrs) w') :
    (Code.region id l.toArray true).wp P Q a0 w := by
  have e : A = fun ptrs => full a0 D (filled2 posts ptrs) := funext fun ptrs => (hA ptrs).symm
  subst e
  exact JG n D posts hm hB hP hsz (ZO _ _ hop) hrest
section
variable {w : World} {ao : Option Addr} {cap B g : Nat}
theorem RK.neG {α : Type} {K : Kd α} {l : List α} (h : RK K w ao cap l) (c : w.heap.size ≤ g) : NE ao (l.flatMap K.E).length g := fun ad ha h0 => by
  have := h.lt ad ha h0
  omega
theorem OW.neG {α : Type} {K : Kd α} {e : TypeId} {l : List α} (h : OW K e w B ao cap l) (c : w.heap.size ≤ g) : g ∉ Go.Proofs.Ytgfnjekpafempaa.blk ao := fun hm => by
  have := h.own.lt g hm
  omega
end
/-! ### Stores into rows -/
def spl {α : Type} (l : List α) (j : Nat) (vs : List α) : List α := l.take j ++ (vs ++ l.drop (j + vs.length))
theorem Um {α : Type} (l : List α) (j : Nat) (vs : List α) (h : j + vs.length ≤ l.length) (i : Nat) : (spl l j vs)[i]? = if i < j then l[i]? else if i < j + vs.length then vs[i - j]? else l[i]? := by
  unfold spl
  have h1 : (l.take j).length = j := by rw [List.length_take]; omega
  by_cases c1 : i < j
  · rw [if_pos c1, List.getElem?_append_left (by omega), List.getElem?_take, if_pos c1]
  · rw [if_neg c1, List.getElem?_append_right (by omega), h1]
    by_cases c2 : i < j + vs.length
    · rw [if_pos c2, List.getElem?_append_left (by omega)]
    · rw [if_neg c2, List.getElem?_append_right (by omega), List.getElem?_drop]
      congr 1
      omega
theorem jcl {α : Type} (l : List α) (j : Nat) (vs : List α) (h : j + vs.length ≤ l.length) : (spl l j vs).length = l.length := by
  unfold spl
  simp only [List.length_append, List.length_take, List.length_drop]
  omega
theorem jcm {α : Type} {p : α → Prop} {l : List α} {j : Nat} {vs : List α} (h : ∀ x ∈ l, p x) (k : ∀ x ∈ vs, p x) : ∀ x ∈ spl l j vs, p x := fun x hx => by
  unfold spl at hx
  rcases List.mem_append.1 hx with hx | hx
  · exact h x (List.mem_of_mem_take hx)
  rcases List.mem_append.1 hx with hx | hx
  · exact k x hx
  · exact h x (List.mem_of_mem_drop hx)
theorem Vu {α : Type} (l : List α) (d m j : Nat) (vs : List α) (h : j + vs.length ≤ m) (hm : d + m ≤ l.length) : ((spl l (d + j) vs).drop d).take m = spl ((l.drop d).take m) j vs := by
  apply List.ext_getElem?
  intro i
  rw [Um _ _ _ (by rw [List.length_take, List.length_drop]; omega), List.getElem?_take, List.getElem?_drop, Um _ _ _ (by omega), List.getElem?_take, List.getElem?_drop]
  by_cases c0 : i < m
  · rw [if_pos c0, if_pos c0]
    by_cases c1 : i < j
    · rw [if_pos c1, if_pos (by omega)]
    · rw [if_neg c1, if_neg (by omega)]
      by_cases c2 : i < j + vs.length
      · rw [if_pos c2, if_pos (by omega)]
        congr 1
        omega
      · rw [if_neg c2, if_neg (by omega)]
  · rw [if_neg c0, if_neg c0, if_neg (by omega), if_neg (by omega)]
theorem OY.put {w : World} {e : TypeId} {sz B : Nat} {ao : Option Addr} {cap n : Nat} {cs : List Value} (h : OY w e sz B ao cap n cs) {j : Nat} (vs : List Value) (hj : j + vs.length ≤ n * sz) (h0 : 0 < vs.length) (hv : ∀ v ∈ vs, v.oneCell' = true) : ∃ g d cur, ao = some ⟨g, d, none⟩ ∧ B ≤ g ∧ w.heap[g]? = some (.cells cur e (0, 0)) ∧ d + j + vs.length ≤ cur.size ∧
    ∀ w', Stored w w' g (.cells (splice cur (d + j) vs.toArray) e (0, 0)) → OY w' e sz B ao cap n (spl cs j vs) := by
  rcases h.row with ⟨_, _, h3⟩ | ⟨g, d, cur, h1, h2, h3, h4, h5, h6, h7⟩
  · rw [h3, Nat.zero_mul] at hj
    omega
  have hm2 : n * sz ≤ cap * sz := Nat.mul_le_mul_right _ h4
  have e1 : (splice cur (d + j) vs.toArray).toList = spl cur.toList (d + j) vs := by simp [splice, spl, List.append_assoc]
  have hle : d + j + vs.length ≤ cur.size := by omega
  refine ⟨g, d, cur, h1, h2, h3, hle, fun w' St => ⟨by rw [jcl _ _ _ (by rw [h.len]; exact hj)]; exact h.len, .inr ⟨g, d, _, h1, h2, St.new, h4, h5, ?_, ?_⟩, jcm h.one hv⟩⟩
  · have : (splice cur (d + j) vs.toArray).size = cur.size := YE _ _ _ (by simpa using hle)
    omega
  · rw [e1, Vu _ _ _ _ _ hj (by rw [Array.length_toList]; omega), h7]
/-! ### Items and versions -/
structure VM where
  n : Int
  who : Nat
structure IM where
  key : Nat
  n : Int
  who : Nat
  ao : Option Addr
  cap : Nat
  val : List Nat
def I64 (x : Int) : Prop := -9223372036854775808 ≤ x ∧ x < 9223372036854775808
structure VM.ok (x : VM) : Prop where
  n : I64 x.n
  who : x.who < top
structure IM.ok (x : IM) : Prop where
  key : x.key < top
  n : I64 x.n
  who : x.who < top
def mkV (n : Int) (w : Nat) : VM := ⟨n, w⟩
def zV : VM := ⟨0, 0⟩
def mkI (k : Nat) (v : VM) (ao : Option Addr) (cap : Nat) (l : List Nat) : IM := ⟨k, v.n, v.who, ao, cap, l⟩
def zM : IM := ⟨0, 0, 0, none, 0, []⟩
def IM.ver (x : IM) : VM := ⟨x.n, x.who⟩
theorem IM.ok.ver {x : IM} (h : x.ok) : x.ver.ok := ⟨h.n, h.who⟩
theorem Jp {n : Int} {w : Nat} (h1 : I64 n) (h2 : w < top) : (mkV n w).ok := ⟨h1, h2⟩
theorem Zq {k : Nat} {v : VM} {ao : Option Addr} {cap : Nat} {l : List Nat} (h1 : k < top) (h2 : v.ok) : (mkI k v ao cap l).ok := ⟨h1, h2.n, h2.who⟩
def veL (x : VM) : List Value := .int .i64 x.n :: (idA x.who).toList
def veA (x : VM) : Array Value := (veL x).toArray
def itL (x : IM) : List Value := (idA x.key).toList ++ (.int .i64 x.n :: ((idA x.who).toList ++ [.slice x.ao x.val.length x.cap]))
def itA (x : IM) : Array Value := (itL x).toArray
theorem jcg (x : VM) : (veL x).length = 17 := by simp [veL, idA]
theorem yJ (x : VM) : (veA x).size = 17 := jcg x
theorem ul (x : IM) : (itL x).length = 34 := by simp [itL, idA]
theorem zX (x : IM) : (itA x).size = 34 := ul x
theorem jcf (x : VM) : ∀ v ∈ veL x, v.oneCell' = true := fun v hv => by
  rcases List.mem_cons.1 hv with rfl | h
  · rfl
  · exact Yk _ _ h
theorem JV (x : IM) : ∀ v ∈ itL x, v.oneCell' = true := fun v hv => by
  rcases List.mem_append.1 hv with h | h
  · exact Yk _ _ h
  · rcases List.mem_cons.1 h with rfl | h
    · rfl
    · rcases List.mem_append.1 h with h | h
      · exact Yk _ _ h
      · rw [List.mem_singleton.1 h]
        rfl
theorem vt (x : VM) : (veA x).all (·.oneCell') = true := by
  rw [Array.all_eq_true_iff_forall_mem]
  exact fun v hv => jcf x v (by simpa [veA] using hv)
theorem jQ (x : IM) : (itA x).all (·.oneCell') = true := by
  rw [Array.all_eq_true_iff_forall_mem]
  exact fun v hv => JV x v (by simpa [itA] using hv)
theorem uz (a b : VM) : (veA a).size = (veA b).size := (yJ a).trans (yJ b).symm
theorem vu (a b : VM) : 0 + (veA a).size ≤ (veA b).size := by rw [yJ, yJ]; exact Nat.le_refl _
theorem jZ (a b : IM) : (itA a).size = (itA b).size := (zX a).trans (zX b).symm
theorem jT (a b : IM) : 0 + (itA a).size ≤ (itA b).size := by rw [zX, zX]; exact Nat.le_refl _
theorem siIt : (Try.prog.info? 56).map (·.size) = some 34 := by kernel_rfl
theorem siVe : (Try.prog.info? 54).map (·.size) = some 17 := by kernel_rfl
theorem siIt' (x : IM) : (Try.prog.info? 56).map (·.size) = some (itA x).size := by rw [zX]; exact siIt
theorem siVe' (x : VM) : (Try.prog.info? 54).map (·.size) = some (veA x).size := by rw [yJ]; exact siVe
theorem zeroIt (w : World) : (zeroValue 56).run Try.prog w = .ok (.agg (itA zM)) w := by rw [Try.zeroValue56]; kernel_rfl
theorem zeroVe (w : World) : (zeroValue 54).run Try.prog w = .ok (.agg (veA zV)) w := by rw [Try.zeroValue54]; kernel_rfl
def kM : Kd IM := ⟨itL, 34, IM.ok, zM, ul, JV⟩
theorem na2v (w : World) : (isAgg 2).run Try.prog w = .ok false w := by kernel_rfl
theorem na30v (w : World) : (isAgg 30).run Try.prog w = .ok false w := by kernel_rfl
theorem na45v (w : World) : (isAgg 45).run Try.prog w = .ok false w := by kernel_rfl
theorem na89v (w : World) : (isAgg 89).run Try.prog w = .ok false w := by kernel_rfl
theorem na86v (w : World) : (isAgg 86).run Try.prog w = .ok false w := by kernel_rfl
theorem aI_0 (x : IM) : (itA x).extract 0 (0 + 34) = itA x := by kernel_rfl
theorem aI_k (x : IM) : (itA x).extract 0 (0 + 16) = idA x.key := by kernel_rfl
theorem aI_v (x : IM) : (itA x).extract 16 (16 + 17) = veA x.ver := by kernel_rfl
theorem aI_n (x : IM) : (itA x)[16]? = some (.int .i64 x.n) := by kernel_rfl
theorem aI_r (x : IM) : (itA x)[33]? = some (.slice x.ao x.val.length x.cap) := by kernel_rfl
theorem aV_0 (x : VM) : (veA x).extract 0 (0 + 17) = veA x := by kernel_rfl
theorem aV_n (x : VM) : (veA x)[0]? = some (.int .i64 x.n) := by kernel_rfl
theorem aV_w (x : VM) : (veA x).extract 1 (1 + 16) = idA x.who := by kernel_rfl
theorem dI_0 (x : IM) : ((itL x).drop 0).take 34 = (itA x).toList := by kernel_rfl
theorem dI_k (x : IM) : ((itL x).drop 0).take 16 = (idA x.key).toList := by kernel_rfl
theorem dI_v (x : IM) : ((itL x).drop 16).take 17 = (veA x.ver).toList := by kernel_rfl
theorem dI_r (x : IM) : (itL x)[33]? = some (.slice x.ao x.val.length x.cap) := by kernel_rfl
def vtA (lp : Nat) (inc : Int) (mb : Nat) : Array Value := #[.pointer (some ⟨lp, 0, none⟩), .int .i64 inc, .map (some mb)]
def rvA (mp : Option Nat) (ao : Option Addr) (n cap : Nat) (inc : Int) : Array Value := #[.pointer (mp.map fun g => ⟨g, 0, none⟩), .slice ao n cap, .int .i64 inc]
theorem ldIt0 {o : Oper} {A : Act} {w : World} {x : IM} (y : Operand) (ho : o.op = .load 56 y) (g : Nat) (hx : A.eval y = .pointer (some ⟨g, 0, none⟩)) (hg : w.heap[g]? = some (.cells (itA x) 56 (0, 0))) : (execOp A.eval o).run Try.prog w = .ok (.value (.agg (itA x))) w :=
  zP 56 y ho g 0 34 hx 56 _ hg _ Try.underlying56 rfl siIt (by rw [zX]; decide) _ (aI_0 x)
theorem ldItk {o : Oper} {A : Act} {w : World} {x : IM} (y : Operand) (ho : o.op = .load 52 y) (g : Nat) (hx : A.eval y = .pointer (some ⟨g, 0, none⟩)) (hg : w.heap[g]? = some (.cells (itA x) 56 (0, 0))) : (execOp A.eval o).run Try.prog w = .ok (.value (.agg (idA x.key))) w :=
  zP 52 y ho g 0 16 hx 56 _ hg _ Try.underlying52 rfl size23 (by rw [zX]; decide) _ (aI_k x)
theorem ldItv {o : Oper} {A : Act} {w : World} {x : IM} (y : Operand) (ho : o.op = .load 54 y) (g : Nat) (hx : A.eval y = .pointer (some ⟨g, 16, none⟩)) (hg : w.heap[g]? = some (.cells (itA x) 56 (0, 0))) : (execOp A.eval o).run Try.prog w = .ok (.value (.agg (veA x.ver))) w :=
  zP 54 y ho g 16 17 hx 56 _ hg _ Try.underlying54 rfl siVe (by rw [zX]; decide) _ (aI_v x)
theorem ldItn {o : Oper} {A : Act} {w : World} {x : IM} (y : Operand) (ho : o.op = .load 2 y) (g : Nat) (hx : A.eval y = .pointer (some ⟨g, 16, none⟩)) (hg : w.heap[g]? = some (.cells (itA x) 56 (0, 0))) : (execOp A.eval o).run Try.prog w = .ok (.value (.int .i64 x.n)) w :=
  jq 2 y ho g 16 hx 56 _ hg (na2v w) _ (aI_n x)
theorem ldItr {o : Oper} {A : Act} {w : World} {x : IM} (y : Operand) (ho : o.op = .load 30 y) (g : Nat) (hx : A.eval y = .pointer (some ⟨g, 33, none⟩)) (hg : w.heap[g]? = some (.cells (itA x) 56 (0, 0))) : (execOp A.eval o).run Try.prog w = .ok (.value (.slice x.ao x.val.length x.cap)) w :=
  jq 30 y ho g 33 hx 56 _ hg (na30v w) _ (aI_r x)
theorem ldVe0 {o : Oper} {A : Act} {w : World} {x : VM} (y : Operand) (ho : o.op = .load 54 y) (g : Nat) (hx : A.eval y = .pointer (some ⟨g, 0, none⟩)) (hg : w.heap[g]? = some (.cells (veA x) 54 (0, 0))) : (execOp A.eval o).run Try.prog w = .ok (.value (.agg (veA x))) w :=
  zP 54 y ho g 0 17 hx 54 _ hg _ Try.underlying54 rfl siVe (by rw [yJ]; decide) _ (aV_0 x)
theorem ldVen {o : Oper} {A : Act} {w : World} {x : VM} (y : Operand) (ho : o.op = .load 2 y) (g : Nat) (hx : A.eval y = .pointer (some ⟨g, 0, none⟩)) (hg : w.heap[g]? = some (.cells (veA x) 54 (0, 0))) : (execOp A.eval o).run Try.prog w = .ok (.value (.int .i64 x.n)) w :=
  jq 2 y ho g 0 hx 54 _ hg (na2v w) _ (aV_n x)
theorem ldVew {o : Oper} {A : Act} {w : World} {x : VM} (y : Operand) (ho : o.op = .load 52 y) (g : Nat) (hx : A.eval y = .pointer (some ⟨g, 1, none⟩)) (hg : w.heap[g]? = some (.cells (veA x) 54 (0, 0))) : (execOp A.eval o).run Try.prog w = .ok (.value (.agg (idA x.who))) w :=
  zP 52 y ho g 1 16 hx 54 _ hg _ Try.underlying52 rfl size23 (by rw [yJ]; decide) _ (aV_w x)
theorem ldVtl {o : Oper} {A : Act} {w : World} {lp mb : Nat} {inc : Int} (y : Operand) (ho : o.op = .load 86 y) (g : Nat) (hx : A.eval y = .pointer (some ⟨g, 0, none⟩)) (hg : w.heap[g]? = some (.cells (vtA lp inc mb) 91 (0, 0))) : (execOp A.eval o).run Try.prog w = .ok (.value (.pointer (some ⟨lp, 0, none⟩))) w :=
  jq 86 y ho g 0 hx 91 _ hg (na86v w) _ (by kernel_rfl)
theorem ldVti {o : Oper} {A : Act} {w : World} {lp mb : Nat} {inc : Int} (y : Operand) (ho : o.op = .load 2 y) (g : Nat) (hx : A.eval y = .pointer (some ⟨g, 1, none⟩)) (hg : w.heap[g]? = some (.cells (vtA lp inc mb) 91 (0, 0))) : (execOp A.eval o).run Try.prog w = .ok (.value (.int .i64 inc)) w :=
  jq 2 y ho g 1 hx 91 _ hg (na2v w) _ (by kernel_rfl)
theorem ldVtm {o : Oper} {A : Act} {w : World} {lp mb : Nat} {inc : Int} (y : Operand) (ho : o.op = .load 89 y) (g : Nat) (hx : A.eval y = .pointer (some ⟨g, 2, none⟩)) (hg : w.heap[g]? = some (.cells (vtA lp inc mb) 91 (0, 0))) : (execOp A.eval o).run Try.prog w = .ok (.value (.map (some mb))) w :=
  jq 89 y ho g 2 hx 91 _ hg (na89v w) _ (by kernel_rfl)
theorem ldRvr {o : Oper} {A : Act} {w : World} {mp : Option Nat} {ao : Option Addr} {n cap : Nat} {inc : Int} (y : Operand) (ho : o.op = .load 45 y) (g : Nat) (hx : A.eval y = .pointer (some ⟨g, 1, none⟩)) (hg : w.heap[g]? = some (.cells (rvA mp ao n cap inc) 48 (0, 0))) : (execOp A.eval o).run Try.prog w = .ok (.value (.slice ao n cap)) w :=
  jq 45 y ho g 1 hx 48 _ hg (na45v w) _ (by kernel_rfl)
theorem ldRvi {o : Oper} {A : Act} {w : World} {mp : Option Nat} {ao : Option Addr} {n cap : Nat} {inc : Int} (y : Operand) (ho : o.op = .load 2 y) (g : Nat) (hx : A.eval y = .pointer (some ⟨g, 2, none⟩)) (hg : w.heap[g]? = some (.cells (rvA mp ao n cap inc) 48 (0, 0))) : (execOp A.eval o).run Try.prog w = .ok (.value (.int .i64 inc)) w :=
  jq 2 y ho g 2 hx 48 _ hg (na2v w) _ (by kernel_rfl)
theorem YB (lp : Nat) (inc : Int) (mb : Nat) : (vtA lp inc mb).size = 3 := rfl
theorem YG (mp : Option Nat) (ao : Option Addr) (n cap : Nat) (inc : Int) : (rvA mp ao n cap inc).size = 3 := rfl
theorem si64i : (Try.prog.info? 2).map (·.size) = some 1 := by kernel_rfl
theorem siBy : (Try.prog.info? 30).map (·.size) = some 1 := by kernel_rfl
theorem siIts : (Try.prog.info? 45).map (·.size) = some 1 := by kernel_rfl
theorem bdVt (lp mb : Nat) (w : World) : (Instr.build 91 #[(0, .pointer (some ⟨lp, 0, none⟩)), (2, .map (some mb))]).run Try.prog w = .ok (.agg (vtA lp 0 mb)) w := by kernel_rfl
theorem bdRv0 (w : World) : (Instr.build 48 #[]).run Try.prog w = .ok (.agg (rvA none none 0 0 0)) w := by kernel_rfl
theorem bdRv (mp : Nat) (ao : Option Addr) (n cap : Nat) (inc : Int) (w : World) : (Instr.build 48 #[(0, .pointer (some ⟨mp, 0, none⟩)), (1, .slice ao n cap), (2, .int .i64 inc)]).run Try.prog w = .ok (.agg (rvA (some mp) ao n cap inc)) w := by kernel_rfl
theorem bdI0 (w : World) : (Instr.build 56 #[]).run Try.prog w = .ok (.agg (itA zM)) w := by kernel_rfl
theorem bdV0 (w : World) : (Instr.build 54 #[]).run Try.prog w = .ok (.agg (veA zV)) w := by kernel_rfl
theorem bdI012 (k : Nat) (v : VM) (ao : Option Addr) (cap : Nat) (l : List Nat) (w : World) : (Instr.build 56 #[(0, .agg (idA k)), (1, .agg (veA v)), (2, .slice ao l.length cap)]).run Try.prog w = .ok (.agg (itA (mkI k v ao cap l))) w := by kernel_rfl
theorem bdI01 (k : Nat) (v : VM) (w : World) : (Instr.build 56 #[(0, .agg (idA k)), (1, .agg (veA v))]).run Try.prog w = .ok (.agg (itA (mkI k v none 0 []))) w := by kernel_rfl
theorem bdV01 (n : Int) (k : Nat) (w : World) : (Instr.build 54 #[(0, .int .i64 n), (1, .agg (idA k))]).run Try.prog w = .ok (.agg (veA (mkV n k))) w := by kernel_rfl
theorem Ux {o : Oper} {A : Act} (x : Operand) (ho : o.op = .field 56 x 1) (y : IM) (hx : A.eval x = .agg (itA y)) (w : World) : (execOp A.eval o).run Try.prog w = .ok (.value (.agg (veA y.ver))) w := by
  have h1 : (Instr.field 56 (.agg (itA y)) 1).run Try.prog w = .ok (.agg (veA y.ver)) w := by kernel_rfl
  unfold execOp
  simp only [ho, hx, Sem.run_bind, h1, Result.andThen_ok, Sem.run_pure]
theorem Uw {o : Oper} {A : Act} (x : Operand) (ho : o.op = .field 54 x 0) (y : VM) (hx : A.eval x = .agg (veA y)) (w : World) : (execOp A.eval o).run Try.prog w = .ok (.value (.int .i64 y.n)) w := by
  have h1 : (Instr.field 54 (.agg (veA y)) 0).run Try.prog w = .ok (.int .i64 y.n) w := by kernel_rfl
  unfold execOp
  simp only [ho, hx, Sem.run_bind, h1, Result.andThen_ok, Sem.run_pure]
def IM.re (x : IM) (ao : Option Addr) (cap : Nat) : IM := ⟨x.key, x.n, x.who, ao, cap, x.val⟩
theorem IM.ok.re {x : IM} (h : x.ok) (ao : Option Addr) (cap : Nat) : (x.re ao cap).ok := ⟨h.key, h.n, h.who⟩
theorem jck (x : IM) (ao : Option Addr) (cap : Nat) : splice (itA x) 33 #[.slice ao x.val.length cap] = itA (x.re ao cap) := by kernel_rfl
theorem Ul (lp : Nat) (inc inc' : Int) (mb : Nat) : splice (vtA lp inc mb) 1 #[.int .i64 inc'] = vtA lp inc' mb := by kernel_rfl
theorem Kr (mp : Option Nat) (ao : Option Addr) (n cap : Nat) (inc inc' : Int) : splice (rvA mp ao n cap inc) 2 #[.int .i64 inc'] = rvA mp ao n cap inc' := by kernel_rfl
theorem Kq (mp : Option Nat) (ao : Option Addr) (n cap : Nat) (inc : Int) (ao' : Option Addr) (n' cap' : Nat) : splice (rvA mp ao n cap inc) 1 #[.slice ao' n' cap'] = rvA mp ao' n' cap' inc := by kernel_rfl
theorem rM : RowT Try.prog 45 56 kM.sz 64 (.agg (itA zM)) := ⟨Try.underlying45, JW (by kernel_rfl), zX zM, by decide⟩
theorem bsM (a : IM) (w : World) : (Instr.buildSlice 45 1 #[(0, .agg (itA a))]).run Try.prog w = .ok (.slice (some ⟨w.heap.size, 0, none⟩) 1 1) (w.alloc (.cells ([a].flatMap kM.E).toArray 56)) := by kernel_rfl
theorem atM {w : World} {ao : Option Addr} {cap : Nat} {l : List IM} (h : RK kM w ao cap l) {j : Nat} (hj : j < l.length) : (l.getD j zM).ok := h.at hj
section
variable {o : Oper} {A : Act} {w : World} {ao : Option Addr} {cap : Nat}
theorem YO {l : List IM} (h : RK kM w ao cap l) (x : Operand) (ho : o.op = .load 56 x) (j : Nat) (hx : A.eval x = .pointer (pK kM ao j 0)) (hj : j < l.length) : (execOp A.eval o).run Try.prog w = .ok (.value (.agg (itA (l.getD j zM)))) w :=
  Yf h 56 _ Try.underlying56 rfl 0 34 siIt (Nat.le_refl _) x ho j hx hj _ (dI_0 _)
theorem zA {l : List IM} (h : RK kM w ao cap l) (x : Operand) (ho : o.op = .load 52 x) (j : Nat) (hx : A.eval x = .pointer (pK kM ao j 0)) (hj : j < l.length) : (execOp A.eval o).run Try.prog w = .ok (.value (.agg (idA (l.getD j zM).key))) w :=
  Yf h 52 _ Try.underlying52 rfl 0 16 size23 (by decide) x ho j hx hj _ (dI_k _)
theorem ye {l : List IM} (h : RK kM w ao cap l) (x : Operand) (ho : o.op = .load 54 x) (j : Nat) (hx : A.eval x = .pointer (pK kM ao j 16)) (hj : j < l.length) : (execOp A.eval o).run Try.prog w = .ok (.value (.agg (veA (l.getD j zM).ver))) w :=
  Yf h 54 _ Try.underlying54 rfl 16 17 siVe (by decide) x ho j hx hj _ (dI_v _)
theorem uc {l : List IM} (h : RK kM w ao cap l) (x : Operand) (ho : o.op = .load 30 x) (j : Nat) (hx : A.eval x = .pointer (pK kM ao j 33)) (hj : j < l.length) : (execOp A.eval o).run Try.prog w = .ok (.value (.slice (l.getD j zM).ao (l.getD j zM).val.length (l.getD j zM).cap)) w :=
  YN h 30 (na30v w) 33 (by decide) x ho j hx hj _ (dI_r _)
end
theorem vG (w : World) (ad : Addr) : (Instr.fieldAt 56 (.pointer (some ad)) 0).run Try.prog w = .ok (.pointer (some (ad.add 0))) w := by kernel_rfl
theorem JA (w : World) (ad : Addr) : (Instr.fieldAt 56 (.pointer (some ad)) 1).run Try.prog w = .ok (.pointer (some (ad.add 16))) w := by kernel_rfl
theorem UU (w : World) (ad : Addr) : (Instr.fieldAt 56 (.pointer (some ad)) 2).run Try.prog w = .ok (.pointer (some (ad.add 33))) w := by kernel_rfl
theorem fieldsV : Try.prog.fieldsOf 54 = #[{ name := "N", type := 2, offset := 0, embedded := false, tag := "", pkgPath := "", byteOffset := 0 }, { name := "Who", type := 52, offset := 1, embedded := false, tag := "", pkgPath := "", byteOffset := 8 }] := by kernel_rfl
theorem undV : Try.prog.underlying 54 = some (.struct (Try.prog.fieldsOf 54)) := by rw [fieldsV]; exact Try.underlying54
def eqV (x y : VM) : Bool := decide (x.n = y.n) && decide (x.who = y.who)
theorem eqFV (d : Nat) (x y : VM) (hx : x.ok) (hy : y.ok) (w : World) : (Op.equalIn (d + 1 + 1 + 1) 54 (.agg (veA x)) (.agg (veA y))).run Try.prog w = .ok (eqV x y) w := by
  have p1 : ∀ z : VM, (part 52 (veA z) 1).run Try.prog w = .ok (.agg (idA z.who)) w := fun z => by kernel_rfl
  have p2 : ∀ z : VM, (part 2 (veA z) 0).run Try.prog w = .ok (.int .i64 z.n) w := fun z => by kernel_rfl
  have h1 := eqI_id d x.who y.who hx.who hy.who w
  have h2 := run_equalIn_int (P := Try.prog) w (d + 1) 2 .i64 .i64 x.n y.n Try.underlying2
  rw [beq_dec] at h2
  have e : eqV x y = (decide (x.n = y.n) && decide (x.who = y.who)) := rfl
  rw [e, run_equalIn_struct w (d + 1 + 1) 54 _ _ undV (by kernel_rfl), fieldsV]
  clear e hx hy
  generalize decide (x.who = y.who) = P1 at *
  generalize decide (x.n = y.n) = P2 at *
  unfold Op.eqFields
  rw [if_pos (by decide), Sem.run_bind, p2, Result.andThen_ok, Sem.run_bind, p2, Result.andThen_ok, Sem.run_bind, h2, Result.andThen_ok]
  cases P2
  · rfl
  rw [if_neg (by decide)]
  unfold Op.eqFields
  rw [if_pos (by decide), Sem.run_bind, p1, Result.andThen_ok, Sem.run_bind, p1, Result.andThen_ok, Sem.run_bind, h1, Result.andThen_ok]
  cases P1 <;> rfl
theorem JM {o : Oper} {A : Act} {w : World} (x y : Operand) (t2 : TypeId) (ho : o.op = .binOp .neq 54 x y t2) (n m : VM) (hx : A.eval x = .agg (veA n)) (hy : A.eval y = .agg (veA m)) (hn : n.ok) (hm : m.ok) (p : Bool) (hp : eqV n m = !p) :
    (execOp A.eval o).run Try.prog w = .ok (.value (.bool p)) w := by
  have : p = !eqV n m := by rw [hp]; simp
  subst this
  exact KO .neq 54 x y t2 ho _ _ hx hy (by kernel_rfl) _ (by rw [run_neq_struct, eqFV 9997 n m hn hm w]; rfl)
end Go.Proofs.Ytgfnjekpafempaa
