import Derived.Test.YtgfnjekpafempaaGreatBB1
import Derived.WalkKit
import Derived.Test.YtgfnjekpafempaaGreatRows
import Derived.Test.YtgfnjekpafempaaGreatBOps
namespace Go.Proofs.YtgfnjekpafempaaGreat
open Go.RowKit
section
variable {P : Program} {ops : Array Oper} {rest : List Oper} {o : Oper} {T : List Value} {ds : List Deferred} {w : World} {Q : Exit → Act → World → Prop}
theorem jC {next : Act → World → Prop} {a : Act} (h : next a w) : Exit.then next Q .normal a w := h
theorem jm {next : Act → World → Prop} {a : Act} (h : Q .ret a w) : Exit.then next Q .ret a w := h
theorem jG {next : Act → World → Prop} {a : Act} {i : Nat} (h : Q (.exit i) a w) : Exit.then next Q (.exit i) a w := h
theorem zb {i : Nat} {a : Act} (h : Q .normal a w) : Exit.inBlock i Q .normal a w := h
theorem ze {i : Nat} {a : Act} (h : Q .ret a w) : Exit.inBlock i Q .ret a w := h
theorem zp {i : Nat} {a : Act} (h : Q .normal a w) : Exit.inBlock i Q (.exit i) a w := by simpa [Exit.inBlock] using h
theorem post_n {fn : Func} {R : Ending → World → Prop} {a : Act} {v : Value} (hr : (results fn a.tmps).run P w = .ok v w) (hd : a.defers = []) (h : R (.returned v) w) : bodyPost P fn R .normal a w := ⟨hd, v, hr, h⟩
theorem jX {d : Nat} {v : Value} : (⟨T.toArray, ds⟩ : Act).put (some d) v = ⟨(T.set d v).toArray, ds⟩ := by simp [Act.put]
theorem vw (dst : Nat) (hd : o.dst = some dst) (hgd : o.guard = none) (v : Value) (he : (execOp (Act.eval ⟨T.toArray, ds⟩) o).run P w = .ok (.value v) w)
    (h : wpList P ops Q rest ⟨(T.set dst v).toArray, ds⟩ w) : wpList P ops Q (o :: rest) ⟨T.toArray, ds⟩ w :=
  jc dst hd hgd v he (by rw [jX]; exact h)
theorem YU (dst : Nat) (hd : o.dst = some dst) (hw : Region.wanted o (yielded ops T.toArray) = true) (v : Value) (he : (execOp (Act.eval ⟨T.toArray, ds⟩) o).run P w = .ok (.value v) w)
    (h : wpList P ops Q rest ⟨(T.set dst v).toArray, ds⟩ w) : wpList P ops Q (o :: rest) ⟨T.toArray, ds⟩ w :=
  wpList_step fun K hK => by
    rw [if_pos hw]
    unfold Oper.wp
    rw [he, Oper.upon_value, hd, jX]
    exact hK _ _ h
theorem jbs (dst : Nat) (hd : o.dst = some dst) (hw : Region.wanted o (yielded ops T.toArray) = false)
    (h : wpList P ops Q rest ⟨(T.set dst undef).toArray, ds⟩ w) : wpList P ops Q (o :: rest) ⟨T.toArray, ds⟩ w :=
  wpList_skip hw (by rw [hd, jX]; exact h)
theorem jH (dst : Nat) (hd : o.dst = some dst) (hgd : o.guard = none) (ty : TypeId) (ho : o.op = .alloc ty) (v : Value) (hz : ∀ w, (zeroValue ty).run P w = .ok v w) (cs : Array Value) (hc : v.cells = cs)
    (h : ∀ w' g, Gro w w' → w.heap.size = g → w'.heap[g]? = some (.cells cs ty (0, 0)) → wpList P ops Q rest ⟨(T.set dst (.pointer (some ⟨g, 0, none⟩))).toArray, ds⟩ w') : wpList P ops Q (o :: rest) ⟨T.toArray, ds⟩ w := by
  subst hc
  exact yJ hgd ty ho v hz (fun w' g G e k => by rw [hd, jX]; exact h w' g G e k)
theorem jW (dst : Nat) (hd : o.dst = some dst) (hgd : o.guard = none) (ty : TypeId) (x : Operand) (ho : o.op = .box ty x) (v : Value) (hx : (⟨T.toArray, ds⟩ : Act).eval x = v) (cs : Array Value) (hc : v.cells = cs)
    (h : ∀ w' g, Gro w w' → w.heap.size = g → w'.heap[g]? = some (.cells cs ty (0, 0)) → wpList P ops Q rest ⟨(T.set dst (.pointer (some ⟨g, 0, none⟩))).toArray, ds⟩ w') : wpList P ops Q (o :: rest) ⟨T.toArray, ds⟩ w := by
  subst hc
  exact yP hgd ty x ho v hx (fun w' g G e k => by rw [hd, jX]; exact h w' g G e k)
theorem jE (hgd : o.guard = none) (hdst : o.dst = none) (ty : TypeId) (x y : Operand) (ho : o.op = .store ty x y)
    (g off : Nat) (hx : (⟨T.toArray, ds⟩ : Act).eval x = .pointer (some ⟨g, off, none⟩)) (v : Value) (hy : (⟨T.toArray, ds⟩ : Act).eval y = v) (t : TypeId) (old : Array Value) (hg : w.heap[g]? = some (.cells old t (0, 0)))
    (vs : Array Value) (hc : v.cells = vs) (hi : (P.info? ty).map (·.size) = some vs.size) (hle : off + vs.size ≤ old.size) (h1 : vs.all (·.oneCell') = true) (new : Array Value) (hn : splice old off vs = new)
    (h : ∀ w', Stored w w' g (.cells new t (0, 0)) → wpList P ops Q rest ⟨T.toArray, ds⟩ w') : wpList P ops Q (o :: rest) ⟨T.toArray, ds⟩ w := by
  subst hc
  exact zz hgd hdst ty x y ho g off hx v hy t old hg hi hle h1 new hn h
theorem jbx (hgd : o.guard = none) (c : Call) (f : FuncId) (hen : ∀ args w, (callFunc f args).run P w = .ok (.enter f args) w) (ho : o.op = .call c) (hc : c.callee = .value (.func f)) (xs : List Operand) (hxs : c.args = xs.toArray) (vs : List Value) (hvs : xs.map (Act.eval ⟨T.toArray, ds⟩) = vs)
    {R : Ending → World → Prop} (H : Calls P f vs.toArray w R)
    (h : ∀ v w', R (.returned v) w' → wpList P ops Q rest ((⟨T.toArray, ds⟩ : Act).put o.dst v) w') (hp : ∀ ch w', R (.panicked ch) w' → Q (.panic ch) ⟨T.toArray, ds⟩ w') (ho' : ∀ w', ¬ R .outgrown w') : wpList P ops Q (o :: rest) ⟨T.toArray, ds⟩ w :=
  wpList_plain hgd fun _ hK => by
    unfold Oper.wp
    rw [Jo c f hen ho hc, hxs, List.map_toArray, hvs, Oper.upon_enter]
    refine H.mono fun e w' hR => ?_
    cases e with
    | returned v => exact hK _ _ (h v w' hR)
    | panicked ch => exact hp ch w' hR
    | outgrown => exact absurd hR (ho' w')
theorem jr (dst : Nat) (hd : o.dst = some dst) (hgd : o.guard = none) (c : Call) (f : FuncId) (hen : ∀ args w, (callFunc f args).run P w = .ok (.enter f args) w) (ho : o.op = .call c) (hc : c.callee = .value (.func f)) (xs : List Operand) (hxs : c.args = xs.toArray) (vs : List Value) (hvs : xs.map (Act.eval ⟨T.toArray, ds⟩) = vs)
    {v : Value} {R : World → Prop} (H : Calls P f vs.toArray w fun e w' => e = .returned v ∧ R w')
    (h : ∀ w', R w' → wpList P ops Q rest ⟨(T.set dst v).toArray, ds⟩ w') : wpList P ops Q (o :: rest) ⟨T.toArray, ds⟩ w :=
  jbx hgd c f hen ho hc xs hxs vs hvs H (fun v' w' hR => by obtain ⟨he, hR⟩ := hR; cases he; rw [hd, jX]; exact h w' hR) (fun _ _ hR => by cases hR.1) (fun _ hR => by cases hR.1)
theorem jq (dst : Nat) (hd : o.dst = some dst) (hgd : o.guard = none) (c : Call) (f : FuncId) (hen : ∀ args w, (callFunc f args).run P w = .ok (.enter f args) w) (ho : o.op = .call c) (hc : c.callee = .value (.func f)) (xs : List Operand) (hxs : c.args = xs.toArray) (vs : List Value) (hvs : xs.map (Act.eval ⟨T.toArray, ds⟩) = vs)
    {R : Ending → World → Prop} (H : Calls P f vs.toArray w R) (hR : ∀ e w', R e w' → ∃ v, e = .returned v)
    (h : ∀ v w', R (.returned v) w' → wpList P ops Q rest ⟨(T.set dst v).toArray, ds⟩ w') : wpList P ops Q (o :: rest) ⟨T.toArray, ds⟩ w :=
  jbx hgd c f hen ho hc xs hxs vs hvs H (fun v' w' hr => by rw [hd, jX]; exact h v' w' hr) (fun _ _ hr => by obtain ⟨_, h⟩ := hR _ _ hr; cases h) (fun _ hr => by obtain ⟨_, h⟩ := hR _ _ hr; cases h)
end
section
variable {P : Program} {o : Oper} {A : Act} {w : World}
theorem je (s : TypeId) (x : Operand) (i : Nat) (ho : o.op = .fieldAddr s x i) (g off : Nat) (hx : A.eval x = .pointer (some ⟨g, off, none⟩)) (r : Nat)
    (hf : (Instr.fieldAt s (.pointer (some ⟨g, off, none⟩)) i).run P w = .ok (.pointer (some ⟨g, r, none⟩)) w) : (execOp A.eval o).run P w = .ok (.value (.pointer (some ⟨g, r, none⟩))) w := by
  unfold execOp
  simp only [ho, hx, Sem.run_bind, hf, Result.andThen_ok, Sem.run_pure]
theorem zx (ty : TypeId) (x : Operand) (ho : o.op = .load ty x) (g off n : Nat) (hx : A.eval x = .pointer (some ⟨g, off, none⟩)) (t : TypeId) (cs : Array Value) (hg : w.heap[g]? = some (.cells cs t (0, 0))) (d : TypeDesc)
    (hu : P.underlying ty = some d) (hd : (match d with | .struct _ | .array _ _ => true | _ => false) = true) (hi : (P.info? ty).map (·.size) = some n) (hle : off + n ≤ cs.size) (vs : Array Value) (hv : cs.extract off (off + n) = vs) :
    (execOp A.eval o).run P w = .ok (.value (.agg vs)) w := by
  subst hv
  unfold execOp
  simp only [ho, hx, Instr.loadAt, Instr.sureAddr, Sem.run_bind, Sem.run_pure, Result.andThen_ok, ZK w g off n t ty cs (0, 0) d hg hu hd hi hle]
theorem jo (ty : TypeId) (x : Operand) (ho : o.op = .load ty x) (g off : Nat) (hx : A.eval x = .pointer (some ⟨g, off, none⟩)) (t : TypeId) (cs : Array Value) (hg : w.heap[g]? = some (.cells cs t (0, 0)))
    (hu : (isAgg ty).run P w = .ok false w) (v : Value) (hv : cs[off]? = some v) : (execOp A.eval o).run P w = .ok (.value v) w := by
  have hc : w.cell? ⟨g, off, none⟩ = some v := by rw [cell_of_row w g off cs t (0, 0) hg]; exact hv
  unfold execOp
  simp only [ho, hx]
  simp [Instr.loadAt, Instr.sureAddr, Sem.run_bind, loadVar, hu, hc, go_sem]
theorem jK (t : TypeId) (l : List (Nat × Operand)) (ho : o.op = .build t l.toArray) (vals : List (Nat × Value)) (hv : (l.map fun p => (p.1, A.eval p.2)) = vals) (v : Value) (h : (Instr.build t vals.toArray).run P w = .ok v w) :
    (execOp A.eval o).run P w = .ok (.value v) w := by
  unfold execOp
  simp only [ho]
  have : (l.toArray.map fun (i, x) => (i, A.eval x)) = vals.toArray := by rw [← hv]; simp
  rw [this]
  simp [h]
theorem jl (x : Operand) (ho : o.op = .nilCheck x) (p : Addr) (hx : A.eval x = .pointer (some p)) : (execOp A.eval o).run P w = .ok (.value (.pointer (some p))) w := by
  unfold execOp
  simp [ho, hx]
theorem jZ (t : TypeId) (x : Operand) (ho : o.op = .unOp .not t x) (b : Bool) (hx : A.eval x = .bool b) : (execOp A.eval o).run P w = .ok (.value (.bool (!b))) w := by
  unfold execOp
  simp only [ho, hx]
  rfl
end
theorem nr {P : Program} {ops : Array Oper} {rest : List Oper} {ds : List Deferred} {w : World} {Q : Exit → Act → World → Prop} {T : List Value} (h : ∀ U, U = T → wpList P ops Q rest ⟨U.toArray, ds⟩ w) : wpList P ops Q rest ⟨T.toArray, ds⟩ w := h _ rfl
theorem z0 (x a : Value) (l : List Value) : (x :: l).set 0 a = a :: l := rfl
theorem z1 (x a : Value) (l : List Value) (n : Nat) : (x :: l).set (n + 1) a = x :: l.set n a := rfl
theorem nq {P : Program} {ops : Array Oper} {rest : List Oper} {ds : List Deferred} {w : World} {Q : Exit → Act → World → Prop} {T U : List Value} (h : wpList P ops Q rest ⟨U.toArray, ds⟩ w) (e : T = U := by simp only [z0, z1]; exact rfl) : wpList P ops Q rest ⟨T.toArray, ds⟩ w := e ▸ h
section
variable {P : Program} {ops : Array Oper} {rest : List Oper} {o : Oper} {T : List Value} {ds : List Deferred} {w : World} {Q : Exit → Act → World → Prop} {dst : Nat}
theorem sv (v : Value) (he : (execOp (Act.eval ⟨T.toArray, ds⟩) o).run P w = .ok (.value v) w) (hd : (o.dst, o.guard) = (some dst, none)) (h : wpList P ops Q rest ⟨(T.set dst v).toArray, ds⟩ w) : wpList P ops Q (o :: rest) ⟨T.toArray, ds⟩ w := vw dst (congrArg Prod.fst hd) (congrArg Prod.snd hd) v he h
theorem mv (v : Value) (hd : ((o.dst, o.guard), (execOp (Act.eval ⟨T.toArray, ds⟩) o).run P w) = ((some dst, none), .ok (.value v) w)) (h : wpList P ops Q rest ⟨(T.set dst v).toArray, ds⟩ w) : wpList P ops Q (o :: rest) ⟨T.toArray, ds⟩ w := vw dst (congrArg (fun x => x.1.1) hd) (congrArg (fun x => x.1.2) hd) v (congrArg Prod.snd hd) h
end
theorem usK {n : Nat} {F : List Value} {f : (Nat → Value) → List Value} {R : Prop} (r : R) (h : F = f fun k => F.getD k undef := by as_aux_lemma => kernel_rfl) : ∃ us : Nat → Value, n = n ∧ (⟨F.toArray, []⟩ : Act) = ⟨(f us).toArray, []⟩ ∧ R :=
  ⟨_, rfl, by rw [← h], r⟩
theorem usJ {F : List Value} {f : (Nat → Value) → List Value} {R : Prop} (r : R) (h : F = f fun k => F.getD k undef := by as_aux_lemma => kernel_rfl) : ∃ us : Nat → Value, (⟨F.toArray, []⟩ : Act) = ⟨(f us).toArray, []⟩ ∧ R :=
  ⟨_, by rw [← h], r⟩
/-! ### Rows from structs -/
structure Sl where
  ao : Option Addr
  n : Nat
  cap : Nat
def Sl.nil : Sl := ⟨none, 0, 0⟩
def byt (n i : Nat) : Nat := n / 256 ^ (15 - i) % 256
def idA (n : Nat) : Array Value := Array.ofFn (n := 16) fun i => Value.int .u8 (byt n i)
def idV (n : Nat) : Value := .agg (idA n)
theorem zI (n : Nat) : (idA n).size = 16 := by simp [idA]
theorem zX (n k : Nat) (h : k < 16) : (idA n)[k]? = some (.int .u8 (byt n k)) := by simp [idA, h]
theorem Qv (n k : Nat) : byt n k < 256 := Nat.mod_lt _ (by omega)
theorem vW (n : Nat) : (idA n).all (·.oneCell') = true := by
  rw [Array.all_eq_true]
  intro i hi
  simp [idA, Value.oneCell']
theorem jdh (k : Nat) (h : k < 16) : 256 ^ (16 - k) = 256 ^ (15 - k) * 256 := by
  have : 16 - k = (15 - k) + 1 := by omega
  rw [this, Nat.pow_succ]
theorem um (n k : Nat) (h : k < 16) : n / 256 ^ (15 - k) = 256 * (n / 256 ^ (16 - k)) + byt n k := by
  unfold byt
  rw [jdh k h, ← Nat.div_div_eq_div_mul]
  omega
def cmpN (a b : Nat) : Int := if a < b then -1 else if b < a then 1 else 0
theorem vl {a b k : Nat} (hk : k < 16) (he : a / 256 ^ (16 - k) = b / 256 ^ (16 - k)) (h : byt a k < byt b k) : a < b := by
  have h1 := um a k hk
  have h2 := um b k hk
  have h3 : a / 256 ^ (15 - k) < b / 256 ^ (15 - k) := by omega
  exact Nat.lt_of_not_le fun hle => by
    have := Nat.div_le_div_right (c := 256 ^ (15 - k)) hle
    omega
theorem Vr {a b k : Nat} (hk : k < 16) (he : a / 256 ^ (16 - k) = b / 256 ^ (16 - k)) (h : byt a k = byt b k) : a / 256 ^ (16 - (k + 1)) = b / 256 ^ (16 - (k + 1)) := by
  have h1 := um a k hk
  have h2 := um b k hk
  have e : 16 - (k + 1) = 15 - k := by omega
  rw [e]; omega
theorem ux {k : IntKind} {a b : Int} (h : a = b) : Ending.returned (.int k a) = .returned (.int k b) := by rw [h]
theorem Kt {a b : Nat} (h : a < b) : -1 = cmpN a b := by simp [cmpN, h]
theorem Ku {a b : Nat} (h : b < a) : 1 = cmpN a b := by simp [cmpN, h, Nat.lt_asymm h]
theorem Kv {a b : Nat} (h : a = b) : 0 = cmpN a b := by simp [cmpN, h]
def top : Nat := 340282366920938463463374607431768211456
theorem uW : top = 256 ^ 16 := by decide
theorem ul {a b : Nat} (ha : a < top) (hb : b < top) (h : ∀ i, i < 16 → byt a i = byt b i) : a = b := by
  rw [uW] at ha hb
  have key : ∀ k, k ≤ 16 → a / 256 ^ (16 - k) = b / 256 ^ (16 - k) := by
    intro k
    induction k with
    | zero => intro _; rw [Nat.div_eq_of_lt ha, Nat.div_eq_of_lt hb]
    | succ k ih => intro hk; exact Vr (by omega) (ih (by omega)) (h k (by omega))
  simpa using key 16 (Nat.le_refl _)
theorem Kw (s e i : Nat) : byt (s % 256 ^ e) i = if 15 - i < e then byt s i else 0 := by
  unfold byt
  by_cases h : 15 - i < e
  · rw [if_pos h]
    have e1 : 256 ^ e = 256 ^ (15 - i) * 256 ^ (e - (15 - i)) := by rw [← Nat.pow_add]; congr 1; omega
    rw [e1, Nat.mod_mul_right_div_self]
    have e2 : e - (15 - i) = (e - (15 - i) - 1) + 1 := by omega
    rw [e2, Nat.pow_succ, Nat.mod_mod_of_dvd]
    exact Nat.dvd_mul_left _ _
  · rw [if_neg h]
    have h1 : s % 256 ^ e < 256 ^ (15 - i) := Nat.lt_of_lt_of_le (Nat.mod_lt _ (Nat.pow_pos (by omega))) (Nat.pow_le_pow_right (by omega) (by omega))
    rw [Nat.div_eq_of_lt h1]
theorem set_low (s j : Nat) (hj : j < 16) : (idA (s % 256 ^ (15 - j))).setIfInBounds j (.int .u8 (byt s j)) = idA (s % 256 ^ (16 - j)) := by
  apply Array.ext_getElem?
  intro i
  by_cases hi : i < 16
  · rw [Array.getElem?_setIfInBounds, zI, zX _ _ hi, zX _ _ hi, Kw, Kw]
    by_cases h1 : j = i
    · subst h1
      rw [if_pos rfl, if_pos hj, if_pos (by omega)]
    · rw [if_neg h1]
      by_cases h2 : i < j
      · rw [if_neg (by omega), if_neg (by omega)]
      · rw [if_pos (by omega), if_pos (by omega)]
  · rw [Array.getElem?_eq_none (by simp [zI]; omega), Array.getElem?_eq_none (by simp [zI]; omega)]
theorem lex_lt (m x y p q : Nat) (hp : p < m) (hq : q < m) : m * x + p < m * y + q ↔ x < y ∨ (x = y ∧ p < q) := by
  constructor
  · intro h
    by_cases h1 : x < y
    · exact Or.inl h1
    · by_cases h2 : x = y
      · subst h2; exact Or.inr ⟨rfl, by omega⟩
      · have h3 : y + 1 ≤ x := by omega
        have := Nat.mul_le_mul_left m h3
        rw [Nat.mul_add] at this
        omega
  · rintro (h | ⟨rfl, h⟩)
    · have := Nat.mul_le_mul_left m (show x + 1 ≤ y from h)
      rw [Nat.mul_add] at this
      omega
    · omega
theorem size23 : (Tryz.prog.info? 38).map (·.size) = some 16 := by kernel_rfl
theorem size5 : (Tryz.prog.info? 5).map (·.size) = some 1 := by kernel_rfl
theorem size23' (n : Nat) : (Tryz.prog.info? 38).map (·.size) = some (idA n).size := by rw [zI]; exact size23
theorem zero23 (w : World) : (zeroValue 38).run Tryz.prog w = .ok (.agg (idA 0)) w := by rw [Tryz.zeroValue38]; rfl
theorem follows : Tryz.prog.follows .mixedOrders = true := by kernel_rfl
theorem Jv (n k : Nat) (hk : k < 16) (w : World) : (part 5 (idA n) k).run Tryz.prog w = .ok (.int .u8 (byt n k)) w := by
  have h := zX n k hk
  simp [part, go_sem, h]
theorem Jk (n k : Nat) (hk : k < 16) (w : World) : (Instr.index 38 (.agg (idA n)) (.int .i64 k)).run Tryz.prog w = .ok (.int .u8 (byt n k)) w := by
  have hs := run_underlying Tryz.underlying38 w
  have hp := Jv n k hk w
  simp [Instr.index, asIntOf, hs, hk, hp]
theorem Yu (a b : Nat) (ha : a < top) (hb : b < top) (w : World) : (Op.equal 38 (.agg (idA a)) (.agg (idA b))).run Tryz.prog w = .ok (decide (a = b)) w := by
  unfold Op.equal
  have e : Op.maxDepth = (Op.maxDepth - 2) + 1 + 1 := by decide
  rw [e]
  refine vY _ 38 5 16 Tryz.underlying38 w (Tryz.sizeOf5 w) (idA a) (idA b) (fun i => .int .u8 (byt a i)) (fun i => .int .u8 (byt b i)) (fun i => (byt a i : Int) == byt b i)
    (fun i hi => Jv a i hi w) (fun i hi => Jv b i hi w) (fun i _ => run_equalIn_int w _ 5 .u8 .u8 _ _ Tryz.underlying5) _ ?_
  rw [decide_eq_true_iff]
  constructor
  · rintro rfl i _; simp
  · intro h
    exact ul ha hb fun i hi => by have := h i hi; simp at this; omega
theorem Qr (op : BinOp) (x y : Operand) (c d : Array Value) (w : World) : (eqGuard op 38 x y (.agg c) (.agg d)).run Tryz.prog w = .ok () w := by
  unfold eqGuard
  cases op <;> simp [go_sem]
theorem UU (a b : Nat) (ha : a < top) (hb : b < top) (w : World) : (binOp .eql 38 (.agg (idA a)) (.agg (idA b))).run Tryz.prog w = .ok (.bool (decide (a = b))) w := by
  simp [binOp, Yu a b ha hb w]
theorem UR (a b : Nat) (ha : a < top) (hb : b < top) (w : World) : (binOp .neq 38 (.agg (idA a)) (.agg (idA b))).run Tryz.prog w = .ok (.bool (!decide (a = b))) w := by
  simp [binOp, Yu a b ha hb w]
theorem Qq (n : Nat) : (idA n).extract 0 (0 + 16) = idA n := by
  have : 0 + 16 = (idA n).size := (zI n).symm
  rw [this, Array.extract_size]
section
variable {ops : Array Oper} {o : Oper} {A : Act} {w : World}
theorem Jl {op : BinOp} (x y : Operand) (t2 : TypeId) (ho : o.op = .binOp op 38 x y t2) (n m : Nat) (hx : A.eval x = .agg (idA n)) (hy : A.eval y = .agg (idA m)) (v : Value) (hv : ∀ w, (binOp op 38 (.agg (idA n)) (.agg (idA m))).run Tryz.prog w = .ok v w) (w : World) :
    (execOp A.eval o).run Tryz.prog w = .ok (.value v) w := by
  unfold execOp
  simp only [ho, hx, hy, Sem.run_bind, Qr, Result.andThen_ok, hv, Sem.run_pure]
end
def lim : Nat := 18446744073709551616
def nb (x : Nat) : Nat := if x = 0 then 0 else if x < 256 then 1 else if x < 65536 then 2 else if x < 16777216 then 3 else if x < 4294967296 then 4 else if x < 1099511627776 then 5 else if x < 281474976710656 then 6 else if x < 72057594037927936 then 7 else 8
theorem zL (x : Nat) : nb x ≤ 8 := by unfold nb; (repeat' split) <;> omega
def beL : Nat → Nat → List Nat
  | 0, _ => []
  | n + 1, x => beL n (x / 256) ++ [x % 256]
theorem jL : ∀ n x, (beL n x).length = n
  | 0, _ => rfl
  | n + 1, x => by simp [beL, jL n]
theorem Vw : ∀ n x, ∀ y ∈ beL n x, y < 256
  | 0, _, y, h => by cases h
  | n + 1, x, y, h => by
    rcases List.mem_append.1 h with h | h
    · exact Vw n _ y h
    · simp at h; omega
theorem vn : ∀ n x i, i < n → (beL n x).getD i 0 = x / 256 ^ (n - 1 - i) % 256
  | 0, _, i, h => by omega
  | n + 1, x, i, h => by
    have hl := jL n (x / 256)
    rw [beL, List.getD_eq_getElem?_getD, List.getElem?_append]
    by_cases hi : i < n
    · rw [if_pos (by omega), ← List.getD_eq_getElem?_getD, vn n _ i hi]
      have : n + 1 - 1 - i = (n - 1 - i) + 1 := by omega
      rw [this, Nat.pow_succ, Nat.mul_comm (256 ^ (n - 1 - i)) 256, Nat.div_div_eq_div_mul]
    · have : i = n := by omega
      subst this
      rw [if_neg (by omega)]
      simp [hl]
def valL (l : List Nat) : Nat := l.foldl (fun a b => a * 256 + b) 0
theorem vu (l : List Nat) (b : Nat) : valL (l ++ [b]) = valL l * 256 + b := by unfold valL; rw [List.foldl_append]; rfl
theorem yR : ∀ n x, x < 256 ^ n → valL (beL n x) = x
  | 0, x, h => by simp at h; subst h; rfl
  | n + 1, x, h => by
    rw [beL, vu, yR n (x / 256) (by rw [Nat.pow_succ] at h; omega)]
    omega
theorem YS {l : List Nat} {n : Nat} (h : l.length = n + 1) : ∃ q b, l = q ++ [b] ∧ q.length = n := by
  have hne : l ≠ [] := by intro e; rw [e] at h; simp at h
  exact ⟨l.dropLast, l.getLast hne, (List.dropLast_concat_getLast hne).symm, by simp [h]⟩
theorem Yl : ∀ n (l : List Nat), l.length = n → (∀ x ∈ l, x < 256) → beL n (valL l) = l
  | 0, l, h, _ => by rw [List.eq_nil_of_length_eq_zero h]; rfl
  | n + 1, l, h, hl => by
    obtain ⟨q, b, rfl, hq⟩ := YS h
    have hb := hl b (by simp)
    rw [vu, beL]
    have h1 : (valL q * 256 + b) / 256 = valL q := by omega
    have h2 : (valL q * 256 + b) % 256 = b := by omega
    rw [h1, h2, Yl n q hq fun x hx => hl x (by simp [hx])]
theorem uo : ∀ n (l : List Nat), l.length = n → (∀ x ∈ l, x < 256) → valL l < 256 ^ n
  | 0, l, h, _ => by rw [List.eq_nil_of_length_eq_zero h]; decide
  | n + 1, l, h, hl => by
    obtain ⟨q, b, rfl, hq⟩ := YS h
    have hb := hl b (by simp)
    have := uo n q hq fun x hx => hl x (by simp [hx])
    rw [vu, Nat.pow_succ]
    omega
theorem QE : ∀ n (l : List Nat), l.length = n + 1 → l.headD 0 ≠ 0 → 256 ^ n ≤ valL l
  | 0, l, h, hh => by
    match l, h with
    | [b], _ => simp [valL] at hh ⊢; omega
  | n + 1, l, h, hh => by
    obtain ⟨q, b, rfl, hq⟩ := YS h
    have := QE n q hq (by
      match q, hq with
      | c :: r, _ => simpa using hh)
    rw [vu, Nat.pow_succ]
    omega
theorem jdv (x : Nat) (h : x < lim) : x < 256 ^ nb x := by
  unfold lim at h
  unfold nb
  (repeat' split) <;> simp <;> omega
theorem nb_of (x k : Nat) (hk : k ≤ 8) (h1 : x < 256 ^ k) (h2 : 0 < k → 256 ^ (k - 1) ≤ x) : nb x = k := by
  have hk' : k = 0 ∨ k = 1 ∨ k = 2 ∨ k = 3 ∨ k = 4 ∨ k = 5 ∨ k = 6 ∨ k = 7 ∨ k = 8 := by omega
  rcases hk' with rfl | rfl | rfl | rfl | rfl | rfl | rfl | rfl | rfl <;> simp at h1 h2 <;> unfold nb <;> (repeat' split) <;> omega
def numL (x : Nat) : List Nat := nb x :: beL (nb x) x
theorem zG (x : Nat) : (numL x).length = nb x + 1 := by simp [numL, jL]
theorem nb_head (x : Nat) (h : x < lim) (h0 : 0 < nb x) : (beL (nb x) x).headD 0 ≠ 0 := by
  have h1 := vn (nb x) x 0 h0
  have h2 : (beL (nb x) x).headD 0 = (beL (nb x) x).getD 0 0 := by cases beL (nb x) x <;> rfl
  rw [h2, h1]
  have h3 : 256 ^ (nb x - 1) ≤ x := by
    revert h0
    unfold nb
    (repeat' split) <;> simp <;> omega
  have h4 := jdv x h
  have h5 : 256 ^ nb x = 256 ^ (nb x - 1) * 256 := by rw [← Nat.pow_succ]; congr 1; omega
  have h6 : 0 < 256 ^ (nb x - 1) := Nat.pow_pos (by decide)
  have h7 : 1 ≤ x / 256 ^ (nb x - 1) := (Nat.le_div_iff_mul_le h6).2 (by omega)
  have h8 : x / 256 ^ (nb x - 1) < 256 := (Nat.div_lt_iff_lt_mul h6).2 (by rw [Nat.mul_comm]; omega)
  have h9 : nb x - 1 - 0 = nb x - 1 := by omega
  rw [h9]
  omega
def getR (p : Nat) : List Nat → Nat × Nat × Nat
  | [] => (0, 0, 3)
  | k :: q => if 8 < k then (0, 0, 2) else if q.length < k then (0, 0, 3) else if 0 < k ∧ q.headD 0 = 0 then (0, 0, 2) else (valL (q.take k), p + 1 + k, 0)
def getE (l : List Nat) (i : Int) : Nat × Nat × Nat := if i < 0 ∨ (l.length : Int) < i then (0, 0, 1) else getR i.toNat (l.drop i.toNat)
theorem getR_num (p x : Nat) (post : List Nat) (h : x < lim) : getR p (numL x ++ post) = (x, p + (numL x).length, 0) := by
  have hk := zL x
  have hl := jL (nb x) x
  have e : numL x ++ post = nb x :: (beL (nb x) x ++ post) := rfl
  have h0 : ¬ (0 < nb x ∧ (beL (nb x) x ++ post).headD 0 = 0) := by
    rintro ⟨h1, h2⟩
    have h3 := nb_head x h h1
    cases hb : beL (nb x) x with
    | nil => rw [hb] at hl; simp at hl; omega
    | cons c r => rw [hb] at h2 h3; exact h3 h2
  rw [e, getR, if_neg (by omega), if_neg (by simp; omega), if_neg h0, List.take_append_of_le_length (by omega), List.take_of_length_le (by omega), yR _ _ (jdv x h), zG]
  congr 2
  omega
theorem uk (pre post : List Nat) (x : Nat) (h : x < lim) : getE (pre ++ (numL x ++ post)) (pre.length : Int) = (x, pre.length + (numL x).length, 0) := by
  rw [getE, if_neg (by simp; omega)]
  simp only [Int.toNat_natCast, List.drop_left]
  exact getR_num _ x post h
theorem jaq (p : Nat) (l : List Nat) (hl : ∀ x ∈ l, x < 256) (n q e : Nat) (h : getR p l = (n, q, e)) : (e = 0 → n < lim ∧ q ≤ p + l.length ∧ p ≤ q ∧ l.take (q - p) = numL n) ∧ (e ≠ 0 → n = 0 ∧ q = 0) ∧ e ≤ 3 := by
  cases l with
  | nil => simp only [getR, Prod.mk.injEq] at h; omega
  | cons k r =>
    rw [getR] at h
    split at h
    · simp only [Prod.mk.injEq] at h; omega
    · split at h
      · simp only [Prod.mk.injEq] at h; omega
      · split at h
        · simp only [Prod.mk.injEq] at h; omega
        · rename_i h1 h2 h3
          simp only [Prod.mk.injEq] at h
          obtain ⟨rfl, rfl, rfl⟩ := h
          have hlen : (r.take k).length = k := by rw [List.length_take]; omega
          have hlt : ∀ x ∈ r.take k, x < 256 := fun x hx => hl x (List.mem_cons_of_mem _ (List.mem_of_mem_take hx))
          have hv := uo k _ hlen hlt
          have hge : 0 < k → 256 ^ (k - 1) ≤ valL (r.take k) := fun h0 => QE (k - 1) _ (by omega) (by
            intro h4
            apply h3
            refine ⟨h0, ?_⟩
            cases r with
            | nil => rfl
            | cons c r =>
              obtain ⟨m, rfl⟩ : ∃ m, k = m + 1 := ⟨k - 1, by omega⟩
              simpa using h4)
          have hnb := nb_of _ k (by omega) hv hge
          refine ⟨fun _ => ⟨?_, by simp; omega, by omega, ?_⟩, by omega, by omega⟩
          · have : (256 : Nat) ^ k ≤ 256 ^ 8 := Nat.pow_le_pow_right (by decide) (by omega)
            have e8 : (256 : Nat) ^ 8 = lim := by decide
            omega
          · have e1 : p + 1 + k - p = k + 1 := by omega
            rw [e1, List.take_succ_cons, numL, hnb, Yl k _ hlen hlt]
theorem JV (l : List Nat) (hl : ∀ x ∈ l, x < 256) (i : Int) (n q e : Nat) (h : getE l i = (n, q, e)) : (e = 0 → n < lim ∧ 0 ≤ i ∧ i ≤ q ∧ q ≤ l.length ∧ (l.drop i.toNat).take (q - i.toNat) = numL n) ∧ (e ≠ 0 → n = 0 ∧ q = 0) ∧ e ≤ 3 := by
  rw [getE] at h
  split at h
  · simp only [Prod.mk.injEq] at h; omega
  · rename_i h1
    have := jaq i.toNat (l.drop i.toNat) (fun x hx => hl x (List.mem_of_mem_drop hx)) n q e h
    rw [List.length_drop] at this
    refine ⟨fun h0 => ?_, this.2⟩
    obtain ⟨h2, h3, h4, h5⟩ := this.1 h0
    exact ⟨h2, by omega, by omega, by omega, h5⟩
def putN (l : List Nat) : List Nat := l.flatMap numL
def textL (s : List Nat) : List Nat := numL s.length ++ s
def putT (l : List (List Nat)) : List Nat := l.flatMap textL
def getT (l : List Nat) (i m : Int) : List Nat × Nat × Nat :=
  if (getE l i).2.2 ≠ 0 then ([], 0, (getE l i).2.2) else if m < 0 ∨ m < ((getE l i).1 : Int) then ([], 0, 4) else if l.length - (getE l i).2.1 < (getE l i).1 then ([], 0, 3) else ((l.drop (getE l i).2.1).take (getE l i).1, (getE l i).2.1 + (getE l i).1, 0)
end Go.Proofs.YtgfnjekpafempaaGreat
