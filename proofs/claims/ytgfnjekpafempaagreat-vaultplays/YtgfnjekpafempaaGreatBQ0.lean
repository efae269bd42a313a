import Derived.Test.YtgfnjekpafempaaGreatBD1
import Derived.Lib.SlBytesConst
namespace Go.Proofs.YtgfnjekpafempaaGreat
open Go.RowKit
section
variable {P : Program} {o : Oper} {A : Act}
theorem ZN (t : TypeId) (x y : Operand) (t2 : TypeId) (ho : o.op = .binOp .geq t x y t2) (a b : Int) (hx : A.eval x = .int .i64 a) (hy : A.eval y = .int .i64 b) (p : Bool) (hp : decide (b ≤ a) = p) (w : World) : (execOp A.eval o).run P w = .ok (.value (.bool p)) w := by
  subst hp
  refine jF .geq t x y t2 ho _ _ _ hx hy (by simp [eqGuard]) ?_
  simp [go_sem]
theorem yV (t : TypeId) (x y : Operand) (t2 : TypeId) (ho : o.op = .binOp .leq t x y t2) (a b : Int) (hx : A.eval x = .int .i64 a) (hy : A.eval y = .int .i64 b) (p : Bool) (hp : decide (a ≤ b) = p) (w : World) : (execOp A.eval o).run P w = .ok (.value (.bool p)) w := by
  subst hp
  refine jF .leq t x y t2 ho _ _ _ hx hy (by simp [eqGuard]) ?_
  simp [go_sem]
theorem jv (t : TypeId) (x y : Operand) (t2 : TypeId) (ho : o.op = .binOp .lss t x y t2) (a b : Int) (hx : A.eval x = .int .i64 a) (hy : A.eval y = .int .i64 b) (p : Bool) (hp : decide (a < b) = p) (w : World) : (execOp A.eval o).run P w = .ok (.value (.bool p)) w := by
  subst hp
  refine jF .lss t x y t2 ho _ _ _ hx hy (by simp [eqGuard]) ?_
  simp [go_sem]
theorem jy (t : TypeId) (x y : Operand) (t2 : TypeId) (ho : o.op = .binOp .gtr t x y t2) (a b : Int) (hx : A.eval x = .int .i64 a) (hy : A.eval y = .int .i64 b) (p : Bool) (hp : decide (b < a) = p) (w : World) : (execOp A.eval o).run P w = .ok (.value (.bool p)) w := by
  subst hp
  refine jF .gtr t x y t2 ho _ _ _ hx hy (by simp [eqGuard]) ?_
  simp [go_sem]
theorem run_eqB (t : TypeId) (x y : Operand) (t2 : TypeId) (ho : o.op = .binOp .eql t x y t2) (a b : Bool) (hx : A.eval x = .bool a) (hy : A.eval y = .bool b) (hu : P.underlying t = some .bool) (p : Bool) (hp : decide (a = b) = p) (w : World) : (execOp A.eval o).run P w = .ok (.value (.bool p)) w := by
  subst hp
  refine jF .eql t x y t2 ho _ _ _ hx hy (by simp [eqGuard, go_sem]) ?_
  have h := run_equalIn_bool w (Op.maxDepth - 1) t a b hu
  simp only [binOp]
  simp [go_sem]
  exact h ▸ by cases a <;> cases b <;> rfl
end
theorem jbv {P : Program} {ops : Array Oper} {rest : List Oper} {o : Oper} {T : List Value} {ds : List Deferred} {w : World} {Q : Exit → Act → World → Prop} (dst : Nat) (hd : o.dst = some dst) (hw : Region.wanted o (yielded ops T.toArray) = true) (c : Call) (f : FuncId) (hen : ∀ args w, (callFunc f args).run P w = .ok (.enter f args) w) (ho : o.op = .call c) (hc : c.callee = .value (.func f)) (xs : List Operand) (hxs : c.args = xs.toArray) (vs : List Value) (hvs : xs.map (Act.eval ⟨T.toArray, ds⟩) = vs)
    {v : Value} {R : World → Prop} (H : Calls P f vs.toArray w fun e w' => e = .returned v ∧ R w')
    (h : ∀ w', R w' → wpList P ops Q rest ⟨(T.set dst v).toArray, ds⟩ w') : wpList P ops Q (o :: rest) ⟨T.toArray, ds⟩ w :=
  wpList_step fun K hK => by
    rw [if_pos hw]
    unfold Oper.wp
    rw [Jo c f hen ho hc, hxs, List.map_toArray, hvs, Oper.upon_enter]
    refine H.mono fun e w' hR => ?_
    obtain ⟨rfl, hR⟩ := hR
    have := h w' hR
    rw [← jX, ← hd] at this
    exact hK _ _ this
def yv (T : Array Value) (d : Nat) : Option Bool :=
  match T[d]? with
  | some (.bool b) => some b
  | _ => none
theorem UH {l : List Oper} {j d : Nat} (h : (l[j]?).bind (·.dst) = some d) (T : Array Value) : yielded l.toArray T j = yv T d := by
  unfold yielded yv
  have : ((l.toArray[j]?).bind (·.dst)) = some d := by simpa using h
  rw [this]
  rfl
theorem jg {P : Program} {id : Nat} {l : List Oper} {Q : Exit → Act → World → Prop} {a : Act} {w : World} (h : ∀ OPS : Array Oper, (∀ j d, (l[j]?).bind (·.dst) = some d → ∀ T, yielded OPS T j = yv T d) → wpList P OPS Q l a w) : (Code.region id l.toArray false).wp P Q a w :=
  wp_region_lit (h l.toArray fun _ _ hd T => UH hd T)
section
variable {P : Program} {ops : Array Oper} {rest : List Oper} {o : Oper} {T : List Value} {ds : List Deferred} {w : World} {Q : Exit → Act → World → Prop}
theorem JL {gi d : Nat} {b r : Bool} (hg : o.guard = some (gi, b)) (y : ∀ T, yielded ops T gi = yv T d) (hv : (yv T.toArray d == some b) = r) : Region.wanted o (yielded ops T.toArray) = r := by
  unfold Region.wanted
  rw [hg]
  show (yielded ops T.toArray gi == some b) = r
  rw [y]
  exact hv
theorem jk {gi d : Nat} {b : Bool} (dst : Nat) (hd : o.dst = some dst) (hg : o.guard = some (gi, b)) (y : ∀ T, yielded ops T gi = yv T d) (hv : (yv T.toArray d == some b) = false)
    (h : wpList P ops Q rest ⟨(T.set dst undef).toArray, ds⟩ w) : wpList P ops Q (o :: rest) ⟨T.toArray, ds⟩ w := jbs dst hd (JL hg y hv) h
theorem jd {gi d : Nat} {b : Bool} (dst : Nat) (hd : o.dst = some dst) (hg : o.guard = some (gi, b)) (y : ∀ T, yielded ops T gi = yv T d) (hv : (yv T.toArray d == some b) = true) (v : Value) (he : (execOp (Act.eval ⟨T.toArray, ds⟩) o).run P w = .ok (.value v) w)
    (h : wpList P ops Q rest ⟨(T.set dst v).toArray, ds⟩ w) : wpList P ops Q (o :: rest) ⟨T.toArray, ds⟩ w := YU dst hd (JL hg y hv) v he h
theorem zP {gi d : Nat} {b : Bool} (dst : Nat) (hd : o.dst = some dst) (hg : o.guard = some (gi, b)) (y : ∀ T, yielded ops T gi = yv T d) (hv : (yv T.toArray d == some b) = true) (c : Call) (f : FuncId) (hen : ∀ args w, (callFunc f args).run P w = .ok (.enter f args) w) (ho : o.op = .call c) (hc : c.callee = .value (.func f)) (xs : List Operand) (hxs : c.args = xs.toArray) (vs : List Value) (hvs : xs.map (Act.eval ⟨T.toArray, ds⟩) = vs)
    {v : Value} {R : World → Prop} (H : Calls P f vs.toArray w fun e w' => e = .returned v ∧ R w')
    (h : ∀ w', R w' → wpList P ops Q rest ⟨(T.set dst v).toArray, ds⟩ w') : wpList P ops Q (o :: rest) ⟨T.toArray, ds⟩ w := jbv dst hd (JL hg y hv) c f hen ho hc xs hxs vs hvs H h
end
theorem jN {S : List Nat} {w cur : World} {g : Nat} (h : GroS S w cur) (e : cur.heap.size = g) : w.heap.size ≤ g := e ▸ h.size
theorem js {P : Program} {o : Oper} {A : Act} {t e : TypeId} (hu : P.underlying t = some (.slice e)) (x : Operand) (ho : o.op = .call { callee := .builtin .len, args := #[x], argTypes := #[t] }) (ao : Option Addr) (n cap : Nat) (hx : A.eval x = .slice ao n cap) (w : World) : (execOp A.eval o).run P w = .ok (.value (.int .i64 (n : Int))) w := by
  have hr := run_underlying hu w
  unfold execOp
  simp [ho, resolve, invoke, builtin, hx, Builtin.len_, hr, goInt]
section
variable {P : Program} {o : Oper} {A : Act}
theorem jT (t : TypeId) (x y : Operand) (t2 : TypeId) (ho : o.op = .binOp .eql t x y t2) (a : Addr) (hx : A.eval x = .pointer (some a)) (hy : A.eval y = .pointer none) {e : TypeId} (hu : P.underlying t = some (.pointer e)) (w : World) : (execOp A.eval o).run P w = .ok (.value (.bool false)) w := by
  refine jF .eql t x y t2 ho _ _ _ hx hy (by simp [eqGuard, go_sem]) ?_
  exact run_eql_pointer_nil w t (some a) (by simp [Program.pointee, hu])
theorem ZP (t : TypeId) (x y : Operand) (t2 : TypeId) (ho : o.op = .binOp .eql t x y t2) (hx : A.eval x = .pointer none) (hy : A.eval y = .pointer none) {e : TypeId} (hu : P.underlying t = some (.pointer e)) (w : World) : (execOp A.eval o).run P w = .ok (.value (.bool true)) w := by
  refine jF .eql t x y t2 ho _ _ _ hx hy (by simp [eqGuard, go_sem]) ?_
  exact run_eql_pointer_nil w t none (by simp [Program.pointee, hu])
end
theorem uF {P : Program} {e : TypeId} {z : Option Value} {n b : Nat} (h : (P.info? e).map (fun i => (i.zero, i.size, i.bytes)) = some (z, n, b)) : ∃ i, P.info? e = some i ∧ i.zero = z ∧ i.size = n ∧ i.bytes = b := by
  cases hi : P.info? e with
  | none => rw [hi] at h; cases h
  | some i =>
    rw [hi] at h
    simp only [Option.map_some, Option.some.injEq, Prod.mk.injEq] at h
    exact ⟨i, rfl, h.1, h.2.1, h.2.2⟩
section
variable {P : Program} {o : Oper} {A : Act}
theorem jw (t : TypeId) (k : IntKind) (x y : Operand) (t2 : TypeId) (ho : o.op = .binOp .eql t x y t2) (hu : P.underlying t = some (.int k)) (a b : Int) (hx : A.eval x = .int k a) (hy : A.eval y = .int k b) (p : Bool) (hp : decide (a = b) = p) (w : World) : (execOp A.eval o).run P w = .ok (.value (.bool p)) w := by
  subst hp
  refine jF .eql t x y t2 ho _ _ _ hx hy (by simp [eqGuard, go_sem]) ?_
  have h := run_equalIn_int w Op.maxDepth t k k a b hu
  simp only [binOp]
  simp [go_sem]
  rfl
theorem jj (t : TypeId) (k : IntKind) (x y : Operand) (t2 : TypeId) (ho : o.op = .binOp .neq t x y t2) (_hu : P.underlying t = some (.int k)) (a b : Int) (hx : A.eval x = .int k a) (hy : A.eval y = .int k b) (p : Bool) (hp : decide (a = b) = !p) (w : World) : (execOp A.eval o).run P w = .ok (.value (.bool p)) w := by
  refine jF .neq t x y t2 ho _ _ _ hx hy (by simp [eqGuard, go_sem]) ?_
  simp only [binOp]
  have e : (a == b) = !p := by rw [← hp]; rfl
  simp [go_sem]
  rw [bne, e]
  simp
end
theorem zu (u v : Value) : (PostE.val u).fill v = u := rfl
theorem exQ {P : Program} {id : Nat} {l : List Oper} {Q : Exit → Act → World → Prop} {a0 : Act} {w : World} {A : (Nat → Value) → Act} (n : Nat) (D : List (Nat × Nat)) (posts : List PostE) (hm : P.follows .mixedOrders = true) (hB : growB l.toArray n D = true) (hsz : (D.all fun p => decide (p.2 < a0.tmps.size)) = true) (hop : opsA P l.toArray posts A w.drew 0 (l.take n)) (hrest : ∀ ptrs w', Gro w.drew w' → exHold posts ptrs w' (List.range n) → wpList P l.toArray Q (l.drop n) (A ptrs) w')
    (hA : ∀ ptrs, full a0 D (filledE posts ptrs) = A ptrs := by intro ptrs; simp only [full, foldSlots, filledE, postE, List.foldl_cons, List.foldl_nil, List.getD_cons_zero, List.getD_cons_succ, zu, List.set_cons_zero, List.set_cons_succ]; exact rfl) : (Code.region id l.toArray true).wp P Q a0 w := jQ n D posts hm hB hsz hA hop hrest
theorem JS {p : Nat → Prop} (h : ∃ n, p n) : ∃ n, p n ∧ ∀ m, m < n → ¬ p m := by
  obtain ⟨n, hn⟩ := h
  induction n using Nat.strongRecOn with
  | _ n ih =>
    by_cases hx : ∃ m, m < n ∧ p m
    · obtain ⟨m, hm, hp⟩ := hx
      exact ih m hm hp
    · exact ⟨n, hn, fun m hm hp => hx ⟨m, hm, hp⟩⟩
theorem jO {P : Program} {c : Code} {Q : Exit → Act → World → Prop} (J : Nat → Act → World → Prop) (round : ∀ n a w, J n a w → c.wp P (Exit.then (fun a' w' => ∃ m, m < n ∧ J m a' w') Q) a w) (n : Nat) {a : Act} {w : World} (h : J n a w) : (Code.loop c).wp P Q a w := by
  classical
  refine wp_loop (fun a w => ∃ n, J n a w) (fun a w => if h : ∃ n, J n a w then Classical.choose (JS h) else 0) ⟨n, h⟩ fun a w hI => ?_
  have hc := Classical.choose_spec (JS hI)
  have hm : (if h : ∃ n, J n a w then Classical.choose (JS h) else 0) = Classical.choose (JS hI) := dif_pos hI
  rw [hm]
  refine Code.wp_mono (fun e a' w' hq => ?_) (round _ a w hc.1)
  cases e with
  | normal =>
    obtain ⟨m, hlt, hJ⟩ := hq
    have hI' : ∃ n, J n a' w' := ⟨m, hJ⟩
    refine ⟨hI', ?_⟩
    have hc' := Classical.choose_spec (JS hI')
    rw [dif_pos hI']
    have : ¬ m < Classical.choose (JS hI') := fun hx => hc'.2 m hx hJ
    omega
  | exit _ => exact hq
  | goto _ => exact hq
  | ret => exact hq
  | panic _ => exact hq
  | outgrown => exact hq
theorem jbi {L l : List Nat} (h : l.length = L.length) : wr L 0 l = l := by
  simp [wr, h]
theorem tdivN (a b : Nat) : (a : Int).tdiv (b : Int) = ((a / b : Nat) : Int) := rfl
theorem tmodN (a b : Nat) : (a : Int).tmod (b : Int) = ((a % b : Nat) : Int) := rfl
theorem YZ {P : Program} {o : Oper} {A : Act} {w : World} (t : TypeId) (n : Nat) (l : List (Nat × Operand)) (ho : o.op = .buildSlice t n l.toArray) (vals : List (Nat × Value)) (hv : (l.map fun p => (p.1, A.eval p.2)) = vals) {v : Value} {w' : World} (h : (Instr.buildSlice t n vals.toArray).run P w = .ok v w') :
    (execOp A.eval o).run P w = .ok (.value v) w' := by
  unfold execOp
  simp only [ho]
  have : (l.toArray.map fun (i, x) => (i, A.eval x)) = vals.toArray := by rw [← hv]; simp
  rw [this]
  simp [h]
section
variable {P : Program} {ops : Array Oper} {rest : List Oper} {o : Oper} {T : List Value} {ds : List Deferred} {w : World} {Q : Exit → Act → World → Prop}
theorem ye (dst : Nat) (hd : o.dst = some dst) (hgd : o.guard = none) (t : TypeId) (n : Nat) (l : List (Nat × Operand)) (ho : o.op = .buildSlice t n l.toArray) (vals : List (Nat × Value)) (hv : (l.map fun p => (p.1, (⟨T.toArray, ds⟩ : Act).eval p.2)) = vals) (cs : Array Value) (e : TypeId)
    (hr : (Instr.buildSlice t n vals.toArray).run P w = .ok (.slice (some ⟨w.heap.size, 0, none⟩) n n) (w.alloc (.cells cs e)))
    (h : ∀ w' g, Gro w w' → w.heap.size = g → w'.heap[g]? = some (.cells cs e (0, 0)) → wpList P ops Q rest ⟨(T.set dst (.slice (some ⟨g, 0, none⟩) n n)).toArray, ds⟩ w') : wpList P ops Q (o :: rest) ⟨T.toArray, ds⟩ w :=
  wpList_plain hgd fun _ hK => by
    have he := YZ (A := ⟨T.toArray, ds⟩) t n l ho vals hv hr
    unfold Oper.wp
    rw [he, Oper.upon_value, hd, jX]
    exact hK _ _ (h _ _ (zl _ _) rfl (heap_alloc_new _ _))
end
theorem yH {P : Program} {ops : Array Oper} {rest : List Oper} {o : Oper} {T : List Value} {ds : List Deferred} {w : World} {Q : Exit → Act → World → Prop} {t e : TypeId} {k : IntKind} {b : Nat} (TT : NumT P t e k b) (dst : Nat) (hd : o.dst = some dst) (hgd : o.guard = none) (s x : Operand)
    (ho : o.op = .call { callee := .builtin .append, args := #[s, x], argTypes := #[t, t] }) {B : Nat} {ao : Option Addr} {cap : Nat} {l : List Nat} (hs : (⟨T.toArray, ds⟩ : Act).eval s = .slice ao l.length cap) (hown : OB w e k B ao cap l)
    {ao' : Option Addr} {cap' : Nat} {l' : List Nat} (hx : (⟨T.toArray, ds⟩ : Act).eval x = .slice ao' l'.length cap') (hsrc : NC w k ao' cap' l') (hb : (l.length + l'.length) * b ≤ 140737488355328) (hb0 : 0 < b) (hB : B ≤ w.heap.size)
    (h : ∀ ao2 cap2 w', OB w' e k B ao2 cap2 (l ++ l') → Below B w w' → wpList P ops Q rest ⟨(T.set dst (.slice ao2 (l ++ l').length cap2)).toArray, ds⟩ w') : wpList P ops Q (o :: rest) ⟨T.toArray, ds⟩ w :=
  zS TT dst hd hgd s x ho hs hown hx hsrc hb hb0 hB fun ao2 cap2 L w' hL h1 h2 => by
    have e1 := hL.out
    subst e1
    rw [jX]
    exact h ao2 cap2 w' h1 h2
theorem Yj (C : List Nat) (m y : Nat) (h : m < C.length) : splice (bv C) m #[.int .u8 (y : Int)] = bv (C.set m y) := by
  rw [yS _ _ _ (by rw [zE]; exact h)]
  apply Array.toList_inj.1
  simp [bv, List.map_set]
theorem one1 (y : Int) : (#[Value.int .u8 y]).all (·.oneCell') = true := by
  rw [Array.all_eq_true_iff_forall_mem]
  intro x hx
  simp at hx
  subst hx
  rfl
theorem zq {w a b : World} {g : Nat} (G : Gro w a) (BB : Below g a b) (hg : w.heap.size ≤ g) : Gro w b := Below.trans G (BB.mono hg)
theorem Qi {w : World} {g : Nat} {L : List Nat} {t : TypeId} (hg : w.heap[g]? = some (.cells (bv L) t (0, 0))) (hL : ∀ x ∈ L, x < 256) : NC w .u8 (some ⟨g, 0, none⟩) L.length L := by
  have h := ZV (off := 0) (n := L.length) (cap := L.length) hg (by omega) (Nat.le_refl _) hL
  rwa [List.drop_zero, List.take_length] at h
def inc8 (x : Nat) : Nat := (x + 1) % 256
theorem Vk (x : Nat) : ((inc8 x : Nat) : Int) ≤ IntKind.u8.max := by
  rw [yY]
  have : inc8 x < 256 := Nat.mod_lt _ (by decide)
  omega
theorem ZM {P : Program} {o : Oper} {A : Act} (x y : Operand) (t2 : TypeId) (ho : o.op = .binOp .add 5 x y t2) (n : Nat) (hx : A.eval x = .int .u8 (n : Int)) (hy : A.eval y = .int .u8 1) (w : World) : (execOp A.eval o).run P w = .ok (.value (.int .u8 ((inc8 n : Nat) : Int))) w := by
  refine jF .add 5 x y t2 ho _ _ _ hx hy (by simp [eqGuard]) ?_
  have h : IntKind.u8.wrap ((n : Int) + 1) = ((inc8 n : Nat) : Int) := by
    simp [IntKind.wrap, IntKind.bits, IntKind.signed, inc8]
  simp [go_sem, h]
section
variable {w w' : World} {e : TypeId} {k : IntKind} {B : Nat} {ao : Option Addr} {cap : Nat} {l : List Nat}
theorem OB.blk (h : OB w e k B ao cap l) {j : Nat} (hj : j < l.length) : ∃ g cur, ao = some ⟨g, 0, none⟩ ∧ B ≤ g ∧ w.heap[g]? = some (.cells cur e (0, 0)) ∧ l.length ≤ cap ∧ cap ≤ maxLen ∧ cur.size = cap ∧ cur.toList.take l.length = l.map fun r : Nat => Value.int k (r : Int) := by
  rcases h.own.2 with ⟨h1, h2⟩ | ⟨g, c, cur, h1, hB, h2, h3, h4, h5, h6⟩
  · omega
  · injection h1 with e1 e2 e3
    subst e1 e3
    exact ⟨g, cur, rfl, hB, h2, h3, h4, by omega, by rwa [Nat.mul_one] at h6⟩
theorem OB.cellv (h : OB w e k B ao cap l) {g j : Nat} (hg : ao = some ⟨g, 0, none⟩) (hj : j < l.length) : w.cell? ⟨g, j, none⟩ = some (.int k (l.getD j 0 : Int)) := by
  have := h.nc.cell _ hg j hj
  rwa [zQ, Nat.zero_add] at this
theorem OB.put (h : OB w e k B ao cap l) {g j : Nat} {cur : Array Value} (hg : ao = some ⟨g, 0, none⟩) (hc : w.heap[g]? = some (.cells cur e (0, 0))) (hj : j < l.length) (y : Nat) (hy : (y : Int) ≤ k.max) (St : Stored w w' g (.cells (splice cur j #[.int k (y : Int)]) e (0, 0))) : OB w' e k B ao cap (l.set j y) := by
  subst hg
  obtain ⟨g2, cur2, h1, hB, h2, h3, h4, h5, h6⟩ := h.blk hj
  cases h1
  rw [hc] at h2
  cases h2
  refine OB.made St.new hB (by rw [List.length_set]; exact h3) h4 ?_ ?_ (fun x hx => ?_)
  · rw [yS _ _ _ (by omega)]
    simpa using h5
  · rw [yS _ _ _ (by omega), List.length_set, Array.toList_setIfInBounds, List.take_set, h6, List.map_set]
  · rcases List.mem_or_eq_of_mem_set hx with hx | hx
    · exact h.wf x hx
    · exact hx ▸ hy
end
theorem OB.gros {S : List Nat} {w w' : World} {e : TypeId} {k : IntKind} {B : Nat} {ao : Option Addr} {cap : Nat} {l : List Nat} (h : OB w e k B ao cap l) (G : GroS S w w') (hs : ∀ ad, ao = some ad → ad.block ∉ S) : OB w' e k B ao cap l := by
  refine ⟨⟨h.own.1, ?_⟩, h.wf⟩
  rcases h.own.2 with h1 | ⟨g, c, cur, h1, h2, h3, h4⟩
  · exact .inl h1
  · refine .inr ⟨g, c, cur, h1, h2, G.has h3 ?_, h4⟩
    injection h1 with e1 e2 e3
    exact hs _ e1
theorem blk_xn {w : World} {Q : Exit → Act → World → Prop} {i j : Nat} {a : Act} (hne : j ≠ i) (h : Q (.exit j) a w) : Exit.inBlock i Q (.exit j) a w := by
  simpa [Exit.inBlock, hne] using h
theorem JW {w w' : World} {B g : Nat} {x : Obj} (G : Below B w w') (h : w.heap[g]? = some x) (hg : g < B) : w'.heap[g]? = some x := by rw [G.block g hg]; exact h
theorem uZ {P : Program} {o : Oper} {A : Act} (x y : Operand) (t2 : TypeId) (ho : o.op = .binOp .neq 9 x y t2) (a b : ByteArray) (hx : A.eval x = .string a) (hy : A.eval y = .string b) (p : Bool) (hp : decide (a = b) = !p) (w : World) : (execOp A.eval o).run P w = .ok (.value (.bool p)) w :=
  jF .neq 9 x y t2 ho _ _ _ hx hy (by simp [eqGuard, go_sem]) (by
    have := jbm a b
    rw [hp] at this
    simp [go_sem, this])
theorem na4 (w : World) : (isAgg 4).run Tryz.prog w = .ok false w := by kernel_rfl
theorem bvc {w : World} {g : Nat} {L : List Nat} {t : TypeId} (hg : w.heap[g]? = some (.cells (bv L) t (0, 0))) {j : Nat} (hj : j < L.length) : w.cell? ⟨g, j, none⟩ = some (.int .u8 (L.getD j 0 : Int)) := by
  rw [cell_of_row w g _ _ t _ hg, Vv _ _ hj]
theorem zt {l : List Nat} (h : ∀ x ∈ l, x < 256) (j : Nat) : l.getD j 0 < 256 := by
  rw [List.getD_eq_getElem?_getD]
  cases e : l[j]? with
  | none => simp
  | some x => exact h x (List.mem_of_getElem? e)
theorem dec_ne (x : Nat) : decide ((x : Int) = 0) = !decide (x ≠ 0) := by
  by_cases h : x = 0
  · subst h; rfl
  · rw [decide_eq_true h, decide_eq_false (by omega)]; rfl
section
variable {P : Program} {ops : Array Oper} {rest : List Oper} {o : Oper} {T : List Value} {ds : List Deferred} {w : World} {Q : Exit → Act → World → Prop}
theorem s_mk0 {t e : TypeId} {k : IntKind} {b : Nat} (TT : NumT P t e k b) (dst : Nat) (hd : o.dst = some dst) (hgd : o.guard = none) (x y : Operand) (ho : o.op = .makeSlice t x y) (n : Nat) (hx : (⟨T.toArray, ds⟩ : Act).eval x = .int .i64 0) (hy : (⟨T.toArray, ds⟩ : Act).eval y = .int .i64 (n : Int)) (hb : b * n ≤ 281474976710656) (hm : n ≤ maxLen)
    (h : ∀ w' g, Gro w w' → w.heap.size = g → OB w' e k g (some ⟨g, 0, none⟩) n [] → wpList P ops Q rest ⟨(T.set dst (.slice (some ⟨g, 0, none⟩) 0 n)).toArray, ds⟩ w') : wpList P ops Q (o :: rest) ⟨T.toArray, ds⟩ w := by
  obtain ⟨i, hi, hz, hsz, hby⟩ := TT.info
  refine wpList_make_own w hgd x y t ho w.heap.size e i (.int k 0) 1 TT.und hi hz hsz .i64 .i64 _ n hx hy rfl (by rw [hby]; exact hb) hm (Nat.le_refl _) ?_
  intro w' h1 h2
  rw [hd, jX]
  exact h w' _ ⟨h2.os, h2.tape, h2.output, h2.size, fun k hk => h2.block k hk (by simp)⟩ rfl ⟨h1, fun _ h => by cases h⟩
def blk (ao : Option Addr) : List Nat := (ao.map (·.block)).toList
theorem mem_blk {ao : Option Addr} {k : Nat} : k ∈ blk ao ↔ ∃ ad, ao = some ad ∧ ad.block = k := by
  cases ao <;> simp [blk, eq_comm]
theorem QM {t e : TypeId} {sz b : Nat} {z : Value} (TT : RowT P t e sz b z) (dst : Nat) (hd : o.dst = some dst) (hgd : o.guard = none) (s x : Operand)
    (ho : o.op = .call { callee := .builtin .append, args := #[s, x], argTypes := #[t, t] }) {B : Nat} {ao : Option Addr} {cap n : Nat} {cs : List Value} (hs : (⟨T.toArray, ds⟩ : Act).eval s = .slice ao n cap) (hown : OX w e sz B ao cap n cs)
    {ad : Addr} {cap' m : Nat} {cs' : List Value} (hx : (⟨T.toArray, ds⟩ : Act).eval x = .slice (some ad) m cap') (hsrc : XC w sz (some ad) cap' m cs') (hb : (n + m) * b ≤ 140737488355328) (hb0 : 0 < b) (hB : B ≤ w.heap.size)
    (h : ∀ ao2 cap2 w', OX w' e sz B ao2 cap2 (n + m) (cs ++ cs') → GroS (blk ao) w w' → wpList P ops Q rest ⟨(T.set dst (.slice ao2 (n + m) cap2)).toArray, ds⟩ w') : wpList P ops Q (o :: rest) ⟨T.toArray, ds⟩ w := by
  obtain ⟨i, hi, hz, hsz, hby⟩ := TT.info
  have hle : n + m ≤ 140737488355328 := Nat.le_trans (Nat.le_mul_of_pos_right _ hb0) hb
  refine wpList_append_own w hgd s x t ho B e i z sz b TT.und hi hz hsz hby TT.zs TT.pos _ n _ hs hown.own ad m cap' cs' hx hsrc.len (fun j u hu => hsrc.cell ad rfl j u hu) hsrc.one (by simp only [maxLen]; omega) hb hB ?_
  intro v' w' h1 h2 _
  have hG : GroS (blk ao) w w' := ⟨h2.os, h2.tape, h2.output, h2.size, fun k hk hn => h2.block k hk (fun e => hn (by
    cases ao with
    | none => cases e
    | some a =>
      have : a.block = k := by simpa [Value.ownBlock] using e.symm
      exact mem_blk.2 ⟨a, rfl, this⟩))⟩
  rw [hd, jX]
  have hone : ∀ v ∈ cs ++ cs', v.oneCell' = true := fun v hv => by
    rcases List.mem_append.1 hv with hv | hv
    · exact hown.one v hv
    · exact hsrc.one v hv
  rcases h1.2 with ⟨rfl, h4⟩ | ⟨g, c, cur, rfl, _⟩
  · have := h none 0 w' ⟨by rw [h4] at h1; rw [h4]; exact h1, hone⟩ hG
    rw [h4] at this
    exact this
  · exact h (some ⟨g, 0, none⟩) c w' ⟨h1, hone⟩ hG
end
theorem OX.ne {w : World} {e : TypeId} {sz B : Nat} {ao : Option Addr} {cap n : Nat} {cs : List Value} (h : OX w e sz B ao cap n cs) {k : Nat} {c : Array Value} {t : TypeId} (hk : w.heap[k]? = some (.cells c t (0, 0))) (ht : t ≠ e) : k ∉ blk ao := fun hm => by
  obtain ⟨ad, rfl, rfl⟩ := mem_blk.1 hm
  rcases h.own.2 with ⟨h1, _⟩ | ⟨g, c', cur, h1, _, h2, _⟩
  · cases h1
  · injection h1 with e1 e2 e3
    injection e1 with e1
    subst e1
    rw [h2] at hk
    injection hk with hk
    injection hk with hk1 hk2
    exact ht hk2.symm
theorem OX.gros {S : List Nat} {w w' : World} {e : TypeId} {sz B : Nat} {ao : Option Addr} {cap n : Nat} {cs : List Value} (h : OX w e sz B ao cap n cs) (G : GroS S w w') (hs : ∀ ad, ao = some ad → ad.block ∉ S) : OX w' e sz B ao cap n cs := by
  refine ⟨⟨h.own.1, ?_⟩, h.one⟩
  rcases h.own.2 with h1 | ⟨g, c, cur, h1, h2, h3, h4⟩
  · exact .inl h1
  · refine .inr ⟨g, c, cur, h1, h2, G.has h3 ?_, h4⟩
    injection h1 with e1 e2 e3
    exact hs _ e1
theorem OX.base {w : World} {e : TypeId} {sz B : Nat} {ao : Option Addr} {cap n : Nat} {cs : List Value} (h : OX w e sz B ao cap n cs) : ∀ x ∈ blk ao, B ≤ x := fun x hx => by
  obtain ⟨ad, rfl, rfl⟩ := mem_blk.1 hx
  exact (h.ge ad rfl).1
theorem UI {w : World} {g : Nat} {v : Value} {t : TypeId} (hg : w.heap[g]? = some (.cells #[v] t (0, 0))) (h1 : v.oneCell' = true) : XC w 1 (some ⟨g, 0, none⟩) 1 1 [v] := by
  refine ⟨rfl, Nat.le_refl _, fun h => by (cases h), fun ad ha j u hu => ?_, fun u hu => by (simp at hu; rw [hu]; exact h1)⟩
  cases ha
  rw [zQ, cell_of_row w g _ _ t _ hg]
  match j with
  | 0 => simpa using hu
  | j + 1 => simp at hu
section
variable {P : Program} {o : Oper} {A : Act}
theorem VS (t : TypeId) (x y : Operand) (t2 : TypeId) (ho : o.op = .binOp .neq t x y t2) (a : Addr) (hx : A.eval x = .pointer (some a)) (hy : A.eval y = .pointer none) {e : TypeId} (hu : P.underlying t = some (.pointer e)) (w : World) : (execOp A.eval o).run P w = .ok (.value (.bool true)) w := by
  refine jF .neq t x y t2 ho _ _ _ hx hy (by simp [eqGuard, go_sem]) ?_
  exact run_neq_pointer_nil w t (some a) (by simp [Program.pointee, hu])
end
theorem cap_le {w : World} {e : TypeId} {sz B : Nat} {ao : Option Addr} {cap n : Nat} {cs : List Value} (h : OX w e sz B ao cap n cs) : cap < 9223372036854775808 := by
  rcases h.own.2 with ⟨h1, _⟩ | ⟨g, c, cur, h1, _, _, _, h4, _⟩
  · injection h1 with e1 e2 e3
    omega
  · injection h1 with e1 e2 e3
    simp only [maxLen] at h4
    omega
structure LC (w : World) (ao : Option Addr) (cap : Nat) (ls : List (List Nat)) : Prop where
  fit : ls.length ≤ cap
  bare : ao = none → cap = 0
  cell : ∀ ad, ao = some ad → ∀ j, j < ls.length → ∃ ao' cap', w.cell? (ad.add j) = some (.slice ao' (ls.getD j []).length cap') ∧ NC w .u8 ao' cap' (ls.getD j [])
theorem LC.at {w : World} {ao : Option Addr} {cap : Nat} {ls : List (List Nat)} (h : LC w ao cap ls) {j : Nat} (hj : j < ls.length) : ∃ ad ao' cap', ao = some ad ∧ w.cell? (ad.add j) = some (.slice ao' (ls.getD j []).length cap') ∧ NC w .u8 ao' cap' (ls.getD j []) := by
  cases hao : ao with
  | none => have := h.bare hao; have := h.fit; omega
  | some ad => obtain ⟨ao', cap', h1, h2⟩ := h.cell ad hao j hj; exact ⟨ad, ao', cap', rfl, h1, h2⟩
theorem LC.gro {w w' : World} {ao : Option Addr} {cap : Nat} {ls : List (List Nat)} (h : LC w ao cap ls) (G : Gro w w') : LC w' ao cap ls :=
  ⟨h.fit, h.bare, fun ad ha j hj => by
    obtain ⟨ao', cap', h1, h2⟩ := h.cell ad ha j hj
    exact ⟨ao', cap', (World.cell?_of_block (G.block _ (World.block_lt_of_cell? w _ h1))).trans h1, h2.gro G⟩⟩
theorem jdr {w : World} {g : Nat} {l : List Nat} (hc : ∀ j, j < l.length → w.cell? ⟨g, j, none⟩ = some (.int .u8 (l.getD j 0 : Int))) (hl : ∀ x ∈ l, x < 256) : NC w .u8 (some ⟨g, 0, none⟩) l.length l :=
  ⟨Nat.le_refl _, fun h => by (cases h), fun ad ha j hj => by (cases ha; rw [zQ, Nat.zero_add]; exact hc j hj), fun x hx => by (have := hl x hx; rw [yY]; omega)⟩
def uN (x : Int) : Nat := (x % 18446744073709551616).toNat
theorem uN_eq (x : Int) : IntKind.u64.wrap x = ((uN x : Nat) : Int) := by
  simp [IntKind.wrap, IntKind.bits, IntKind.signed, uN]
  omega
theorem yU {P : Program} {o : Oper} {A : Act} (t t2 : TypeId) (x y : Operand) (ho : o.op = .binOp .rem t x y t2) (a m : Nat) (hx : A.eval x = .int .u64 (a : Int)) (hy : A.eval y = .int .u64 (m : Int)) (hm : m ≠ 0) (w : World) : (execOp A.eval o).run P w = .ok (.value (.int .u64 ((a % m : Nat) : Int))) w := by
  refine jF .rem t x y t2 ho _ _ _ hx hy (by simp [eqGuard]) ?_
  have h1 : (a : Int).tmod (m : Int) = ((a % m : Nat) : Int) := tmodN a m
  have h2 : (m : Int) ≠ 0 := by omega
  simp only [binOp, Op.intDiv, if_neg h2, h1]
  rfl
structure RV where
  ao : Option Addr
  cap : Nat
  l : List Nat
def RV.v (x : RV) : Value := .slice x.ao x.l.length x.cap
theorem OB.blk5 {w : World} {B : Nat} {ao : Option Addr} {cap : Nat} {l : List Nat} (h : OB w 5 .u8 B ao cap l) {ad : Addr} (ha : ao = some ad) : ∃ cur, w.heap[ad.block]? = some (.cells cur 5 (0, 0)) := by
  rcases h.own.2 with ⟨h1, _⟩ | ⟨g, c', cur, h1, _, h2, _⟩
  · injection h1 with e1 e2 e3
    rw [ha] at e1
    cases e1
  · injection h1 with e1 e2 e3
    rw [ha] at e1
    injection e1 with e1
    subst e1
    exact ⟨cur, h2⟩
theorem jB {w : World} {a b : Nat} {c c' : Array Value} {t t' : TypeId} (h : w.heap[a]? = some (.cells c t (0, 0))) (h' : w.heap[b]? = some (.cells c' t' (0, 0))) (ht : t ≠ t') : a ≠ b := fun e => by
  subst e
  rw [h] at h'
  injection h' with h'
  injection h' with _ h2
  exact ht h2
theorem jdz {w : World} {ao : Option Addr} {cap : Nat} {q : List RV} (hx : XC w 1 ao cap q.length (q.map RV.v)) (hr : ∀ x ∈ q, NC w .u8 x.ao x.cap x.l) : LC w ao cap (q.map (·.l)) := by
  refine ⟨by rw [List.length_map]; exact hx.fit, hx.bare, fun ad ha j hj => ?_⟩
  rw [List.length_map] at hj
  have h1 : (q.map (·.l)).getD j [] = q[j].l := by simp [List.getD_eq_getElem?_getD, hj]
  rw [h1]
  refine ⟨q[j].ao, q[j].cap, hx.cell ad ha j _ ?_, hr _ (List.getElem_mem _)⟩
  rw [List.getElem?_map, List.getElem?_eq_getElem hj]
  rfl
theorem vG {ls : List (List Nat)} {j : Nat} (h : j < ls.length) : ls.getD j [] ∈ ls := by
  rw [List.getD_eq_getElem?_getD, List.getElem?_eq_getElem h]
  exact List.getElem_mem _
theorem LC.nil (w : World) : LC w none 0 [] := ⟨Nat.le_refl _, fun _ => rfl, fun _ h => by cases h⟩
theorem run_neB {P : Program} {o : Oper} {A : Act} (t : TypeId) (x y : Operand) (t2 : TypeId) (ho : o.op = .binOp .neq t x y t2) (a b : Bool) (hx : A.eval x = .bool a) (hy : A.eval y = .bool b) (hu : P.underlying t = some .bool) (p : Bool) (hp : decide (a = b) = !p) (w : World) : (execOp A.eval o).run P w = .ok (.value (.bool p)) w := by
  refine jF .neq t x y t2 ho _ _ _ hx hy (by simp [eqGuard, go_sem]) ?_
  have h := run_equalIn_bool w (Op.maxDepth - 1) t a b hu
  have e : (a == b) = !p := by rw [← hp]; cases a <;> cases b <;> rfl
  rw [e] at h
  simp only [binOp]
  simp [go_sem]
  rw [show (Op.equal t (.bool a) (.bool b)).run P w = .ok (!p) w from h]
  cases p <;> rfl
end Go.Proofs.YtgfnjekpafempaaGreat
