/- Laws that hold in any program, and rows of bytes and of rows. -/
import Derived.Test.YtlfanecaglbomaaCD1
import Derived.Lib.SlBytesConst
namespace Go.Proofs.Ytlfanecaglbomaa
open Go.RowKit
section
variable {P : Program} {o : Oper} {A : Act}
theorem uS (t : TypeId) (x y : Operand) (t2 : TypeId) (ho : o.op = .binOp .geq t x y t2) (a b : Int) (hx : A.eval x = iK a) (hy : A.eval y = iK b) (p : Bool) (hp : decide (b ≤ a) = p) (w : World) : (execOp A.eval o).run P w = .ok (.value (.bool p)) w := by
  subst hp
  refine jN .geq t x y t2 ho _ _ _ hx hy (by simp [eqGuard]) ?_
  simp [go_sem]
theorem vC (t : TypeId) (x y : Operand) (t2 : TypeId) (ho : o.op = .binOp .leq t x y t2) (a b : Int) (hx : A.eval x = iK a) (hy : A.eval y = iK b) (p : Bool) (hp : decide (a ≤ b) = p) (w : World) : (execOp A.eval o).run P w = .ok (.value (.bool p)) w := by
  subst hp
  refine jN .leq t x y t2 ho _ _ _ hx hy (by simp [eqGuard]) ?_
  simp [go_sem]
theorem jQ (t : TypeId) (x y : Operand) (t2 : TypeId) (ho : o.op = .binOp .lss t x y t2) (a b : Int) (hx : A.eval x = iK a) (hy : A.eval y = iK b) (p : Bool) (hp : decide (a < b) = p) (w : World) : (execOp A.eval o).run P w = .ok (.value (.bool p)) w := by
  subst hp
  refine jN .lss t x y t2 ho _ _ _ hx hy (by simp [eqGuard]) ?_
  simp [go_sem]
theorem jS (t : TypeId) (x y : Operand) (t2 : TypeId) (ho : o.op = .binOp .gtr t x y t2) (a b : Int) (hx : A.eval x = iK a) (hy : A.eval y = iK b) (p : Bool) (hp : decide (b < a) = p) (w : World) : (execOp A.eval o).run P w = .ok (.value (.bool p)) w := by
  subst hp
  refine jN .gtr t x y t2 ho _ _ _ hx hy (by simp [eqGuard]) ?_
  simp [go_sem]
theorem run_eqB (t : TypeId) (x y : Operand) (t2 : TypeId) (ho : o.op = .binOp .eql t x y t2) (a b : Bool) (hx : A.eval x = .bool a) (hy : A.eval y = .bool b) (hu : P.underlying t = some .bool) (p : Bool) (hp : decide (a = b) = p) (w : World) : (execOp A.eval o).run P w = .ok (.value (.bool p)) w := by
  subst hp
  refine jN .eql t x y t2 ho _ _ _ hx hy (by simp [eqGuard, go_sem]) ?_
  have h := run_equalIn_bool w (Op.maxDepth - 1) t a b hu
  simp only [binOp]
  simp [go_sem]
  exact h ▸ by cases a <;> cases b <;> rfl
end
theorem ZV {P : Program} {ops : Array Oper} {rest : List Oper} {o : Oper} {T : List Value} {ds : List Deferred} {w : World} {Q : Exit → Act → World → Prop} (dst : Nat) (hd : o.dst = some dst) (hw : Region.wanted o (yielded ops T.toArray) = true) (c : Call) (f : FuncId) (hen : ∀ args w, (callFunc f args).run P w = .ok (.enter f args) w) (ho : o.op = .call c) (hc : c.callee = .value (.func f)) (xs : List Operand) (hxs : c.args = xs.toArray) (vs : List Value) (hvs : xs.map (Act.eval ⟨T.toArray, ds⟩) = vs)
    {v : Value} {R : World → Prop} (H : Calls P f vs.toArray w fun e w' => e = .returned v ∧ R w')
    (h : ∀ w', R w' → wpList P ops Q rest ⟨(T.set dst v).toArray, ds⟩ w') : wpList P ops Q (o :: rest) ⟨T.toArray, ds⟩ w :=
  wpList_step fun K hK => by
    rw [if_pos hw]
    unfold Oper.wp
    rw [yp c f hen ho hc, hxs, List.map_toArray, hvs, Oper.upon_enter]
    refine H.mono fun e w' hR => ?_
    obtain ⟨rfl, hR⟩ := hR
    have := h w' hR
    rw [← zd, ← hd] at this
    exact hK _ _ this
def yv (T : Array Value) (d : Nat) : Option Bool :=
  match T[d]? with
  | some (.bool b) => some b
  | _ => none
theorem Jt {l : List Oper} {j d : Nat} (h : (l[j]?).bind (·.dst) = some d) (T : Array Value) : yielded l.toArray T j = yv T d := by
  unfold yielded yv
  have : ((l.toArray[j]?).bind (·.dst)) = some d := by simpa using h
  rw [this]
  rfl
theorem jt {P : Program} {id : Nat} {l : List Oper} {Q : Exit → Act → World → Prop} {a : Act} {w : World} (h : ∀ OPS : Array Oper, (∀ j d, (l[j]?).bind (·.dst) = some d → ∀ T, yielded OPS T j = yv T d) → wpList P OPS Q l a w) : (Code.region id l.toArray false).wp P Q a w :=
  wp_region_lit (h l.toArray fun _ _ hd T => Jt hd T)
section
variable {P : Program} {ops : Array Oper} {rest : List Oper} {o : Oper} {T : List Value} {ds : List Deferred} {w : World} {Q : Exit → Act → World → Prop}
theorem yw {gi d : Nat} {b r : Bool} (hg : o.guard = some (gi, b)) (y : ∀ T, yielded ops T gi = yv T d) (hv : (yv T.toArray d == some b) = r) : Region.wanted o (yielded ops T.toArray) = r := by
  unfold Region.wanted
  rw [hg]
  show (yielded ops T.toArray gi == some b) = r
  rw [y]
  exact hv
theorem jv {gi d : Nat} {b : Bool} (dst : Nat) (hd : o.dst = some dst) (hg : o.guard = some (gi, b)) (y : ∀ T, yielded ops T gi = yv T d) (hv : (yv T.toArray d == some b) = false)
    (h : wpList P ops Q rest ⟨(T.set dst undef).toArray, ds⟩ w) : wpList P ops Q (o :: rest) ⟨T.toArray, ds⟩ w := zf dst hd (yw hg y hv) h
theorem ji {gi d : Nat} {b : Bool} (dst : Nat) (hd : o.dst = some dst) (hg : o.guard = some (gi, b)) (y : ∀ T, yielded ops T gi = yv T d) (hv : (yv T.toArray d == some b) = true) (v : Value) (he : (execOp (Act.eval ⟨T.toArray, ds⟩) o).run P w = .ok (.value v) w)
    (h : wpList P ops Q rest ⟨(T.set dst v).toArray, ds⟩ w) : wpList P ops Q (o :: rest) ⟨T.toArray, ds⟩ w := jI dst hd (yw hg y hv) v he h
theorem zW {gi d : Nat} {b : Bool} (dst : Nat) (hd : o.dst = some dst) (hg : o.guard = some (gi, b)) (y : ∀ T, yielded ops T gi = yv T d) (hv : (yv T.toArray d == some b) = true) (c : Call) (f : FuncId) (hen : ∀ args w, (callFunc f args).run P w = .ok (.enter f args) w) (ho : o.op = .call c) (hc : c.callee = .value (.func f)) (xs : List Operand) (hxs : c.args = xs.toArray) (vs : List Value) (hvs : xs.map (Act.eval ⟨T.toArray, ds⟩) = vs)
    {v : Value} {R : World → Prop} (H : Calls P f vs.toArray w fun e w' => e = .returned v ∧ R w')
    (h : ∀ w', R w' → wpList P ops Q rest ⟨(T.set dst v).toArray, ds⟩ w') : wpList P ops Q (o :: rest) ⟨T.toArray, ds⟩ w := ZV dst hd (yw hg y hv) c f hen ho hc xs hxs vs hvs H h
end
theorem jl {S : List Nat} {w cur : World} {g : Nat} (h : GroS S w cur) (e : cur.heap.size = g) : w.heap.size ≤ g := e ▸ h.size
theorem jM {P : Program} {o : Oper} {A : Act} {t e : TypeId} (hu : P.underlying t = some (.slice e)) (x : Operand) (ho : o.op = .call { callee := .builtin .len, args := #[x], argTypes := #[t] }) (ao : Option Addr) (n cap : Nat) (hx : A.eval x = .slice ao n cap) (w : World) : (execOp A.eval o).run P w = .ok (.value (iK (n : Int))) w := by
  have hr := run_underlying hu w
  unfold execOp
  simp [ho, resolve, invoke, builtin, hx, Builtin.len_, hr, goInt]
section
variable {P : Program} {o : Oper} {A : Act}
theorem zg (t : TypeId) (x y : Operand) (t2 : TypeId) (ho : o.op = .binOp .eql t x y t2) (a : Addr) (hx : A.eval x = .pointer (some a)) (hy : A.eval y = .pointer none) {e : TypeId} (hu : P.underlying t = some (.pointer e)) (w : World) : (execOp A.eval o).run P w = .ok (.value (vFa)) w := by
  refine jN .eql t x y t2 ho _ _ _ hx hy (by simp [eqGuard, go_sem]) ?_
  exact run_eql_pointer_nil w t (some a) (by simp [Program.pointee, hu])
end
theorem bT : NumT Try.prog 36 5 .u8 1 := ⟨Try.underlying36, Try.underlying5, by
  have h : (Try.prog.info? 5).map (fun i => (i.zero, i.size, i.bytes)) = some (some (.int .u8 0), 1, 1) := by kernel_rfl
  cases hi : Try.prog.info? 5 with
  | none => rw [hi] at h; cases h
  | some i =>
    rw [hi] at h
    simp only [Option.map_some, Option.some.injEq, Prod.mk.injEq] at h
    exact ⟨i, rfl, h.1, h.2.1, h.2.2⟩⟩
theorem yA {P : Program} {e : TypeId} {z : Option Value} {n b : Nat} (h : (P.info? e).map (fun i => (i.zero, i.size, i.bytes)) = some (z, n, b)) : ∃ i, P.info? e = some i ∧ i.zero = z ∧ i.size = n ∧ i.bytes = b := by
  cases hi : P.info? e with
  | none => rw [hi] at h; cases h
  | some i =>
    rw [hi] at h
    simp only [Option.map_some, Option.some.injEq, Prod.mk.injEq] at h
    exact ⟨i, rfl, h.1, h.2.1, h.2.2⟩
section
variable {P : Program} {o : Oper} {A : Act}
theorem jo (t : TypeId) (k : IntKind) (x y : Operand) (t2 : TypeId) (ho : o.op = .binOp .eql t x y t2) (hu : P.underlying t = some (.int k)) (a b : Int) (hx : A.eval x = .int k a) (hy : A.eval y = .int k b) (p : Bool) (hp : decide (a = b) = p) (w : World) : (execOp A.eval o).run P w = .ok (.value (.bool p)) w := by
  subst hp
  refine jN .eql t x y t2 ho _ _ _ hx hy (by simp [eqGuard, go_sem]) ?_
  have h := run_equalIn_int w Op.maxDepth t k k a b hu
  simp only [binOp]
  simp [go_sem]
  rfl
theorem jP (t : TypeId) (k : IntKind) (x y : Operand) (t2 : TypeId) (ho : o.op = .binOp .neq t x y t2) (_hu : P.underlying t = some (.int k)) (a b : Int) (hx : A.eval x = .int k a) (hy : A.eval y = .int k b) (p : Bool) (hp : decide (a = b) = !p) (w : World) : (execOp A.eval o).run P w = .ok (.value (.bool p)) w := by
  refine jN .neq t x y t2 ho _ _ _ hx hy (by simp [eqGuard, go_sem]) ?_
  simp only [binOp]
  have e : (a == b) = !p := by rw [← hp]; rfl
  simp [go_sem]
  rw [bne, e]
  simp
end
theorem jr (u v : Value) : (PostE.val u).fill v = u := rfl
theorem vf {p : Nat → Prop} (h : ∃ n, p n) : ∃ n, p n ∧ ∀ m, m < n → ¬ p m := by
  obtain ⟨n, hn⟩ := h
  induction n using Nat.strongRecOn with
  | _ n ih =>
    by_cases hx : ∃ m, m < n ∧ p m
    · obtain ⟨m, hm, hp⟩ := hx
      exact ih m hm hp
    · exact ⟨n, hn, fun m hm hp => hx ⟨m, hm, hp⟩⟩
theorem zB {P : Program} {c : Code} {Q : Exit → Act → World → Prop} (J : Nat → Act → World → Prop) (round : ∀ n a w, J n a w → c.wp P (Exit.then (fun a' w' => ∃ m, m < n ∧ J m a' w') Q) a w) (n : Nat) {a : Act} {w : World} (h : J n a w) : (Code.loop c).wp P Q a w := by
  classical
  refine wp_loop (fun a w => ∃ n, J n a w) (fun a w => if h : ∃ n, J n a w then Classical.choose (vf h) else 0) ⟨n, h⟩ fun a w hI => ?_
  have hc := Classical.choose_spec (vf hI)
  have hm : (if h : ∃ n, J n a w then Classical.choose (vf h) else 0) = Classical.choose (vf hI) := dif_pos hI
  rw [hm]
  refine Code.wp_mono (fun e a' w' hq => ?_) (round _ a w hc.1)
  cases e with
  | normal =>
    obtain ⟨m, hlt, hJ⟩ := hq
    have hI' : ∃ n, J n a' w' := ⟨m, hJ⟩
    refine ⟨hI', ?_⟩
    have hc' := Classical.choose_spec (vf hI')
    rw [dif_pos hI']
    have : ¬ m < Classical.choose (vf hI') := fun hx => hc'.2 m hx hJ
    omega
  | exit _ => exact hq
  | goto _ => exact hq
  | ret => exact hq
  | panic _ => exact hq
  | outgrown => exact hq
theorem wr_all {L l : List Nat} (h : l.length = L.length) : wr L 0 l = l := by
  simp [wr, h]
theorem yP {P : Program} {o : Oper} {A : Act} {w : World} (t : TypeId) (n : Nat) (l : List (Nat × Operand)) (ho : o.op = .buildSlice t n l.toArray) (vals : List (Nat × Value)) (hv : (l.map fun p => (p.1, A.eval p.2)) = vals) {v : Value} {w' : World} (h : (Instr.buildSlice t n vals.toArray).run P w = .ok v w') :
    (execOp A.eval o).run P w = .ok (.value v) w' := by
  unfold execOp
  simp only [ho]
  have : (l.toArray.map fun (i, x) => (i, A.eval x)) = vals.toArray := by rw [← hv]; simp
  rw [this]
  simp [h]
section
variable {P : Program} {ops : Array Oper} {rest : List Oper} {o : Oper} {T : List Value} {ds : List Deferred} {w : World} {Q : Exit → Act → World → Prop}
theorem zk (dst : Nat) (hd : o.dst = some dst) (hgd : o.guard = none) (t : TypeId) (n : Nat) (l : List (Nat × Operand)) (ho : o.op = .buildSlice t n l.toArray) (vals : List (Nat × Value)) (hv : (l.map fun p => (p.1, (⟨T.toArray, ds⟩ : Act).eval p.2)) = vals) (cs : Array Value) (e : TypeId)
    (hr : (Instr.buildSlice t n vals.toArray).run P w = .ok (.slice (some ⟨w.heap.size, 0, none⟩) n n) (w.alloc (.cells cs e)))
    (h : ∀ w' g, Gro w w' → w.heap.size = g → w'.heap[g]? = some (.cells cs e (0, 0)) → wpList P ops Q rest ⟨(T.set dst (.slice (some ⟨g, 0, none⟩) n n)).toArray, ds⟩ w') : wpList P ops Q (o :: rest) ⟨T.toArray, ds⟩ w :=
  wpList_plain hgd fun _ hK => by
    have he := yP (A := ⟨T.toArray, ds⟩) t n l ho vals hv hr
    unfold Oper.wp
    rw [he, Oper.upon_value, hd, zd]
    exact hK _ _ (h _ _ (zm _ _) rfl (heap_alloc_new _ _))
end
theorem bat {o : Oper} {A : Act} (x y : Operand) (ho : o.op = .indexAddr 36 x y) (g n cap j : Nat) (hx : A.eval x = .slice (some ⟨g, 0, none⟩) n cap) (hy : A.eval y = iK (j : Int)) (hj : j < n) (w : World) :
    (execOp A.eval o).run Try.prog w = .ok (.value (pK g j)) w := by
  rw [run_idx bT x y ho ⟨g, 0, none⟩ n cap j hx hy hj w, zO, Nat.zero_add]
theorem one1 (y : Int) : (#[Value.int .u8 y]).all (·.oneCell') = true := by
  rw [Array.all_eq_true_iff_forall_mem]
  intro x hx
  simp at hx
  subst hx
  rfl
theorem Ys {w : World} {g : Nat} {L : List Nat} {t : TypeId} (hg : w.heap[g]? = some (.cells (bv L) t (0, 0))) (hL : ∀ x ∈ L, x < 256) : NC w .u8 (some ⟨g, 0, none⟩) L.length L := by
  have h := nc_blk (off := 0) (n := L.length) (cap := L.length) hg (by omega) (Nat.le_refl _) hL
  rwa [List.drop_zero, List.take_length] at h
section
variable {P : Program} {ops : Array Oper} {rest : List Oper} {o : Oper} {T : List Value} {ds : List Deferred} {w : World} {Q : Exit → Act → World → Prop}
theorem yx {gi d : Nat} {b : Bool} (dst : Nat) (hd : o.dst = some dst) (hg : o.guard = some (gi, b)) (y : ∀ T, yielded ops T gi = yv T d) (hv : (yv T.toArray d == some b) = true) (c : Call) (f : FuncId) (hen : ∀ args w, (callFunc f args).run P w = .ok (.enter f args) w) (ho : o.op = .call c) (hc : c.callee = .value (.func f)) (xs : List Operand) (hxs : c.args = xs.toArray) (vs : List Value) (hvs : xs.map (Act.eval ⟨T.toArray, ds⟩) = vs)
    {R : Ending → World → Prop} (H : Calls P f vs.toArray w R) (hR : ∀ e w', R e w' → ∃ v, e = .returned v)
    (h : ∀ v w', R (.returned v) w' → wpList P ops Q rest ⟨(T.set dst v).toArray, ds⟩ w') : wpList P ops Q (o :: rest) ⟨T.toArray, ds⟩ w :=
  wpList_step fun K hK => by
    rw [if_pos (yw hg y hv)]
    unfold Oper.wp
    rw [yp c f hen ho hc, hxs, List.map_toArray, hvs, Oper.upon_enter]
    refine H.mono fun e w' hr => ?_
    obtain ⟨v, rfl⟩ := hR _ _ hr
    have := h v w' hr
    rw [← zd, ← hd] at this
    exact hK _ _ this
end
def inc8 (x : Nat) : Nat := (x + 1) % 256
theorem inc8_le (x : Nat) : ((inc8 x : Nat) : Int) ≤ IntKind.u8.max := by
  rw [vg]
  have : inc8 x < 256 := Nat.mod_lt _ (by decide)
  omega
theorem ZZ {P : Program} {o : Oper} {A : Act} (x y : Operand) (t2 : TypeId) (ho : o.op = .binOp .add 5 x y t2) (n : Nat) (hx : A.eval x = .int .u8 (n : Int)) (hy : A.eval y = .int .u8 1) (w : World) : (execOp A.eval o).run P w = .ok (.value (.int .u8 ((inc8 n : Nat) : Int))) w := by
  refine jN .add 5 x y t2 ho _ _ _ hx hy (by simp [eqGuard]) ?_
  have h : IntKind.u8.wrap ((n : Int) + 1) = ((inc8 n : Nat) : Int) := by
    simp [IntKind.wrap, IntKind.bits, IntKind.signed, inc8]
  simp [go_sem, h]
section
variable {w w' : World} {e : TypeId} {k : IntKind} {B : Nat} {ao : Option Addr} {cap : Nat} {l : List Nat}
theorem OB.blk (h : OB w e k B ao cap l) {j : Nat} (hj : j < l.length) : ∃ g cur, ao = some ⟨g, 0, none⟩ ∧ B ≤ g ∧ w.heap[g]? = some (.cells cur e (0, 0)) ∧ l.length ≤ cap ∧ cap ≤ maxLen ∧ cur.size = cap ∧ cur.toList.take l.length = l.map fun r : Nat => Value.int k (r : Int) := by
  rcases h.own.2 with ⟨h1, h2⟩ | ⟨g, c, cur, h1, hB, h2, h3, h4, h5, h6⟩
  · omega
  · injection h1 with e1 e2 e3
    subst e1 e3
    exact ⟨g, cur, rfl, hB, h2, h3, h4, by omega, by rwa [Nat.mul_one] at h6⟩
theorem OB.cellv (h : OB w e k B ao cap l) {g j : Nat} (hg : ao = some ⟨g, 0, none⟩) (hj : j < l.length) : w.cell? ⟨g, j, none⟩ = some (.int k (l.getD j 0 : Int)) := by
  have := h.nc.cell _ hg j hj
  rwa [zO, Nat.zero_add] at this
theorem OB.put (h : OB w e k B ao cap l) {g j : Nat} {cur : Array Value} (hg : ao = some ⟨g, 0, none⟩) (hc : w.heap[g]? = some (.cells cur e (0, 0))) (hj : j < l.length) (y : Nat) (hy : (y : Int) ≤ k.max) (St : Stored w w' g (.cells (splice cur j #[.int k (y : Int)]) e (0, 0))) : OB w' e k B ao cap (l.set j y) := by
  subst hg
  obtain ⟨g2, cur2, h1, hB, h2, h3, h4, h5, h6⟩ := h.blk hj
  cases h1
  rw [hc] at h2
  cases h2
  refine OB.made St.new hB (by rw [List.length_set]; exact h3) h4 ?_ ?_ (fun x hx => ?_)
  · rw [vx _ _ _ (by omega)]
    simpa using h5
  · rw [vx _ _ _ (by omega), List.length_set, Array.toList_setIfInBounds, List.take_set, h6, List.map_set]
  · rcases List.mem_or_eq_of_mem_set hx with hx | hx
    · exact h.wf x hx
    · exact hx ▸ hy
end
theorem ob_all {w : World} {g B : Nat} {L : List Nat} (hg : w.heap[g]? = some (.cells (bv L) 5 (0, 0))) (hB : B ≤ g) (hL : ∀ x ∈ L, x < 256) (hm : L.length ≤ maxLen) : OB w 5 .u8 B (some ⟨g, 0, none⟩) L.length L :=
  OB.made hg hB (Nat.le_refl _) hm (bv_size L) (by rw [bv, List.take_of_length_le (by simp)]) (fun x hx => by have := hL x hx; rw [vg]; omega)
theorem OB.gros {S : List Nat} {w w' : World} {e : TypeId} {k : IntKind} {B : Nat} {ao : Option Addr} {cap : Nat} {l : List Nat} (h : OB w e k B ao cap l) (G : GroS S w w') (hs : ∀ ad, ao = some ad → ad.block ∉ S) : OB w' e k B ao cap l := by
  refine ⟨⟨h.own.1, ?_⟩, h.wf⟩
  rcases h.own.2 with h1 | ⟨g, c, cur, h1, h2, h3, h4⟩
  · exact .inl h1
  · refine .inr ⟨g, c, cur, h1, h2, G.has h3 ?_, h4⟩
    injection h1 with e1 e2 e3
    exact hs _ e1
theorem blk_xn {w : World} {Q : Exit → Act → World → Prop} {i j : Nat} {a : Act} (hne : j ≠ i) (h : Q (.exit j) a w) : Exit.inBlock i Q (.exit j) a w := by
  simpa [Exit.inBlock, hne] using h
theorem vz {P : Program} {o : Oper} {A : Act} (x y : Operand) (t2 : TypeId) (ho : o.op = .binOp .neq 9 x y t2) (a b : ByteArray) (hx : A.eval x = .string a) (hy : A.eval y = .string b) (p : Bool) (hp : decide (a = b) = !p) (w : World) : (execOp A.eval o).run P w = .ok (.value (.bool p)) w :=
  jN .neq 9 x y t2 ho _ _ _ hx hy (by simp [eqGuard, go_sem]) (by
    have := ZS a b
    rw [hp] at this
    simp [go_sem, this])
theorem na4 (w : World) : (isAgg 4).run Try.prog w = .ok false w := by kernel_rfl
section
variable {P : Program} {ops : Array Oper} {rest : List Oper} {o : Oper} {T : List Value} {ds : List Deferred} {w : World} {Q : Exit → Act → World → Prop}
def blk (ao : Option Addr) : List Nat := (ao.map (·.block)).toList
theorem mem_blk {ao : Option Addr} {k : Nat} : k ∈ blk ao ↔ ∃ ad, ao = some ad ∧ ad.block = k := by
  cases ao <;> simp [blk, eq_comm]
end
theorem OX.ne {w : World} {e : TypeId} {sz B : Nat} {ao : Option Addr} {cap n : Nat} {cs : List Value} (h : OX w e sz B ao cap n cs) {k : Nat} {c : Array Value} {t : TypeId} (hk : w.heap[k]? = some (.cells c t (0, 0))) (ht : t ≠ e) : k ∉ blk ao := fun hm => by
  obtain ⟨ad, rfl, rfl⟩ := mem_blk.1 hm
  rcases h.own.2 with ⟨h1, _⟩ | ⟨g, c', cur, h1, _, h2, _⟩
  · cases h1
  · injection h1 with e1 e2 e3
    injection e1 with e1
    subst e1
    rw [h2] at hk
    injection hk with hk
    injection hk with hk1 hk2
    exact ht hk2.symm
theorem OX.gros {S : List Nat} {w w' : World} {e : TypeId} {sz B : Nat} {ao : Option Addr} {cap n : Nat} {cs : List Value} (h : OX w e sz B ao cap n cs) (G : GroS S w w') (hs : ∀ ad, ao = some ad → ad.block ∉ S) : OX w' e sz B ao cap n cs := by
  refine ⟨⟨h.own.1, ?_⟩, h.one⟩
  rcases h.own.2 with h1 | ⟨g, c, cur, h1, h2, h3, h4⟩
  · exact .inl h1
  · refine .inr ⟨g, c, cur, h1, h2, G.has h3 ?_, h4⟩
    injection h1 with e1 e2 e3
    exact hs _ e1
theorem OX.base {w : World} {e : TypeId} {sz B : Nat} {ao : Option Addr} {cap n : Nat} {cs : List Value} (h : OX w e sz B ao cap n cs) : ∀ x ∈ blk ao, B ≤ x := fun x hx => by
  obtain ⟨ad, rfl, rfl⟩ := mem_blk.1 hx
  exact (h.ge ad rfl).1
theorem xc_one {w : World} {g : Nat} {v : Value} {t : TypeId} (hg : w.heap[g]? = some (.cells #[v] t (0, 0))) (h1 : v.oneCell' = true) : XC w 1 (some ⟨g, 0, none⟩) 1 1 [v] := by
  refine ⟨rfl, Nat.le_refl _, fun h => by (cases h), fun ad ha j u hu => ?_, fun u hu => by (simp at hu; rw [hu]; exact h1)⟩
  cases ha
  rw [zO, cell_of_row w g _ _ t _ hg]
  match j with
  | 0 => simpa using hu
  | j + 1 => simp at hu
section
variable {P : Program} {o : Oper} {A : Act}
theorem vA (t : TypeId) (x y : Operand) (t2 : TypeId) (ho : o.op = .binOp .neq t x y t2) (a : Addr) (hx : A.eval x = .pointer (some a)) (hy : A.eval y = .pointer none) {e : TypeId} (hu : P.underlying t = some (.pointer e)) (w : World) : (execOp A.eval o).run P w = .ok (.value (vTr)) w := by
  refine jN .neq t x y t2 ho _ _ _ hx hy (by simp [eqGuard, go_sem]) ?_
  exact run_neq_pointer_nil w t (some a) (by simp [Program.pointee, hu])
end
structure LC (w : World) (ao : Option Addr) (cap : Nat) (ls : List (List Nat)) : Prop where
  fit : ls.length ≤ cap
  bare : ao = none → cap = 0
  cell : ∀ ad, ao = some ad → ∀ j, j < ls.length → ∃ ao' cap', w.cell? (ad.add j) = some (.slice ao' (ls.getD j []).length cap') ∧ NC w .u8 ao' cap' (ls.getD j [])
theorem LC.at {w : World} {ao : Option Addr} {cap : Nat} {ls : List (List Nat)} (h : LC w ao cap ls) {j : Nat} (hj : j < ls.length) : ∃ ad ao' cap', ao = some ad ∧ w.cell? (ad.add j) = some (.slice ao' (ls.getD j []).length cap') ∧ NC w .u8 ao' cap' (ls.getD j []) := by
  cases hao : ao with
  | none => have := h.bare hao; have := h.fit; omega
  | some ad => obtain ⟨ao', cap', h1, h2⟩ := h.cell ad hao j hj; exact ⟨ad, ao', cap', rfl, h1, h2⟩
theorem LC.gro {w w' : World} {ao : Option Addr} {cap : Nat} {ls : List (List Nat)} (h : LC w ao cap ls) (G : Gro w w') : LC w' ao cap ls :=
  ⟨h.fit, h.bare, fun ad ha j hj => by
    obtain ⟨ao', cap', h1, h2⟩ := h.cell ad ha j hj
    exact ⟨ao', cap', (World.cell?_of_block (G.block _ (World.block_lt_of_cell? w _ h1))).trans h1, h2.gro G⟩⟩
theorem zX {o : Oper} {A : Act} (x y : Operand) (ho : o.op = .indexAddr 30 x y) (ad : Addr) (n cap j : Nat) (hx : A.eval x = .slice (some ad) n cap) (hy : A.eval y = iK (j : Int)) (hj : j < n) (w : World) :
    (execOp A.eval o).run Try.prog w = .ok (.value (.pointer (some (ad.add j)))) w := by
  have h : (Instr.indexAt 30 (.slice (some ad) n cap) (iK (j : Int))).run Try.prog w = .ok (.pointer (some (ad.add j))) w := by
    simp only [Instr.indexAt, Sem.run_bind, run_underlying Try.underlying30, Result.andThen_ok]
    simp [asIntOf, hj]
  unfold execOp
  simp only [ho, hx, hy, Sem.run_bind, h, Result.andThen_ok, Sem.run_pure]
theorem yn {o : Oper} {A : Act} (x : Operand) (ho : o.op = .load 36 x) (p : Addr) (hx : A.eval x = .pointer (some p)) (w : World) (v : Value) (hc : w.cell? p = some v) :
    (execOp A.eval o).run Try.prog w = .ok (.value v) w := by
  unfold execOp
  simp only [ho, hx]
  simp [go_sem, hc]
def neB (a b : List Nat) : Bool := decide (bas a ≠ bas b)
theorem dec_nn (a b : Nat) : decide ((a : Int) = (b : Int)) = !decide (a ≠ b) := by
  by_cases h : a = b
  · subst h; simp
  · rw [decide_eq_true h, decide_eq_false (by omega)]; rfl
theorem dec_nb (a b : List Nat) : decide (bas a = bas b) = !neB a b := by
  unfold neB
  by_cases h : bas a = bas b <;> simp [h]
theorem vI {w w' : World} (G : Gro w w') {a : Addr} {v : Value} (h : w.cell? a = some v) : w'.cell? a = some v := (World.cell?_of_block (G.block _ (World.block_lt_of_cell? w _ h))).trans h
theorem YM {l m : List (List Nat)} (h : l.length = m.length) (hx : ∀ x, x < l.length → l.getD x [] = m.getD x []) : l = m := by
  apply List.ext_getElem h
  intro i h1 h2
  have := hx i h1
  rw [List.getD_eq_getElem?_getD, List.getD_eq_getElem?_getD, List.getElem?_eq_getElem h1, List.getElem?_eq_getElem h2] at this
  exact this
set_option maxRecDepth 100000 in
set_option maxHeartbeats 4000000 in
theorem uP (w : World) (ao : Option Addr) (cap : Nat) (ls : List (List Nat)) (HA : LC w ao cap ls) (ao2 : Option Addr) (cap2 : Nat) (ms : List (List Nat)) (HB : LC w ao2 cap2 ms) (hl : ls.length < 9223372036854775807) : Calls Try.prog 29 #[.slice ao ls.length cap, .slice ao2 ms.length cap2] w fun e w' => e = .returned (.bool (decide (ls = ms))) ∧ Gro w w' := by
  refine jp Try.func29 rfl Try.ntmps29 [.slice ao ls.length cap, .slice ao2 ms.length cap2] ?_
  intro U h; simp only [List.length_cons, List.length_nil, List.cons_append, List.nil_append, Nat.reduceAdd, Nat.reduceSub, List.reduceReplicate] at h; subst h
  have GG := Gro.refl w
  refine wp_seq (wp_region_lit (mv 4 (vFa) (wpList_nil (jc (wp_seq (wp_seq (wp_region_lit (mv 6 (.slice ao ls.length cap) (sv 7 (iK ((ls.length : Nat) : Int)) (jM Try.underlying30 _ rfl _ _ _ rfl _) (mv 8 (.slice ao2 ms.length cap2) (sv 9 (iK ((ms.length : Nat) : Int)) (jM Try.underlying30 _ rfl _ _ _ rfl _) ?_)))))))))))
  refine nr ?_; intro U h; simp only [z0, z1] at h; subst h
  obtain ⟨p1, hp1⟩ : ∃ p, decide (ls.length ≠ ms.length) = p := ⟨_, rfl⟩
  refine sv 10 (.bool p1) (jP 3 .i64 _ _ _ rfl Try.underlying3 ((ls.length : Nat) : Int) ((ms.length : Nat) : Int) rfl rfl p1 (by rw [← hp1]; exact dec_nn _ _) _) ?_
  refine nr ?_; intro U h; simp only [z0, z1] at h; subst h
  cases p1
  have hlen : ls.length = ms.length := Decidable.of_not_not (of_decide_eq_false hp1)
  refine wpList_nil (jc (wp_cond_false rfl (wp_skip (jc (wp_seq (wp_seq (wp_region_lit (mv 5 (iK 0) (wpList_nil (jc (wp_block ?_)))))))))))
  refine zB (fun mz az wv => ∃ (j : Nat) (us1 : Nat → Value), mz = ls.length - j ∧ az = ⟨[.slice ao ls.length cap, .slice ao2 ms.length cap2, undef, undef, us1 0, iK ((j : Nat) : Int), .slice ao ls.length cap, iK ((ls.length : Nat) : Int), .slice ao2 ms.length cap2, iK ((ms.length : Nat) : Int), vFa, us1 1, us1 2, us1 3, us1 4, us1 5, us1 6, us1 7, us1 8, us1 9, us1 10, us1 11, us1 12, us1 13, us1 14, us1 15, us1 16, us1 17].toArray, []⟩ ∧ j ≤ ls.length ∧ (∀ x, x < j → ls.getD x [] = ms.getD x []) ∧ Gro w wv) ?_ _ ⟨0, usB [4, 11, 12, 13, 14, 15, 16, 17, 18, 19, 20, 21, 22, 23, 24, 25, 26, 27] rfl rfl ⟨Nat.zero_le _, (fun x hx => absurd hx (Nat.not_lt_zero _)), GG⟩⟩
  clear GG
  rintro mz az wv ⟨j, us1, rfl, rfl, hj, hs, GG⟩
  refine wp_seq (wp_seq (wp_region_lit (mv 11 (iK ((j : Nat) : Int)) (mv 12 (.slice ao ls.length cap) (sv 13 (iK ((ls.length : Nat) : Int)) (jM Try.underlying30 _ rfl _ _ _ rfl _) ?_)))))
  refine nr ?_; intro U h; simp only [z0, z1] at h; subst h
  obtain ⟨p2, hp2⟩ : ∃ p, decide (((j : Nat) : Int) < ((ls.length : Nat) : Int)) = p := ⟨_, rfl⟩
  refine sv 14 (.bool p2) (jQ 3 _ _ _ rfl ((j : Nat) : Int) ((ls.length : Nat) : Int) rfl rfl p2 hp2 _) ?_
  refine nr ?_; intro U h; simp only [z0, z1] at h; subst h
  cases p2
  have hjn : j = ls.length := by have := of_decide_eq_false hp2; omega
  have hD : decide (ls = ms) = true := decide_eq_true (YM hlen fun x hx => hs x (by omega))
  refine wpList_nil (jc (wp_cond_false rfl (wp_exit (zi (zi (yl (jc (wp_seq (wp_region_lit (mv 4 (vTr) (wpList_nil (jc (wp_ret ?_)))))))))))))
  refine bodyPost_ret (results_tmp Try.results29 _ _ _) rfl ?_
  rw [hD]
  exact ⟨rfl, GG⟩
  have hjn : j < ls.length := by have := of_decide_eq_true hp2; omega
  obtain ⟨ad, ao3, cap3, hao, clA, ncA⟩ := (HA.gro GG).at hjn
  obtain ⟨bd, ao4, cap4, hbo, clB, ncB⟩ := (HB.gro GG).at (j := j) (by omega)
  refine wpList_nil (jc (wp_cond_true rfl (wp_skip (jc (wp_seq (wp_block (wp_seq ?_)))))))
  refine jk (A := ?Ax1) 10 [(0, 17), (1, 18), (2, 19), (3, 20), (4, 21), (5, 22), (6, 23), (7, 24), (8, 25), (9, 26)] [.val (.slice ao ls.length cap), .val (iK ((j : Nat) : Int)), .val (.pointer (some (ad.add j))), .val (.slice ao3 ((ls.getD j []).length) cap3), .val (.string (bas (ls.getD j []))), .val (.slice ao2 ms.length cap2), .val (iK ((j : Nat) : Int)), .val (.pointer (some (bd.add j))), .val (.slice ao4 ((ms.getD j []).length) cap4), .val (.string (bas (ms.getD j [])))] follows (by kernel_rfl) rfl ?hAx1 (ja ?o0x1 (ja ?o1x1 (ja ?o2x1 (ja ?o3x1 (ja ?o4x1 (ja ?o5x1 (ja ?o6x1 (ja ?o7x1 (ja ?o8x1 (ja ?o9x1 jw)))))))))) ?restx1
  case hAx1 =>
    intro ptrs
    simp only [full, foldSlots, filledE, postE, List.foldl_cons, List.foldl_nil, List.getD_cons_zero, List.getD_cons_succ, jr, List.set_cons_zero, List.set_cons_succ]
    exact rfl
  case o0x1 => exact fun _ _ _ _ => jg (v := .slice ao ls.length cap) _ rfl rfl rfl
  case o1x1 => exact fun _ _ _ _ => jg (v := iK ((j : Nat) : Int)) _ rfl rfl rfl
  case o2x1 => exact fun _ _ hw _ => jb (v := .pointer (some (ad.add j))) rfl (zX _ _ rfl ad ls.length cap j (by exact congrArg (fun a => Value.slice a ls.length cap) hao) rfl hjn _)
  case o3x1 => exact fun _ _ hw _ => jb (v := .slice ao3 ((ls.getD j []).length) cap3) rfl (yn _ rfl _ rfl _ _ (vI ((Gro.refl _).drew.trans hw) clA))
  case o4x1 => exact fun _ _ hw _ => jb (v := .string (bas (ls.getD j []))) rfl (zw bT 9 Try.underlying9 _ rfl rfl (ncA.gro ((Gro.refl _).drew.trans hw)))
  case o5x1 => exact fun _ _ _ _ => jg (v := .slice ao2 ms.length cap2) _ rfl rfl rfl
  case o6x1 => exact fun _ _ _ _ => jg (v := iK ((j : Nat) : Int)) _ rfl rfl rfl
  case o7x1 => exact fun _ _ hw _ => jb (v := .pointer (some (bd.add j))) rfl (zX _ _ rfl bd ms.length cap2 j (by exact congrArg (fun a => Value.slice a ms.length cap2) hbo) rfl (by omega) _)
  case o8x1 => exact fun _ _ hw _ => jb (v := .slice ao4 ((ms.getD j []).length) cap4) rfl (yn _ rfl _ rfl _ _ (vI ((Gro.refl _).drew.trans hw) clB))
  case o9x1 => exact fun _ _ hw _ => jb (v := .string (bas (ms.getD j []))) rfl (zw bT 9 Try.underlying9 _ rfl rfl (ncB.gro ((Gro.refl _).drew.trans hw)))
  intro ptrs w1 GD hxE
  simp only [List.drop_succ_cons, List.drop_zero]
  replace GG := GG.drew.trans GD
  clear GD
  obtain ⟨p3, hp3⟩ : ∃ p, neB (ls.getD j []) (ms.getD j []) = p := ⟨_, rfl⟩
  refine sv 27 (.bool p3) (vz _ _ _ rfl (bas (ls.getD j [])) (bas (ms.getD j [])) rfl rfl p3 (by rw [← hp3]; exact dec_nb _ _) _) ?_
  refine nr ?_; intro U h; simp only [z0, z1] at h; subst h
  cases p3
  have heq : ls.getD j [] = ms.getD j [] := Zn ncA.lt256 ncB.lt256 (by unfold neB at hp3; simpa using hp3)
  refine wpList_nil (jc (wp_cond_false rfl (wp_skip (zh (jc (wp_region_lit (mv 15 (iK ((j : Nat) : Int)) (sv 16 (iK ((j + 1 : Nat) : Int)) (vd _ _ _ rfl ((j : Nat) : Int) 1 _ rfl rfl (by omega) (by omega) (by omega) _) (mv 5 (iK ((j + 1 : Nat) : Int)) (wpList_nil (jc ?_)))))))))))
  exact ⟨_, (by omega : ls.length - (j + 1) < ls.length - j), j + 1, usB [4, 11, 12, 13, 14, 15, 16, 17, 18, 19, 20, 21, 22, 23, 24, 25, 26, 27] rfl rfl ⟨(by omega), (fun x hx => by by_cases hxe : x = j; (subst hxe; exact heq); exact hs x (by omega)), GG⟩⟩
  have hD : decide (ls = ms) = false := decide_eq_false fun e => by subst e; unfold neB at hp3; simp at hp3
  refine wpList_nil (jc (wp_cond_true rfl (wp_seq (wp_region_lit (mv 4 (vFa) (wpList_nil (jc (wp_ret (jV (jC (jC (jV (jC ?_)))))))))))))
  refine bodyPost_ret (results_tmp Try.results29 _ _ _) rfl ?_
  rw [hD]
  exact ⟨rfl, GG⟩
  have hlen := of_decide_eq_true hp1
  have hD : decide (ls = ms) = false := decide_eq_false fun e => hlen (congrArg List.length e)
  refine wpList_nil (jc (wp_cond_true rfl (wp_seq (wp_region_lit (mv 4 (vFa) (wpList_nil (jc (wp_ret (jC ?_)))))))))
  refine bodyPost_ret (results_tmp Try.results29 _ _ _) rfl ?_
  rw [hD]
  exact ⟨rfl, GG⟩
structure RV where
  ao : Option Addr
  cap : Nat
  l : List Nat
def RV.v (x : RV) : Value := .slice x.ao x.l.length x.cap
structure LO (w : World) (B : Nat) (ao : Option Addr) (cap : Nat) (q : List RV) : Prop where
  ox : OX w 36 1 B ao cap q.length (q.map RV.v)
  row : ∀ x ∈ q, OB w 5 .u8 B x.ao x.cap x.l
theorem LO.nil (w : World) (B : Nat) : LO w B none 0 [] := ⟨OX.nil _ _ _ _, fun _ h => by cases h⟩
theorem LO.gro {w w' : World} {B : Nat} {ao : Option Addr} {cap : Nat} {q : List RV} (h : LO w B ao cap q) (G : Gro w w') : LO w' B ao cap q := ⟨h.ox.gro G, fun x hx => (h.row x hx).gro G⟩
theorem OB.blk5 {w : World} {B : Nat} {ao : Option Addr} {cap : Nat} {l : List Nat} (h : OB w 5 .u8 B ao cap l) {ad : Addr} (ha : ao = some ad) : ∃ cur, w.heap[ad.block]? = some (.cells cur 5 (0, 0)) := by
  rcases h.own.2 with ⟨h1, _⟩ | ⟨g, c', cur, h1, _, h2, _⟩
  · injection h1 with e1 e2 e3
    rw [ha] at e1
    cases e1
  · injection h1 with e1 e2 e3
    rw [ha] at e1
    injection e1 with e1
    subst e1
    exact ⟨cur, h2⟩
theorem jJ {w : World} {a b : Nat} {c c' : Array Value} {t t' : TypeId} (h : w.heap[a]? = some (.cells c t (0, 0))) (h' : w.heap[b]? = some (.cells c' t' (0, 0))) (ht : t ≠ t') : a ≠ b := fun e => by
  subst e
  rw [h] at h'
  injection h' with h'
  injection h' with _ h2
  exact ht h2
theorem LO.app {w w' : World} {B : Nat} {ao : Option Addr} {cap : Nat} {q : List RV} (H : LO w B ao cap q) {ao2 : Option Addr} {cap2 : Nat} {x : RV} (h2 : OX w' 36 1 B ao2 cap2 (q.length + 1) (q.map RV.v ++ [x.v])) (G : GroS (blk ao) w w') (hx : OB w 5 .u8 B x.ao x.cap x.l) : LO w' B ao2 cap2 (q ++ [x]) := by
  have five : ∀ y : RV, OB w 5 .u8 B y.ao y.cap y.l → OB w' 5 .u8 B y.ao y.cap y.l := fun y hy => hy.gros G fun ad ha => by
    obtain ⟨cur, hc⟩ := hy.blk5 ha
    exact H.ox.ne hc (by decide)
  refine ⟨by simpa using h2, fun y hy => ?_⟩
  rcases List.mem_append.1 hy with hy | hy
  · exact five y (H.row y hy)
  · have : y = x := by simpa using hy
    subst this
    exact five y hx
theorem lc_of {w : World} {ao : Option Addr} {cap : Nat} {q : List RV} (hx : XC w 1 ao cap q.length (q.map RV.v)) (hr : ∀ x ∈ q, NC w .u8 x.ao x.cap x.l) : LC w ao cap (q.map (·.l)) := by
  refine ⟨by rw [List.length_map]; exact hx.fit, hx.bare, fun ad ha j hj => ?_⟩
  rw [List.length_map] at hj
  have h1 : (q.map (·.l)).getD j [] = q[j].l := by simp [List.getD_eq_getElem?_getD, hj]
  rw [h1]
  refine ⟨q[j].ao, q[j].cap, hx.cell ad ha j _ ?_, hr _ (List.getElem_mem _)⟩
  rw [List.getElem?_map, List.getElem?_eq_getElem hj]
  rfl
theorem LO.lc {w : World} {B : Nat} {ao : Option Addr} {cap : Nat} {q : List RV} (h : LO w B ao cap q) : LC w ao cap (q.map (·.l)) := lc_of h.ox.xc fun x hx => (h.row x hx).nc
theorem vY (w : World) (ao : Option Addr) (cap : Nat) (ls : List (List Nat)) (HA : LC w ao cap ls) (ao2 : Option Addr) (cap2 : Nat) (ms : List (List Nat)) (HB : LC w ao2 cap2 ms) (n m : Nat) (hn : ls.length = n) (hm : ms.length = m) (hl : n < 9223372036854775807) (he : ls = ms) : Calls Try.prog 29 #[.slice ao n cap, .slice ao2 m cap2] w fun e w' => e = .returned (vTr) ∧ Gro w w' := by
  subst hn hm
  have := uP w ao cap ls HA ao2 cap2 ms HB hl
  rwa [decide_eq_true he] at this
theorem LC.nil (w : World) : LC w none 0 [] := ⟨Nat.le_refl _, fun _ => rfl, fun _ h => by cases h⟩
theorem yc {P : Program} {o : Oper} {A : Act} (t : TypeId) (x y : Operand) (t2 : TypeId) (ho : o.op = .binOp .neq t x y t2) (a b : Bool) (hx : A.eval x = .bool a) (hy : A.eval y = .bool b) (hu : P.underlying t = some .bool) (p : Bool) (hp : decide (a = b) = !p) (w : World) : (execOp A.eval o).run P w = .ok (.value (.bool p)) w := by
  refine jN .neq t x y t2 ho _ _ _ hx hy (by simp [eqGuard, go_sem]) ?_
  have h := run_equalIn_bool w (Op.maxDepth - 1) t a b hu
  have e : (a == b) = !p := by rw [← hp]; cases a <;> cases b <;> rfl
  rw [e] at h
  simp only [binOp]
  simp [go_sem]
  rw [show (Op.equal t (.bool a) (.bool b)).run P w = .ok (!p) w from h]
  cases p <;> rfl
end Go.Proofs.Ytlfanecaglbomaa
