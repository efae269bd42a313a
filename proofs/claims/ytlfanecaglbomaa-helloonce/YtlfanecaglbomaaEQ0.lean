/- Laws that hold in any program, and rows of bytes and of rows. -/
import Derived.Test.YtlfanecaglbomaaED1
import Derived.Lib.SlBytesConst
namespace Go.Proofs.Ytlfanecaglbomaa
open Go.RowKit
section
variable {P : Program} {o : Oper} {A : Act}
theorem zv (t : TypeId) (x y : Operand) (t2 : TypeId) (ho : o.op = .binOp .geq t x y t2) (a b : Int) (hx : A.eval x = iK a) (hy : A.eval y = iK b) (p : Bool) (hp : decide (b ≤ a) = p) (w : World) : (execOp A.eval o).run P w = .ok (.value (.bool p)) w := by
  subst hp
  refine jV .geq t x y t2 ho _ _ _ hx hy (by simp [eqGuard]) ?_
  simp [go_sem]
theorem jP (t : TypeId) (x y : Operand) (t2 : TypeId) (ho : o.op = .binOp .lss t x y t2) (a b : Int) (hx : A.eval x = iK a) (hy : A.eval y = iK b) (p : Bool) (hp : decide (a < b) = p) (w : World) : (execOp A.eval o).run P w = .ok (.value (.bool p)) w := by
  subst hp
  refine jV .lss t x y t2 ho _ _ _ hx hy (by simp [eqGuard]) ?_
  simp [go_sem]
theorem jD (t : TypeId) (x y : Operand) (t2 : TypeId) (ho : o.op = .binOp .gtr t x y t2) (a b : Int) (hx : A.eval x = iK a) (hy : A.eval y = iK b) (p : Bool) (hp : decide (b < a) = p) (w : World) : (execOp A.eval o).run P w = .ok (.value (.bool p)) w := by
  subst hp
  refine jV .gtr t x y t2 ho _ _ _ hx hy (by simp [eqGuard]) ?_
  simp [go_sem]
end
theorem ZE {P : Program} {ops : Array Oper} {rest : List Oper} {o : Oper} {T : List Value} {ds : List Deferred} {w : World} {Q : Exit → Act → World → Prop} (dst : Nat) (hd : o.dst = some dst) (hw : Region.wanted o (yielded ops T.toArray) = true) (c : Call) (f : FuncId) (hen : ∀ args w, (callFunc f args).run P w = .ok (.enter f args) w) (ho : o.op = .call c) (hc : c.callee = .value (.func f)) (xs : List Operand) (hxs : c.args = xs.toArray) (vs : List Value) (hvs : xs.map (Act.eval ⟨T.toArray, ds⟩) = vs)
    {v : Value} {R : World → Prop} (H : Calls P f vs.toArray w fun e w' => e = .returned v ∧ R w')
    (h : ∀ w', R w' → wpList P ops Q rest ⟨(T.set dst v).toArray, ds⟩ w') : wpList P ops Q (o :: rest) ⟨T.toArray, ds⟩ w :=
  wpList_step fun K hK => by
    rw [if_pos hw]
    unfold Oper.wp
    rw [yu c f hen ho hc, hxs, List.map_toArray, hvs, Oper.upon_enter]
    refine H.mono fun e w' hR => ?_
    obtain ⟨rfl, hR⟩ := hR
    have := h w' hR
    rw [← zg, ← hd] at this
    exact hK _ _ this
def yv (T : Array Value) (d : Nat) : Option Bool :=
  match T[d]? with
  | some (.bool b) => some b
  | _ => none
theorem Jr {l : List Oper} {j d : Nat} (h : (l[j]?).bind (·.dst) = some d) (T : Array Value) : yielded l.toArray T j = yv T d := by
  unfold yielded yv
  have : ((l.toArray[j]?).bind (·.dst)) = some d := by simpa using h
  rw [this]
  rfl
theorem jr {P : Program} {id : Nat} {l : List Oper} {Q : Exit → Act → World → Prop} {a : Act} {w : World} (h : ∀ OPS : Array Oper, (∀ j d, (l[j]?).bind (·.dst) = some d → ∀ T, yielded OPS T j = yv T d) → wpList P OPS Q l a w) : (Code.region id l.toArray false).wp P Q a w :=
  wp_region_lit (h l.toArray fun _ _ hd T => Jr hd T)
section
variable {P : Program} {ops : Array Oper} {rest : List Oper} {o : Oper} {T : List Value} {ds : List Deferred} {w : World} {Q : Exit → Act → World → Prop}
theorem yC {gi d : Nat} {b r : Bool} (hg : o.guard = some (gi, b)) (y : ∀ T, yielded ops T gi = yv T d) (hv : (yv T.toArray d == some b) = r) : Region.wanted o (yielded ops T.toArray) = r := by
  unfold Region.wanted
  rw [hg]
  show (yielded ops T.toArray gi == some b) = r
  rw [y]
  exact hv
theorem jO {gi d : Nat} {b : Bool} (dst : Nat) (hd : o.dst = some dst) (hg : o.guard = some (gi, b)) (y : ∀ T, yielded ops T gi = yv T d) (hv : (yv T.toArray d == some b) = false)
    (h : wpList P ops Q rest ⟨(T.set dst undef).toArray, ds⟩ w) : wpList P ops Q (o :: rest) ⟨T.toArray, ds⟩ w := ZC dst hd (yC hg y hv) h
theorem jn {gi d : Nat} {b : Bool} (dst : Nat) (hd : o.dst = some dst) (hg : o.guard = some (gi, b)) (y : ∀ T, yielded ops T gi = yv T d) (hv : (yv T.toArray d == some b) = true) (v : Value) (he : (execOp (Act.eval ⟨T.toArray, ds⟩) o).run P w = .ok (.value v) w)
    (h : wpList P ops Q rest ⟨(T.set dst v).toArray, ds⟩ w) : wpList P ops Q (o :: rest) ⟨T.toArray, ds⟩ w := Jw dst hd (yC hg y hv) v he h
theorem yF {gi d : Nat} {b : Bool} (dst : Nat) (hd : o.dst = some dst) (hg : o.guard = some (gi, b)) (y : ∀ T, yielded ops T gi = yv T d) (hv : (yv T.toArray d == some b) = true) (c : Call) (f : FuncId) (hen : ∀ args w, (callFunc f args).run P w = .ok (.enter f args) w) (ho : o.op = .call c) (hc : c.callee = .value (.func f)) (xs : List Operand) (hxs : c.args = xs.toArray) (vs : List Value) (hvs : xs.map (Act.eval ⟨T.toArray, ds⟩) = vs)
    {v : Value} {R : World → Prop} (H : Calls P f vs.toArray w fun e w' => e = .returned v ∧ R w')
    (h : ∀ w', R w' → wpList P ops Q rest ⟨(T.set dst v).toArray, ds⟩ w') : wpList P ops Q (o :: rest) ⟨T.toArray, ds⟩ w := ZE dst hd (yC hg y hv) c f hen ho hc xs hxs vs hvs H h
end
theorem jz {S : List Nat} {w cur : World} {g : Nat} (h : GroS S w cur) (e : cur.heap.size = g) : w.heap.size ≤ g := e ▸ h.size
theorem jG {P : Program} {o : Oper} {A : Act} {t e : TypeId} (hu : P.underlying t = some (.slice e)) (x : Operand) (ho : o.op = .call { callee := .builtin .len, args := #[x], argTypes := #[t] }) (ao : Option Addr) (n cap : Nat) (hx : A.eval x = .slice ao n cap) (w : World) : (execOp A.eval o).run P w = .ok (.value (iK (n : Int))) w := by
  have hr := run_underlying hu w
  unfold execOp
  simp [ho, resolve, invoke, builtin, hx, Builtin.len_, hr, goInt]
section
variable {P : Program} {o : Oper} {A : Act}
theorem ze (t : TypeId) (x y : Operand) (t2 : TypeId) (ho : o.op = .binOp .eql t x y t2) (a : Addr) (hx : A.eval x = .pointer (some a)) (hy : A.eval y = .pointer none) {e : TypeId} (hu : P.underlying t = some (.pointer e)) (w : World) : (execOp A.eval o).run P w = .ok (.value (vFa)) w := by
  refine jV .eql t x y t2 ho _ _ _ hx hy (by simp [eqGuard, go_sem]) ?_
  exact run_eql_pointer_nil w t (some a) (by simp [Program.pointee, hu])
end
theorem bT : NumT Try.prog 36 5 .u8 1 := ⟨Try.underlying36, Try.underlying5, by
  have h : (Try.prog.info? 5).map (fun i => (i.zero, i.size, i.bytes)) = some (some (.int .u8 0), 1, 1) := by kernel_rfl
  cases hi : Try.prog.info? 5 with
  | none => rw [hi] at h; cases h
  | some i =>
    rw [hi] at h
    simp only [Option.map_some, Option.some.injEq, Prod.mk.injEq] at h
    exact ⟨i, rfl, h.1, h.2.1, h.2.2⟩⟩
theorem ym {P : Program} {e : TypeId} {z : Option Value} {n b : Nat} (h : (P.info? e).map (fun i => (i.zero, i.size, i.bytes)) = some (z, n, b)) : ∃ i, P.info? e = some i ∧ i.zero = z ∧ i.size = n ∧ i.bytes = b := by
  cases hi : P.info? e with
  | none => rw [hi] at h; cases h
  | some i =>
    rw [hi] at h
    simp only [Option.map_some, Option.some.injEq, Prod.mk.injEq] at h
    exact ⟨i, rfl, h.1, h.2.1, h.2.2⟩
section
variable {P : Program} {o : Oper} {A : Act}
theorem jg (t : TypeId) (k : IntKind) (x y : Operand) (t2 : TypeId) (ho : o.op = .binOp .eql t x y t2) (hu : P.underlying t = some (.int k)) (a b : Int) (hx : A.eval x = .int k a) (hy : A.eval y = .int k b) (p : Bool) (hp : decide (a = b) = p) (w : World) : (execOp A.eval o).run P w = .ok (.value (.bool p)) w := by
  subst hp
  refine jV .eql t x y t2 ho _ _ _ hx hy (by simp [eqGuard, go_sem]) ?_
  have h := run_equalIn_int w Op.maxDepth t k k a b hu
  simp only [binOp]
  simp [go_sem]
  rfl
theorem zG (t : TypeId) (k : IntKind) (x y : Operand) (t2 : TypeId) (ho : o.op = .binOp .neq t x y t2) (_hu : P.underlying t = some (.int k)) (a b : Int) (hx : A.eval x = .int k a) (hy : A.eval y = .int k b) (p : Bool) (hp : decide (a = b) = !p) (w : World) : (execOp A.eval o).run P w = .ok (.value (.bool p)) w := by
  refine jV .neq t x y t2 ho _ _ _ hx hy (by simp [eqGuard, go_sem]) ?_
  simp only [binOp]
  have e : (a == b) = !p := by rw [← hp]; rfl
  simp [go_sem]
  rw [bne, e]
  simp
end
theorem ju (u v : Value) : (PostE.val u).fill v = u := rfl
theorem vf {p : Nat → Prop} (h : ∃ n, p n) : ∃ n, p n ∧ ∀ m, m < n → ¬ p m := by
  obtain ⟨n, hn⟩ := h
  induction n using Nat.strongRecOn with
  | _ n ih =>
    by_cases hx : ∃ m, m < n ∧ p m
    · obtain ⟨m, hm, hp⟩ := hx
      exact ih m hm hp
    · exact ⟨n, hn, fun m hm hp => hx ⟨m, hm, hp⟩⟩
theorem zl {P : Program} {c : Code} {Q : Exit → Act → World → Prop} (J : Nat → Act → World → Prop) (round : ∀ n a w, J n a w → c.wp P (Exit.then (fun a' w' => ∃ m, m < n ∧ J m a' w') Q) a w) (n : Nat) {a : Act} {w : World} (h : J n a w) : (Code.loop c).wp P Q a w := by
  classical
  refine wp_loop (fun a w => ∃ n, J n a w) (fun a w => if h : ∃ n, J n a w then Classical.choose (vf h) else 0) ⟨n, h⟩ fun a w hI => ?_
  have hc := Classical.choose_spec (vf hI)
  have hm : (if h : ∃ n, J n a w then Classical.choose (vf h) else 0) = Classical.choose (vf hI) := dif_pos hI
  rw [hm]
  refine Code.wp_mono (fun e a' w' hq => ?_) (round _ a w hc.1)
  cases e with
  | normal =>
    obtain ⟨m, hlt, hJ⟩ := hq
    have hI' : ∃ n, J n a' w' := ⟨m, hJ⟩
    refine ⟨hI', ?_⟩
    have hc' := Classical.choose_spec (vf hI')
    rw [dif_pos hI']
    have : ¬ m < Classical.choose (vf hI') := fun hx => hc'.2 m hx hJ
    omega
  | exit _ => exact hq
  | goto _ => exact hq
  | ret => exact hq
  | panic _ => exact hq
  | outgrown => exact hq
theorem wr_all {L l : List Nat} (h : l.length = L.length) : wr L 0 l = l := by
  simp [wr, h]
theorem tmodN (a b : Nat) : (a : Int).tmod (b : Int) = ((a % b : Nat) : Int) := rfl
theorem zp {P : Program} {o : Oper} {A : Act} {w : World} (t : TypeId) (n : Nat) (l : List (Nat × Operand)) (ho : o.op = .buildSlice t n l.toArray) (vals : List (Nat × Value)) (hv : (l.map fun p => (p.1, A.eval p.2)) = vals) {v : Value} {w' : World} (h : (Instr.buildSlice t n vals.toArray).run P w = .ok v w') :
    (execOp A.eval o).run P w = .ok (.value v) w' := by
  unfold execOp
  simp only [ho]
  have : (l.toArray.map fun (i, x) => (i, A.eval x)) = vals.toArray := by rw [← hv]; simp
  rw [this]
  simp [h]
section
variable {P : Program} {ops : Array Oper} {rest : List Oper} {o : Oper} {T : List Value} {ds : List Deferred} {w : World} {Q : Exit → Act → World → Prop}
theorem zR (dst : Nat) (hd : o.dst = some dst) (hgd : o.guard = none) (t : TypeId) (n : Nat) (l : List (Nat × Operand)) (ho : o.op = .buildSlice t n l.toArray) (vals : List (Nat × Value)) (hv : (l.map fun p => (p.1, (⟨T.toArray, ds⟩ : Act).eval p.2)) = vals) (cs : Array Value) (e : TypeId)
    (hr : (Instr.buildSlice t n vals.toArray).run P w = .ok (.slice (some ⟨w.heap.size, 0, none⟩) n n) (w.alloc (.cells cs e)))
    (h : ∀ w' g, Gro w w' → w.heap.size = g → w'.heap[g]? = some (.cells cs e (0, 0)) → wpList P ops Q rest ⟨(T.set dst (.slice (some ⟨g, 0, none⟩) n n)).toArray, ds⟩ w') : wpList P ops Q (o :: rest) ⟨T.toArray, ds⟩ w :=
  wpList_plain hgd fun _ hK => by
    have he := zp (A := ⟨T.toArray, ds⟩) t n l ho vals hv hr
    unfold Oper.wp
    rw [he, Oper.upon_value, hd, zg]
    exact hK _ _ (h _ _ (jR _ _) rfl (heap_alloc_new _ _))
end
theorem nc_all {w : World} {g : Nat} {L : List Nat} {t : TypeId} (hg : w.heap[g]? = some (.cells (bv L) t (0, 0))) (hL : ∀ x ∈ L, x < 256) : NC w .u8 (some ⟨g, 0, none⟩) L.length L := by
  have h := nc_blk (off := 0) (n := L.length) (cap := L.length) hg (by omega) (Nat.le_refl _) hL
  rwa [List.drop_zero, List.take_length] at h
section
variable {P : Program} {ops : Array Oper} {rest : List Oper} {o : Oper} {T : List Value} {ds : List Deferred} {w : World} {Q : Exit → Act → World → Prop}
theorem yE {gi d : Nat} {b : Bool} (dst : Nat) (hd : o.dst = some dst) (hg : o.guard = some (gi, b)) (y : ∀ T, yielded ops T gi = yv T d) (hv : (yv T.toArray d == some b) = true) (c : Call) (f : FuncId) (hen : ∀ args w, (callFunc f args).run P w = .ok (.enter f args) w) (ho : o.op = .call c) (hc : c.callee = .value (.func f)) (xs : List Operand) (hxs : c.args = xs.toArray) (vs : List Value) (hvs : xs.map (Act.eval ⟨T.toArray, ds⟩) = vs)
    {R : Ending → World → Prop} (H : Calls P f vs.toArray w R) (hR : ∀ e w', R e w' → ∃ v, e = .returned v)
    (h : ∀ v w', R (.returned v) w' → wpList P ops Q rest ⟨(T.set dst v).toArray, ds⟩ w') : wpList P ops Q (o :: rest) ⟨T.toArray, ds⟩ w :=
  wpList_step fun K hK => by
    rw [if_pos (yC hg y hv)]
    unfold Oper.wp
    rw [yu c f hen ho hc, hxs, List.map_toArray, hvs, Oper.upon_enter]
    refine H.mono fun e w' hr => ?_
    obtain ⟨v, rfl⟩ := hR _ _ hr
    have := h v w' hr
    rw [← zg, ← hd] at this
    exact hK _ _ this
end
section
variable {w w' : World} {e : TypeId} {k : IntKind} {B : Nat} {ao : Option Addr} {cap : Nat} {l : List Nat}
theorem OB.blk (h : OB w e k B ao cap l) {j : Nat} (hj : j < l.length) : ∃ g cur, ao = some ⟨g, 0, none⟩ ∧ B ≤ g ∧ w.heap[g]? = some (.cells cur e (0, 0)) ∧ l.length ≤ cap ∧ cap ≤ maxLen ∧ cur.size = cap ∧ cur.toList.take l.length = l.map fun r : Nat => Value.int k (r : Int) := by
  rcases h.own.2 with ⟨h1, h2⟩ | ⟨g, c, cur, h1, hB, h2, h3, h4, h5, h6⟩
  · omega
  · injection h1 with e1 e2 e3
    subst e1 e3
    exact ⟨g, cur, rfl, hB, h2, h3, h4, by omega, by rwa [Nat.mul_one] at h6⟩
theorem OB.put (h : OB w e k B ao cap l) {g j : Nat} {cur : Array Value} (hg : ao = some ⟨g, 0, none⟩) (hc : w.heap[g]? = some (.cells cur e (0, 0))) (hj : j < l.length) (y : Nat) (hy : (y : Int) ≤ k.max) (St : Stored w w' g (.cells (splice cur j #[.int k (y : Int)]) e (0, 0))) : OB w' e k B ao cap (l.set j y) := by
  subst hg
  obtain ⟨g2, cur2, h1, hB, h2, h3, h4, h5, h6⟩ := h.blk hj
  cases h1
  rw [hc] at h2
  cases h2
  refine OB.made St.new hB (by rw [List.length_set]; exact h3) h4 ?_ ?_ (fun x hx => ?_)
  · rw [vH _ _ _ (by omega)]
    simpa using h5
  · rw [vH _ _ _ (by omega), List.length_set, Array.toList_setIfInBounds, List.take_set, h6, List.map_set]
  · rcases List.mem_or_eq_of_mem_set hx with hx | hx
    · exact h.wf x hx
    · exact hx ▸ hy
end
theorem ob_all {w : World} {g B : Nat} {L : List Nat} (hg : w.heap[g]? = some (.cells (bv L) 5 (0, 0))) (hB : B ≤ g) (hL : ∀ x ∈ L, x < 256) (hm : L.length ≤ maxLen) : OB w 5 .u8 B (some ⟨g, 0, none⟩) L.length L :=
  OB.made hg hB (Nat.le_refl _) hm (bv_size L) (by rw [bv, List.take_of_length_le (by simp)]) (fun x hx => by have := hL x hx; rw [vQ]; omega)
theorem OB.gros {S : List Nat} {w w' : World} {e : TypeId} {k : IntKind} {B : Nat} {ao : Option Addr} {cap : Nat} {l : List Nat} (h : OB w e k B ao cap l) (G : GroS S w w') (hs : ∀ ad, ao = some ad → ad.block ∉ S) : OB w' e k B ao cap l := by
  refine ⟨⟨h.own.1, ?_⟩, h.wf⟩
  rcases h.own.2 with h1 | ⟨g, c, cur, h1, h2, h3, h4⟩
  · exact .inl h1
  · refine .inr ⟨g, c, cur, h1, h2, G.has h3 ?_, h4⟩
    injection h1 with e1 e2 e3
    exact hs _ e1
theorem JN {w : World} {Q : Exit → Act → World → Prop} {i j : Nat} {a : Act} (hne : j ≠ i) (h : Q (.exit j) a w) : Exit.inBlock i Q (.exit j) a w := by
  simpa [Exit.inBlock, hne] using h
theorem na4 (w : World) : (isAgg 4).run Try.prog w = .ok false w := by kernel_rfl
section
variable {P : Program} {ops : Array Oper} {rest : List Oper} {o : Oper} {T : List Value} {ds : List Deferred} {w : World} {Q : Exit → Act → World → Prop}
def blk (ao : Option Addr) : List Nat := (ao.map (·.block)).toList
theorem mem_blk {ao : Option Addr} {k : Nat} : k ∈ blk ao ↔ ∃ ad, ao = some ad ∧ ad.block = k := by
  cases ao <;> simp [blk, eq_comm]
end
theorem OX.ne {w : World} {e : TypeId} {sz B : Nat} {ao : Option Addr} {cap n : Nat} {cs : List Value} (h : OX w e sz B ao cap n cs) {k : Nat} {c : Array Value} {t : TypeId} (hk : w.heap[k]? = some (.cells c t (0, 0))) (ht : t ≠ e) : k ∉ blk ao := fun hm => by
  obtain ⟨ad, rfl, rfl⟩ := mem_blk.1 hm
  rcases h.own.2 with ⟨h1, _⟩ | ⟨g, c', cur, h1, _, h2, _⟩
  · cases h1
  · injection h1 with e1 e2 e3
    injection e1 with e1
    subst e1
    rw [h2] at hk
    injection hk with hk
    injection hk with hk1 hk2
    exact ht hk2.symm
theorem OX.gros {S : List Nat} {w w' : World} {e : TypeId} {sz B : Nat} {ao : Option Addr} {cap n : Nat} {cs : List Value} (h : OX w e sz B ao cap n cs) (G : GroS S w w') (hs : ∀ ad, ao = some ad → ad.block ∉ S) : OX w' e sz B ao cap n cs := by
  refine ⟨⟨h.own.1, ?_⟩, h.one⟩
  rcases h.own.2 with h1 | ⟨g, c, cur, h1, h2, h3, h4⟩
  · exact .inl h1
  · refine .inr ⟨g, c, cur, h1, h2, G.has h3 ?_, h4⟩
    injection h1 with e1 e2 e3
    exact hs _ e1
theorem OX.base {w : World} {e : TypeId} {sz B : Nat} {ao : Option Addr} {cap n : Nat} {cs : List Value} (h : OX w e sz B ao cap n cs) : ∀ x ∈ blk ao, B ≤ x := fun x hx => by
  obtain ⟨ad, rfl, rfl⟩ := mem_blk.1 hx
  exact (h.ge ad rfl).1
theorem xc_one {w : World} {g : Nat} {v : Value} {t : TypeId} (hg : w.heap[g]? = some (.cells #[v] t (0, 0))) (h1 : v.oneCell' = true) : XC w 1 (some ⟨g, 0, none⟩) 1 1 [v] := by
  refine ⟨rfl, Nat.le_refl _, fun h => by (cases h), fun ad ha j u hu => ?_, fun u hu => by (simp at hu; rw [hu]; exact h1)⟩
  cases ha
  rw [zA, cell_of_row w g _ _ t _ hg]
  match j with
  | 0 => simpa using hu
  | j + 1 => simp at hu
section
variable {P : Program} {o : Oper} {A : Act}
theorem vI (t : TypeId) (x y : Operand) (t2 : TypeId) (ho : o.op = .binOp .neq t x y t2) (a : Addr) (hx : A.eval x = .pointer (some a)) (hy : A.eval y = .pointer none) {e : TypeId} (hu : P.underlying t = some (.pointer e)) (w : World) : (execOp A.eval o).run P w = .ok (.value (vTr)) w := by
  refine jV .neq t x y t2 ho _ _ _ hx hy (by simp [eqGuard, go_sem]) ?_
  exact run_neq_pointer_nil w t (some a) (by simp [Program.pointee, hu])
end
structure LC (w : World) (ao : Option Addr) (cap : Nat) (ls : List (List Nat)) : Prop where
  fit : ls.length ≤ cap
  bare : ao = none → cap = 0
  cell : ∀ ad, ao = some ad → ∀ j, j < ls.length → ∃ ao' cap', w.cell? (ad.add j) = some (.slice ao' (ls.getD j []).length cap') ∧ NC w .u8 ao' cap' (ls.getD j [])
theorem LC.at {w : World} {ao : Option Addr} {cap : Nat} {ls : List (List Nat)} (h : LC w ao cap ls) {j : Nat} (hj : j < ls.length) : ∃ ad ao' cap', ao = some ad ∧ w.cell? (ad.add j) = some (.slice ao' (ls.getD j []).length cap') ∧ NC w .u8 ao' cap' (ls.getD j []) := by
  cases hao : ao with
  | none => have := h.bare hao; have := h.fit; omega
  | some ad => obtain ⟨ao', cap', h1, h2⟩ := h.cell ad hao j hj; exact ⟨ad, ao', cap', rfl, h1, h2⟩
theorem LC.gro {w w' : World} {ao : Option Addr} {cap : Nat} {ls : List (List Nat)} (h : LC w ao cap ls) (G : Gro w w') : LC w' ao cap ls :=
  ⟨h.fit, h.bare, fun ad ha j hj => by
    obtain ⟨ao', cap', h1, h2⟩ := h.cell ad ha j hj
    exact ⟨ao', cap', (World.cell?_of_block (G.block _ (World.block_lt_of_cell? w _ h1))).trans h1, h2.gro G⟩⟩
theorem vd {o : Oper} {A : Act} (x y : Operand) (ho : o.op = .indexAddr 30 x y) (ad : Addr) (n cap j : Nat) (hx : A.eval x = .slice (some ad) n cap) (hy : A.eval y = iK (j : Int)) (hj : j < n) (w : World) :
    (execOp A.eval o).run Try.prog w = .ok (.value (.pointer (some (ad.add j)))) w := by
  have h : (Instr.indexAt 30 (.slice (some ad) n cap) (iK (j : Int))).run Try.prog w = .ok (.pointer (some (ad.add j))) w := by
    simp only [Instr.indexAt, Sem.run_bind, run_underlying Try.underlying30, Result.andThen_ok]
    simp [asIntOf, hj]
  unfold execOp
  simp only [ho, hx, hy, Sem.run_bind, h, Result.andThen_ok, Sem.run_pure]
theorem uZ {o : Oper} {A : Act} (x : Operand) (ho : o.op = .load 36 x) (p : Addr) (hx : A.eval x = .pointer (some p)) (w : World) (v : Value) (hc : w.cell? p = some v) :
    (execOp A.eval o).run Try.prog w = .ok (.value v) w := by
  unfold execOp
  simp only [ho, hx]
  simp [go_sem, hc]
def uN (x : Int) : Nat := (x % 18446744073709551616).toNat
theorem uN_eq (x : Int) : IntKind.u64.wrap x = ((uN x : Nat) : Int) := by
  simp [IntKind.wrap, IntKind.bits, IntKind.signed, uN]
  omega
theorem conv345 {o : Oper} {A : Act} (x : Operand) (ho : o.op = .convert 3 119 x) (z : Int) (hx : A.eval x = iK z) (w : World) : (execOp A.eval o).run Try.prog w = .ok (.value (.int .u64 ((uN z : Nat) : Int))) w := by
  unfold execOp
  simp only [ho, hx]
  simp [go_sem, uN_eq]
theorem jH {P : Program} {o : Oper} {A : Act} (t t2 : TypeId) (x y : Operand) (ho : o.op = .binOp .rem t x y t2) (a m : Nat) (hx : A.eval x = .int .u64 (a : Int)) (hy : A.eval y = .int .u64 (m : Int)) (hm : m ≠ 0) (w : World) : (execOp A.eval o).run P w = .ok (.value (.int .u64 ((a % m : Nat) : Int))) w := by
  refine jV .rem t x y t2 ho _ _ _ hx hy (by simp [eqGuard]) ?_
  have h1 : (a : Int).tmod (m : Int) = ((a % m : Nat) : Int) := tmodN a m
  have h2 : (m : Int) ≠ 0 := by omega
  simp only [binOp, Op.intDiv, if_neg h2, h1]
  rfl
theorem conv453 {o : Oper} {A : Act} (x : Operand) (ho : o.op = .convert 119 3 x) (n : Nat) (hn : n < 9223372036854775808) (hx : A.eval x = .int .u64 (n : Int)) (w : World) : (execOp A.eval o).run Try.prog w = .ok (.value (iK (n : Int))) w := by
  have h : IntKind.i64.wrap (n : Int) = (n : Int) := uo _ (by omega) (by omega)
  unfold execOp
  simp only [ho, hx]
  simp [go_sem, h]
theorem Yb {w w' : World} (G : Gro w w') {a : Addr} {v : Value} (h : w.cell? a = some v) : w'.cell? a = some v := (World.cell?_of_block (G.block _ (World.block_lt_of_cell? w _ h))).trans h
structure RV where
  ao : Option Addr
  cap : Nat
  l : List Nat
def RV.v (x : RV) : Value := .slice x.ao x.l.length x.cap
structure LO (w : World) (B : Nat) (ao : Option Addr) (cap : Nat) (q : List RV) : Prop where
  ox : OX w 36 1 B ao cap q.length (q.map RV.v)
  row : ∀ x ∈ q, OB w 5 .u8 B x.ao x.cap x.l
theorem LO.nil (w : World) (B : Nat) : LO w B none 0 [] := ⟨OX.nil _ _ _ _, fun _ h => by cases h⟩
theorem LO.gro {w w' : World} {B : Nat} {ao : Option Addr} {cap : Nat} {q : List RV} (h : LO w B ao cap q) (G : Gro w w') : LO w' B ao cap q := ⟨h.ox.gro G, fun x hx => (h.row x hx).gro G⟩
theorem OB.blk5 {w : World} {B : Nat} {ao : Option Addr} {cap : Nat} {l : List Nat} (h : OB w 5 .u8 B ao cap l) {ad : Addr} (ha : ao = some ad) : ∃ cur, w.heap[ad.block]? = some (.cells cur 5 (0, 0)) := by
  rcases h.own.2 with ⟨h1, _⟩ | ⟨g, c', cur, h1, _, h2, _⟩
  · injection h1 with e1 e2 e3
    rw [ha] at e1
    cases e1
  · injection h1 with e1 e2 e3
    rw [ha] at e1
    injection e1 with e1
    subst e1
    exact ⟨cur, h2⟩
theorem jy {w : World} {a b : Nat} {c c' : Array Value} {t t' : TypeId} (h : w.heap[a]? = some (.cells c t (0, 0))) (h' : w.heap[b]? = some (.cells c' t' (0, 0))) (ht : t ≠ t') : a ≠ b := fun e => by
  subst e
  rw [h] at h'
  injection h' with h'
  injection h' with _ h2
  exact ht h2
theorem LO.app {w w' : World} {B : Nat} {ao : Option Addr} {cap : Nat} {q : List RV} (H : LO w B ao cap q) {ao2 : Option Addr} {cap2 : Nat} {x : RV} (h2 : OX w' 36 1 B ao2 cap2 (q.length + 1) (q.map RV.v ++ [x.v])) (G : GroS (blk ao) w w') (hx : OB w 5 .u8 B x.ao x.cap x.l) : LO w' B ao2 cap2 (q ++ [x]) := by
  have five : ∀ y : RV, OB w 5 .u8 B y.ao y.cap y.l → OB w' 5 .u8 B y.ao y.cap y.l := fun y hy => hy.gros G fun ad ha => by
    obtain ⟨cur, hc⟩ := hy.blk5 ha
    exact H.ox.ne hc (by decide)
  refine ⟨by simpa using h2, fun y hy => ?_⟩
  rcases List.mem_append.1 hy with hy | hy
  · exact five y (H.row y hy)
  · have : y = x := by simpa using hy
    subst this
    exact five y hx
theorem LC.nil (w : World) : LC w none 0 [] := ⟨Nat.le_refl _, fun _ => rfl, fun _ h => by cases h⟩
end Go.Proofs.Ytlfanecaglbomaa
