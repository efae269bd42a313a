/- Rows of numbers and of steps, and maps of numbers, in memory. -/
import Derived.Test.YtkjnefgenffhcaaGQ1
import Derived.Test.YtkjnefgenffhcaaGLaw10
import Derived.Test.YtkjnefgenffhcaaGT1
import Derived.Maps.OwnSet
import Derived.DeepKeys4
import Derived.WideKeyEntry
namespace Go.Proofs.Ytkjnefgenffhcaa
open Go.RowKit Go.Maps
/-- A number that is an int. -/
def I64t (x : Int) : Prop := -9223372036854775808 ≤ x ∧ x < 9223372036854775808
def P64 (p : Int × Int) : Prop := I64t p.1 ∧ I64t p.2
theorem I64t.wf {x : Int} (h : I64t x) : (Lit.int .i64 x).wf = true := by
  obtain ⟨h1, h2⟩ := h
  simp [Lit.wf, IntKind.min, IntKind.max, IntKind.signed, IntKind.bits]
  omega
theorem I64t.of {x : Int} (h : (Lit.int .i64 x).wf = true) : I64t x := by
  simp [Lit.wf, IntKind.min, IntKind.max, IntKind.signed, IntKind.bits] at h
  unfold I64t
  omega
theorem I64t.z : I64t 0 := by unfold I64t; omega
/-- Only the map at b has changed. -/
structure Kp (b : Nat) (w w' : World) : Prop where
  grown : w.grownBy w' (some b)
  map : ∃ es c, w.heap[b]? = some (.map es c)
theorem Kp.has {b : Nat} {w w' : World} (h : Kp b w w') {g : Nat} {cs : Array Value} {t : TypeId} {fr : Nat × Nat} (hg : w.heap[g]? = some (.cells cs t fr)) : w'.heap[g]? = some (.cells cs t fr) := by
  obtain ⟨es, c, hm⟩ := h.map
  rw [h.grown.block g (Array.getElem?_eq_some_iff.1 hg).1 (fun e => by cases e; rw [hm] at hg; cases hg)]
  exact hg
theorem Kp.gro {b : Nat} {w0 w w' : World} (h : Kp b w w') (G : Gro w0 w) (hb : w0.heap.size ≤ b) : Gro w0 w' :=
  below_gro G (below_of_grown h.grown (B := w0.heap.size) (fun k hk => by cases hk; exact hb) G.size) (Nat.le_refl _)
def ci (l : List Int) : List Value := l.map (Value.int .i64)
theorem ci_len (l : List Int) : (ci l).length = l.length * 1 := by simp [ci]
theorem ci_app (a b : List Int) : ci (a ++ b) = ci a ++ ci b := by simp [ci]
theorem ci_one (l : List Int) : ∀ v ∈ ci l, v.oneCell' = true := fun v hv => by
  obtain ⟨x, _, rfl⟩ := List.mem_map.1 hv
  rfl
theorem ci_get {l : List Int} {j : Nat} (hj : j < l.length) : (ci l)[j]? = some (.int .i64 (l.getD j 0)) := by
  simp [ci, List.getD_eq_getElem?_getD, hj]
/-- A step as a value. -/
def pv (p : Int × Int) : Value := .agg #[.int .i64 p.1, .int .i64 p.2]
def cp (l : List (Int × Int)) : List Value := l.flatMap fun p => [.int .i64 p.1, .int .i64 p.2]
theorem cp_cons (p : Int × Int) (l : List (Int × Int)) : cp (p :: l) = .int .i64 p.1 :: .int .i64 p.2 :: cp l := by simp [cp]
theorem cp_len : ∀ l : List (Int × Int), (cp l).length = l.length * 2
  | [] => rfl
  | p :: l => by rw [cp_cons, List.length_cons, List.length_cons, cp_len l, List.length_cons]; omega
theorem cp_one (l : List (Int × Int)) : ∀ v ∈ cp l, v.oneCell' = true := fun v hv => by
  obtain ⟨p, _, hp⟩ := List.mem_flatMap.1 hv
  simp only [List.mem_cons, List.not_mem_nil, or_false] at hp
  rcases hp with rfl | rfl <;> rfl
theorem rI : RowT Try.prog 32 3 1 8 (.int .i64 0) := ⟨Try.underlying32, info_of (by kernel_rfl), rfl, by decide⟩
/-- A row as it is read. -/
structure RC (w : World) (ao : Option Addr) (cap : Nat) (l : List Int) : Prop where
  xc : XC w 1 ao cap l.length (ci l)
  all : ∀ x ∈ l, I64t x
/-- A row of one's own. -/
structure OI (w : World) (B : Nat) (ao : Option Addr) (cap : Nat) (l : List Int) : Prop where
  own : OX w 3 1 B ao cap l.length (ci l)
  all : ∀ x ∈ l, I64t x
section
variable {w w' : World} {ao : Option Addr} {cap : Nat} {l : List Int} {B : Nat} {g : Nat}
theorem RC.gro (h : RC w ao cap l) (G : Gro w w') : RC w' ao cap l := ⟨h.xc.gro G, h.all⟩
theorem RC.nil (w : World) : RC w none 0 [] := ⟨XC.nil w 1, fun _ h => by cases h⟩
theorem RC.fit (h : RC w ao cap l) : l.length ≤ cap := h.xc.fit
theorem RC.blk {L : List Int} {t : TypeId} {fr : Nat × Nat} (hg : w.heap[g]? = some (.cells (ci L).toArray t fr)) (hL : ∀ x ∈ L, I64t x) (hc : L.length ≤ cap) : RC w (some ⟨g, 0, none⟩) cap L := by
  refine ⟨⟨ci_len L, hc, fun h => (by cases h), fun ad ha j v hv => ?_, ci_one L⟩, hL⟩
  cases ha
  rw [add_at, Nat.zero_add, cell_of_row w g j _ t _ hg]
  simpa using hv
theorem OI.rc (h : OI w B ao cap l) : RC w ao cap l := ⟨h.own.xc, h.all⟩
theorem OI.gro (h : OI w B ao cap l) (G : Gro w w') : OI w' B ao cap l := ⟨h.own.gro G, h.all⟩
theorem OI.nil (w : World) (B : Nat) : OI w B none 0 [] := ⟨OX.nil w 3 1 B, fun _ h => by cases h⟩
theorem OI.mono (h : OI w B ao cap l) {B' : Nat} (hB : B' ≤ B) : OI w B' ao cap l := ⟨h.own.mono hB, h.all⟩
end
/-- A row as it is read. -/
structure RP (w : World) (ao : Option Addr) (cap : Nat) (l : List (Int × Int)) : Prop where
  xc : XC w 2 ao cap l.length (cp l)
  all : ∀ x ∈ l, P64 x
/-- A row of one's own. -/
structure OP (w : World) (B : Nat) (ao : Option Addr) (cap : Nat) (l : List (Int × Int)) : Prop where
  own : OX w 36 2 B ao cap l.length (cp l)
  all : ∀ x ∈ l, P64 x
section
variable {w w' : World} {ao : Option Addr} {cap : Nat} {l : List (Int × Int)} {B : Nat} {g : Nat}
theorem RP.gro (h : RP w ao cap l) (G : Gro w w') : RP w' ao cap l := ⟨h.xc.gro G, h.all⟩
theorem RP.nil (w : World) : RP w none 0 [] := ⟨XC.nil w 2, fun _ h => by cases h⟩
theorem RP.fit (h : RP w ao cap l) : l.length ≤ cap := h.xc.fit
theorem RP.blk {L : List (Int × Int)} {t : TypeId} {fr : Nat × Nat} (hg : w.heap[g]? = some (.cells (cp L).toArray t fr)) (hL : ∀ x ∈ L, P64 x) (hc : L.length ≤ cap) : RP w (some ⟨g, 0, none⟩) cap L := by
  refine ⟨⟨cp_len L, hc, fun h => (by cases h), fun ad ha j v hv => ?_, cp_one L⟩, hL⟩
  cases ha
  rw [add_at, Nat.zero_add, cell_of_row w g j _ t _ hg]
  simpa using hv
theorem OP.rc (h : OP w B ao cap l) : RP w ao cap l := ⟨h.own.xc, h.all⟩
theorem OP.gro (h : OP w B ao cap l) (G : Gro w w') : OP w' B ao cap l := ⟨h.own.gro G, h.all⟩
theorem OP.nil (w : World) (B : Nat) : OP w B none 0 [] := ⟨OX.nil w 36 2 B, fun _ h => by cases h⟩
theorem OP.mono (h : OP w B ao cap l) {B' : Nat} (hB : B' ≤ B) : OP w B' ao cap l := ⟨h.own.mono hB, h.all⟩
end
theorem nI : NumT Try.prog 32 3 .i64 8 := ⟨Try.underlying32, Try.underlying3, info_of (by kernel_rfl)⟩
/-- The place of an element. -/
def pA (ao : Option Addr) (j : Nat) : Option Addr := ao.map (·.add (j * 1))
section
variable {w w' : World} {ao : Option Addr} {cap : Nat} {l : List Int} {o : Oper} {A : Act}
theorem RC.at (h : RC w ao cap l) {j : Nat} (hj : j < l.length) : I64t (l.getD j 0) := h.all _ (getD_memZ hj)
theorem ci_take (l : List Int) (n : Nat) : ci (l.take n) = (ci l).take n := by simp [ci, List.map_take]
theorem ci_drop (l : List Int) (n : Nat) : ci (l.drop n) = (ci l).drop n := by simp [ci, List.map_drop]
theorem RC.take (h : RC w ao cap l) (i : Nat) (hi : i ≤ l.length) : RC w ao cap (l.take i) := by
  have := h.xc.take i hi
  rw [Nat.mul_one] at this
  refine ⟨?_, fun x hx => h.all x (List.mem_of_mem_take hx)⟩
  rw [List.length_take, Nat.min_eq_left hi, ci_take]
  exact this
theorem RC.drop (h : RC w ao cap l) (i : Nat) (hi : i ≤ l.length) : RC w (if cap = i then ao else ao.map (·.add (i * 1))) (cap - i) (l.drop i) := by
  have := h.xc.drop i hi
  rw [Nat.mul_one] at this
  refine ⟨?_, fun x hx => h.all x (List.mem_of_mem_drop hx)⟩
  rw [List.length_drop, ci_drop, Nat.mul_one]
  exact this
theorem run_ixI (h : RC w ao cap l) (x y : Operand) (ho : o.op = .indexAddr 32 x y) (hx : A.eval x = .slice ao l.length cap) (j : Nat) (hy : A.eval y = .int .i64 (j : Int)) (hj : j < l.length) :
    (execOp A.eval o).run Try.prog w = .ok (.value (.pointer (pA ao j))) w := by
  obtain ⟨ad, rfl⟩ := h.xc.some (by omega)
  exact run_idxX rI x y ho ad _ _ j hx hy hj w
theorem run_ldI (h : RC w ao cap l) (x : Operand) (ho : o.op = .load 3 x) (j : Nat) (hx : A.eval x = .pointer (pA ao j)) (hj : j < l.length) :
    (execOp A.eval o).run Try.prog w = .ok (.value (.int .i64 (l.getD j 0))) w := by
  obtain ⟨ad, rfl⟩ := h.xc.some (by omega)
  exact run_ld nI x ho (ad.add (j * 1)) hx w _ (by rw [Nat.mul_one]; exact h.xc.cell ad rfl j _ (ci_get hj))
theorem run_addIt {P : Program} (t : TypeId) (x y : Operand) (t2 : TypeId) (ho : o.op = .binOp .add t x y t2) (a b r : Int) (hx : A.eval x = .int .i64 a) (hy : A.eval y = .int .i64 b) (hr : a + b = r) (h1 : -9223372036854775808 ≤ r) (h2 : r < 9223372036854775808) (w : World) : (execOp A.eval o).run P w = .ok (.value (.int .i64 r)) w := by
  subst hr
  refine run_binop .add t x y t2 ho _ _ _ hx hy (by simp [eqGuard]) ?_
  simp [go_sem]
  exact wrap_in _ h1 h2
end
section
variable {ops : Array Oper} {rest : List Oper} {o : Oper} {T : List Value} {ds : List Deferred} {w : World} {Q : Exit → Act → World → Prop}
/-- Onto one's own row. -/
theorem s_appI (dst : Nat) (hd : o.dst = some dst) (hgd : o.guard = none) (s x : Operand) (ho : o.op = .call { callee := .builtin .append, args := #[s, x], argTypes := #[32, 32] })
    {B : Nat} {ao : Option Addr} {cap : Nat} {l : List Int} (hs : (⟨T.toArray, ds⟩ : Act).eval s = .slice ao l.length cap) (hown : OI w B ao cap l)
    {ao' : Option Addr} {cap' : Nat} {l' : List Int} (hx : (⟨T.toArray, ds⟩ : Act).eval x = .slice ao' l'.length cap') (hsrc : RC w ao' cap' l') (hb : l.length + l'.length ≤ 17592186044416) (hB : B ≤ w.heap.size)
    (h : ∀ ao2 cap2 w', OI w' B ao2 cap2 (l ++ l') → Below B w w' → wpList Try.prog ops Q rest ⟨(T.set dst (.slice ao2 (l ++ l').length cap2)).toArray, ds⟩ w') : wpList Try.prog ops Q (o :: rest) ⟨T.toArray, ds⟩ w := by
  refine wpList_appX rI dst hd hgd s x ho hs hown.own hx hsrc.xc (by omega) (by decide) hB ?_
  intro ao2 cap2 w' h1 h2
  rw [put_list]
  rw [← ci_app, ← List.length_append] at h1
  have := h ao2 cap2 w' ⟨h1, fun x hx => (List.mem_append.1 hx).elim (hown.all x) (hsrc.all x)⟩ h2
  rw [List.length_append] at this
  exact this
end
/-! ### Maps -/
/-- A type of maps of numbers; its keys as values. -/
structure MapT {κ : Type} (t k : TypeId) (kv : κ → Value) (ok : κ → Prop) : Prop where
  und : Try.prog.underlying t = some (.map k 3)
  keyed : Keyed Try.prog k
  key : ∀ x, ok x → ∃ kl, keyOf Try.prog k (kv x) = some kl
  inj : ∀ x y, kv x = kv y → x = y
/-- A map at b: what it tells of each key, and which keys were put. -/
structure MX {κ : Type} [DecidableEq κ] (k : TypeId) (kv : κ → Value) (ok : κ → Prop) (w : World) (b n : Nat) (f : κ → Int) (S : List κ) : Prop where
  out : ∃ D : DataW Unit, w.ownsMap Try.prog k (plainElem Try.prog 3) b n D ∧ Maps.size D = dcn S ∧ ∀ x kl, ok x → keyOf Try.prog k (kv x) = some kl → D.atKey kl (.lit (.int .i64 0)) = .lit (.int .i64 (f x)) ∧ Maps.has D kl = decide (x ∈ S)
theorem zero3 (w : World) : (zeroValue 3).run Try.prog w = .ok (.int .i64 0) w := by kernel_rfl
section
variable {κ : Type} [DecidableEq κ] {t k : TypeId} {kv : κ → Value} {ok : κ → Prop} {w w' : World} {b n : Nat} {f : κ → Int} {S : List κ}
theorem MX.map (h : MX k kv ok w b n f S) : ∃ es c, w.heap[b]? = some (.map es c) := by
  obtain ⟨D, ⟨es, c, hb, _⟩, _⟩ := h.out
  exact ⟨es, c, hb⟩
theorem MX.gro (h : MX k kv ok w b n f S) (G : Gro w w') : MX k kv ok w' b n f S := by
  obtain ⟨D, h1, h2, h3⟩ := h.out
  exact ⟨D, h1.kept (grown_of_below G) (by simp), h2, h3⟩
theorem MX.lt (h : MX k kv ok w b n f S) : b < w.heap.size := by
  obtain ⟨es, c, hb⟩ := h.map
  exact (Array.getElem?_eq_some_iff.1 hb).1
theorem MX.st {g : Nat} {x : Obj} {cs : Array Value} {ty : TypeId} {fr : Nat × Nat} (h : MX k kv ok w b n f S) (St : Stored w w' g x) (hg : w.heap[g]? = some (.cells cs ty fr)) : MX k kv ok w' b n f S := by
  obtain ⟨D, h1, h2, h3⟩ := h.out
  obtain ⟨es, c, hb⟩ := h.map
  exact ⟨D, h1.kept (row := some g) ⟨St.os, St.tape, St.output, Nat.le_of_eq St.size.symm, fun k _ hk => St.old k (fun e => hk (by rw [e]))⟩ (fun e => by cases e; rw [hb] at hg; cases hg), h2, h3⟩
theorem MX.made (w : World) (k : TypeId) (kv : κ → Value) (ok : κ → Prop) : MX k kv ok (w.alloc (.map #[] 0)) w.heap.size 0 (fun _ => 0) [] :=
  ⟨.map [], World.ownsMap_made w Try.prog k _, rfl, fun x kl _ _ => ⟨rfl, by simp [Maps.has]⟩⟩
theorem MX.look (M : MapT t k kv ok) (h : MX k kv ok w b n f S) {x : κ} (hx : ok x) : (Instr.lookup t (.map (some b)) (kv x) false).run Try.prog w = .ok (.int .i64 (f x)) w := by
  obtain ⟨D, h1, h2, h3⟩ := h.out
  obtain ⟨kl, hk⟩ := M.key x hx
  obtain ⟨c, hr, hc, _⟩ := h1.lookup_int M.keyed M.und Try.underlying3 (zero3 w) hk
  rw [(h3 x kl hx hk).1] at hc
  cases hc
  exact hr
theorem MX.len (M : MapT t k kv ok) (h : MX k kv ok w b n f S) (ty : TypeId) : (Builtin.len_ #[t] ty #[.map (some b)]).run Try.prog w = .ok (.int .i64 ((dcn S : Nat) : Int)) w := by
  obtain ⟨D, h1, h2, h3⟩ := h.out
  rw [h1.len M.und ty, h2]
theorem MX.upd (M : MapT t k kv ok) {D : DataW Unit} (hm : IsMap D) (ht : Tidy D) (h2 : Maps.size D = dcn S) (h3 : ∀ x kl, ok x → keyOf Try.prog k (kv x) = some kl → D.atKey kl (.lit (.int .i64 0)) = .lit (.int .i64 (f x)) ∧ Maps.has D kl = decide (x ∈ S))
    {x : κ} (hx : ok x) {kl : Lit} (hk : keyOf Try.prog k (kv x) = some kl) (v : Int) : Maps.size (D.put kl (.lit (.int .i64 v))) = dcn (x :: S) ∧ ∀ y ml, ok y → keyOf Try.prog k (kv y) = some ml → (D.put kl (.lit (.int .i64 v))).atKey ml (.lit (.int .i64 0)) = .lit (.int .i64 (if y = x then v else f y)) ∧ Maps.has (D.put kl (.lit (.int .i64 v))) ml = decide (y ∈ x :: S) := by
  refine ⟨?_, fun y ml hy hml => ?_⟩
  · rw [Maps.size_put ht, (h3 x kl hx hk).2, h2]
    show _ = if x ∈ S then dcn S else dcn S + 1
    by_cases hxs : x ∈ S <;> simp [hxs]
  · by_cases e : y = x
    · subst e
      have : ml = kl := by rw [hk] at hml; cases hml; rfl
      subst this
      rw [Maps.atKey_put_same hm (M.keyed.key hk), Maps.has_put_same hm (M.keyed.key hk)]
      simp
    · have hne : ml ≠ kl := fun e2 => e (M.inj _ _ (M.keyed.inj (e2 ▸ hml) hk))
      rw [Maps.atKey_put_other hne, Maps.has_put_other hne, (h3 y ml hy hml).1, (h3 y ml hy hml).2]
      simp [e]
theorem MX.put (M : MapT t k kv ok) (h : MX k kv ok w b n f S) (hn : n < maxLen) {x : κ} (hx : ok x) {v : Int} (hv : I64t v) :
    ∃ w', (Instr.mapUpdate t (.map (some b)) (kv x) (.int .i64 v)).run Try.prog w = .ok () w' ∧ MX k kv ok w' b (n + 1) (fun y => if y = x then v else f y) (x :: S) ∧ Kp b w w' := by
  obtain ⟨es, c, hb⟩ := h.map
  obtain ⟨D, h1, h2, h3⟩ := h.out
  obtain ⟨kl, hk⟩ := M.key x hx
  obtain ⟨w', hr, ho, hg⟩ := h1.update M.keyed M.und hn hk (plainElem_int Try.underlying3 hv.wf)
  have hu := MX.upd M h1.isMap (h1.tidy M.keyed) h2 h3 hx hk v
  exact ⟨w', hr, ⟨_, ho, hu.1, hu.2⟩, hg, es, c, hb⟩
end
section
variable {κ : Type} [DecidableEq κ] {t k : TypeId} {kv : κ → Value} {ok : κ → Prop} {b n : Nat} {f : κ → Int} {S : List κ}
theorem run_mlent {o : Oper} {A : Act} {w : World} (M : MapT t k kv ok) (h : MX k kv ok w b n f S) (x : Operand) (ho : o.op = .call { callee := .builtin .len, args := #[x], argTypes := #[t] }) (hx : A.eval x = .map (some b)) :
    (execOp A.eval o).run Try.prog w = .ok (.value (.int .i64 ((dcn S : Nat) : Int))) w := by
  unfold execOp
  simp [ho, resolve, invoke, builtin, hx, h.len M]
variable {ops : Array Oper} {rest : List Oper} {o : Oper} {T : List Value} {ds : List Deferred} {w : World} {Q : Exit → Act → World → Prop}
theorem s_mput (M : MapT t k kv ok) (hgd : o.guard = none) (hdst : o.dst = none) (m x v : Operand) (ho : o.op = .mapUpdate t m x v) (h : MX k kv ok w b n f S) (hn : n < maxLen) (hm : (⟨T.toArray, ds⟩ : Act).eval m = .map (some b)) (q : κ) (hx : (⟨T.toArray, ds⟩ : Act).eval x = kv q) (hq : ok q) (z : Int) (hv : (⟨T.toArray, ds⟩ : Act).eval v = .int .i64 z) (hz : I64t z)
    (hk : ∀ w', MX k kv ok w' b (n + 1) (fun y => if y = q then z else f y) (q :: S) → Kp b w w' → wpList Try.prog ops Q rest ⟨T.toArray, ds⟩ w') : wpList Try.prog ops Q (o :: rest) ⟨T.toArray, ds⟩ w := by
  refine wpList_plain hgd fun _ hK => ?_
  obtain ⟨w', hr, h1, h2⟩ := h.put M hn hq hz
  have he : (execOp (Act.eval ⟨T.toArray, ds⟩) o).run Try.prog w = .ok (.value undef) w' ∨ (execOp (Act.eval ⟨T.toArray, ds⟩) o).run Try.prog w = .ok .skip w' := by
    unfold execOp
    simp [ho, hm, hx, hv, hr]
  have := hK _ _ (hk w' h1 h2)
  unfold Oper.wp
  rcases he with he | he <;> rw [he] <;> first | (rw [Oper.upon_value, hdst]; exact this) | (simp only [Oper.upon, hdst]; exact this)
theorem s_mkM (dst : Nat) (hd : o.dst = some dst) (hgd : o.guard = none) (ho : o.op = .makeMap t none)
    (h : ∀ w' g, Gro w w' → w.heap.size = g → MX k kv ok w' g 0 (fun _ => 0) [] → wpList Try.prog ops Q rest ⟨(T.set dst (.map (some g))).toArray, ds⟩ w') : wpList Try.prog ops Q (o :: rest) ⟨T.toArray, ds⟩ w := by
  refine wpList_plain hgd fun _ hK => ?_
  have he : (execOp (Act.eval ⟨T.toArray, ds⟩) o).run Try.prog w = .ok (.value (.map (some w.heap.size))) (w.alloc (.map #[] 0)) := by
    unfold execOp
    simp only [ho, Option.map_none, Sem.run_bind, run_makeMap, Result.andThen_ok, Sem.run_pure]
  unfold Oper.wp
  rw [he, Oper.upon_value, hd, put_list]
  exact hK _ _ (h _ _ (gro_alloc _ _) rfl (MX.made w k kv ok))
end
theorem mI : MapT 109 3 (Value.int .i64) I64t := ⟨Try.underlying109, int_keyed Try.underlying3, fun _ hx => ⟨_, keyOf_int_mk Try.underlying3 hx.wf⟩, fun _ _ e => by cases e; rfl⟩
end Go.Proofs.Ytkjnefgenffhcaa
