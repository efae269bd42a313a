/- Quick ways of operations are right: rows, types. -/
import Derived.Test.YtmjblbgalkjmiaaGreatBY5
namespace Go.Proofs.YtmjblbgalkjmiaaGreat.EX
open Go
section
variable {P : Program}
theorem objV_ok {o : Option Obj} {q : List Value → TypeId → Nat × Nat → An} {g : An} {n : Prop} (h : objV o q g n) : g n ∨ ∃ cs t z, o = some (.cells ⟨cs⟩ t z) ∧ q cs t z n := by
  cases o with
  | none => exact .inl h
  | some o =>
    cases o with
    | cells cs t z => obtain ⟨cs⟩ := cs; exact .inr ⟨cs, t, z, rfl, h⟩
    | _ => exact .inl h
theorem dropK_eq : ∀ (l : List Value) (o : Nat) (q : List Value → An), dropK l o q = q (l.drop o)
  | [], o, q => by simp [dropK]
  | h :: t, 0, q => rfl
  | h :: t, o + 1, q => dropK_eq t o q
theorem takeK_ok : ∀ {l : List Value} {m : Nat} {q : List Value → An} {n : Prop}, takeK l m q n → m ≤ l.length ∧ q (l.take m) n
  | [], 0, q, n, h => ⟨Nat.le_refl _, h⟩
  | [], m + 1, q, n, h => h.elim
  | x :: t, 0, q, n, h => ⟨Nat.zero_le _, h⟩
  | x :: t, m + 1, q, n, h => by
    have h' : takeK t m (fun s => q (x :: s)) n := h
    obtain ⟨h1, h2⟩ := takeK_ok h'
    exact ⟨by simpa using h1, h2⟩
theorem oneV_ok {v : Value} {q : An} {n : Prop} (h : oneV v q n) : oneC v = true ∧ q n := by
  cases v with
  | agg _ => exact h.elim
  | tuple _ => exact h.elim
  | _ => exact ⟨rfl, h⟩
theorem overK_ok : ∀ {vs cs : List Value} {m : Nat} {q : List Value → An} {n : Prop}, overK vs m cs q n → vs.length = m ∧ m ≤ cs.length ∧ (∀ v ∈ vs, oneC v = true) ∧ q (vs ++ cs.drop m) n
  | [], cs, 0, q, n, h => ⟨rfl, Nat.zero_le _, (fun _ h => by cases h), h⟩
  | [], cs, m + 1, q, n, h => h.elim
  | v :: vs, cs, 0, q, n, h => h.elim
  | v :: vs, [], m + 1, q, n, h => h.elim
  | v :: vs, c :: cs, m + 1, q, n, h => by
    have h' : oneV v (overK vs m cs fun s => q (v :: s)) n := h
    obtain ⟨h1, h2⟩ := oneV_ok h'
    obtain ⟨h3, h4, h5, h6⟩ := overK_ok h2
    refine ⟨by simpa using h3, by simpa using h4, fun u hu => ?_, by simpa using h6⟩
    rcases List.mem_cons.1 hu with rfl | hu
    · exact h1
    · exact h5 u hu
theorem atK_eq : ∀ (cs : List Value) (o : Nat) (f : List Value → (List Value → An) → An) (q : List Value → An) (n : Prop), atK cs o f q n → o ≤ cs.length ∧ f (cs.drop o) (fun s => q (cs.take o ++ s)) n
  | [], 0, f, q, n, h => ⟨Nat.le_refl _, h⟩
  | [], o + 1, f, q, n, h => h.elim
  | x :: t, 0, f, q, n, h => ⟨Nat.zero_le _, h⟩
  | x :: t, o + 1, f, q, n, h => by
    have h' : atK t o f (fun s => q (x :: s)) n := h
    obtain ⟨h1, h2⟩ := atK_eq t o f _ n h'
    exact ⟨by simpa using h1, h2⟩
theorem runP_info (t : TypeId) : runP P (typeInfo t) = P.info? t := by
  unfold typeInfo
  show runP P (match P.info? t with | some i => pure i | none => Go.stuck _) = _
  cases P.info? t <;> rfl
theorem runP_und (t : TypeId) : runP P (underlying t) = P.underlying t := by
  unfold underlying
  show runP P (match P.underlying t with | some i => pure i | none => Go.stuck _) = _
  cases P.underlying t <;> rfl
theorem runP_bind {α β : Type} (f : α → Sem β) : ∀ (m : Sem α), runP P (m >>= f) = (runP P m).bind fun a => runP P (f a) := by
  intro m
  show runP P (m.bind f) = _
  induction m with
  | pure a => rfl
  | program k ih => exact ih P
  | mark m k ih => exact ih
  | choose c k ih =>
    simp only [Sem.bind, runP]
    cases c.forced with
    | false => rfl
    | true => exact ih 0
  | _ => rfl
theorem szT_ok {t : TypeId} {n : Nat} (h : szT P t = some n) : runP P (sizeOf t) = some n := by
  unfold sizeOf
  rw [runP_bind, runP_info]
  unfold szT at h; (try simp only [infoQ_eq] at h)
  cases e : P.info? t with
  | none => rw [e] at h; cases h
  | some i => rw [e] at h; cases h; rfl
theorem oneT_ok {t : TypeId} (h : oneT P t = true) : runP P (isAgg t) = some false := by
  unfold isAgg
  rw [runP_bind, runP_und]
  unfold oneT at h; (try simp only [undQ_eq] at h)
  cases e : P.underlying t with
  | none => rw [e] at h; cases h
  | some d => rw [e] at h; cases d <;> first | rfl | cases h
theorem aggT_ok {t : TypeId} {n : Nat} (h : aggT P t = some n) : runP P (isAgg t) = some true ∧ runP P (sizeOf t) = some n := by
  unfold aggT at h; (try simp only [undQ_eq] at h)
  unfold isAgg
  rw [runP_bind, runP_und]
  cases e : P.underlying t with
  | none => rw [e] at h; cases h
  | some d => rw [e] at h; cases d <;> first | cases h | exact ⟨rfl, szT_ok h⟩
theorem add_none (b o i : Nat) : (⟨b, o, none⟩ : Addr).add i = ⟨b, o + i, none⟩ := by
  unfold Addr.add
  split
  · rename_i h; rw [h]; rfl
  · rfl
theorem run_loadCells {b : Nat} {h : Hp} {cs : List Value} {ty : TypeId} {z : Nat × Nat} (hg : h.t.get b = some (.cells ⟨cs⟩ ty z)) (o : Nat) : ∀ (n i : Nat) (acc : Array Value), o + i + n ≤ cs.length →
    runX P (loadCellsFrom ⟨b, o, none⟩ i n acc) h = some (.ok (acc ++ ⟨(cs.drop (o + i)).take n⟩), h) := by
  intro n
  induction n with
  | zero => intro i acc hl; simp [loadCellsFrom, runX, pure]
  | succ n ih =>
    intro i acc hl
    have hlt : o + i < cs.length := by omega
    unfold loadCellsFrom
    rw [add_none]
    have e : runX P (load ⟨b, o + i, none⟩) h = some (.ok cs[o + i], h) := by
      simp [load, runX, hg, List.getElem?_eq_getElem hlt]
    rw [runX_ok _ e, ih (i + 1) _ (by omega)]
    congr 3
    apply Array.toList_inj.1
    simp
    rw [List.drop_eq_getElem_cons hlt]
    simp [Nat.add_assoc]
theorem load_one {t : TypeId} {b o : Nat} {h : Hp} {cs : List Value} {ty : TypeId} {z : Nat × Nat} {x : Value} (ht : oneT P t = true) (hg : h.t.get b = some (.cells ⟨cs⟩ ty z)) (hx : cs[o]? = some x) : runX P (Instr.loadAt t (.pointer (some ⟨b, o, none⟩))) h = some (.ok x, h) := by
  unfold Instr.loadAt
  show runX P (loadVar t ⟨b, o, none⟩) h = _
  unfold loadVar
  rw [runX_Pb _ h (oneT_ok ht)]
  simp [load, runX, hg, hx]
theorem load_agg {t : TypeId} {b o n : Nat} {h : Hp} {cs : List Value} {ty : TypeId} {z : Nat × Nat} (ht : aggT P t = some n) (hg : h.t.get b = some (.cells ⟨cs⟩ ty z)) (hl : n ≤ (cs.drop o).length) : runX P (Instr.loadAt t (.pointer (some ⟨b, o, none⟩))) h = some (.ok (.agg ⟨(cs.drop o).take n⟩), h) := by
  obtain ⟨h1, h2⟩ := aggT_ok ht
  unfold Instr.loadAt
  show runX P (loadVar t ⟨b, o, none⟩) h = _
  unfold loadVar
  rw [runX_Pb _ h h1]
  show runX P (sizeOf t >>= _) h = _
  rw [runX_Pb _ h h2]
  unfold loadCells
  by_cases hn : n = 0
  · subst hn
    simp [loadCellsFrom, runX, pure, bind, Sem.bind]
  · have hol : o ≤ cs.length := by
      simp at hl
      omega
    rw [runX_ok _ (run_loadCells hg o n 0 #[] (by simp at hl; omega))]
    simp [runX, pure]
/-- Cells set one after the other. -/
def overS : List Value → Nat → List Value → List Value
  | cs, _, [] => cs
  | cs, k, v :: vs => overS (cs.set k v) (k + 1) vs
theorem overS_eq : ∀ (vs cs : List Value) (k : Nat), k + vs.length ≤ cs.length → overS cs k vs = cs.take k ++ vs ++ cs.drop (k + vs.length)
  | [], cs, k, h => by simp [overS]
  | v :: vs, cs, k, h => by
    simp at h
    rw [overS, overS_eq vs (cs.set k v) (k + 1) (by simp; omega)]
    have hk : k < cs.length := by omega
    have e1 : (cs.set k v).take (k + 1) = cs.take k ++ [v] := by
      rw [List.take_add_one, List.take_set, List.set_eq_of_length_le (by simp; omega)]
      simp [hk]
    have e2 : (cs.set k v).drop (k + 1 + vs.length) = cs.drop (k + (v :: vs).length) := by
      rw [List.drop_set_of_lt (by omega)]
      simp
      congr 1
      omega
    rw [e1, e2]
    simp
theorem run_storeCells {b o : Nat} {ty : TypeId} {z : Nat × Nat} : ∀ (vs : List Value) (i : Nat) (h : Hp) (cs : List Value), h.t.get b = some (.cells ⟨cs⟩ ty z) → o + i + vs.length ≤ cs.length → (∀ v ∈ vs, oneC v = true) →
    runX P (storeCells ⟨b, o, none⟩ vs i) h = some (.ok (), if vs = [] then h else ⟨h.t.set b (some (.cells ⟨overS cs (o + i) vs⟩ ty z)), h.n⟩)
  | [], i, h, cs, hg, hl, h1 => by simp [storeCells, runX, pure]
  | v :: vs, i, h, cs, hg, hl, h1 => by
    simp at hl
    unfold storeCells
    rw [add_none]
    have hlt : o + i < cs.length := by omega
    have e : runX P (store ⟨b, o + i, none⟩ v) h = some (.ok (), ⟨h.t.set b (some (.cells ⟨cs.set (o + i) v⟩ ty z)), h.n⟩) := by
      simp [store, runX, hg, h1 v (by simp), hlt]
    rw [runX_ok _ e]
    have ih := run_storeCells (b := b) (o := o) (ty := ty) (z := z) vs (i + 1) ⟨h.t.set b (some (.cells ⟨cs.set (o + i) v⟩ ty z)), h.n⟩ (cs.set (o + i) v) (by simp [T.get_set]) (by simp; omega) (fun u hu => h1 u (by simp [hu]))
    rw [ih]
    by_cases hv : vs = []
    · subst hv
      simp [overS]
    · rw [if_neg hv, if_neg (by simp)]
      simp only [T.set_set]
      rfl
theorem store_agg {t : TypeId} {b o n : Nat} {h : Hp} {cs vs : List Value} {ty : TypeId} {z : Nat × Nat} (ht : szT P t = some (n + 1)) (hg : h.t.get b = some (.cells ⟨cs⟩ ty z)) (ho : o ≤ cs.length) (hv : vs.length = n + 1) (hl : n + 1 ≤ (cs.drop o).length) (h1 : ∀ v ∈ vs, oneC v = true) :
    runX P (Instr.storeAt t (.pointer (some ⟨b, o, none⟩)) (.agg ⟨vs⟩)) h = some (.ok (), ⟨h.t.set b (some (.cells ⟨cs.take o ++ (vs ++ (cs.drop o).drop (n + 1))⟩ ty z)), h.n⟩) := by
  unfold Instr.storeAt
  show runX P (storeVar t ⟨b, o, none⟩ (.agg ⟨vs⟩)) h = _
  unfold storeVar
  rw [runX_Pb _ h (szT_ok ht)]
  have e : ¬ ((Value.agg ⟨vs⟩).cells.size ≠ n + 1) := by simp [Value.cells, hv]
  rw [if_neg e]
  simp at hl
  have hne : vs ≠ [] := by intro q; subst q; simp at hv
  show runX P (storeCells ⟨b, o, none⟩ vs) h = _
  rw [run_storeCells vs 0 h cs hg (by omega) h1, if_neg hne, overS_eq vs cs (o + 0) (by omega)]
  simp [hv]
theorem store_one {t : TypeId} {b o : Nat} {h : Hp} {cs : List Value} {u : Value} {ty : TypeId} {z : Nat × Nat} (ht : sizeOne P t = true) (hg : h.t.get b = some (.cells ⟨cs⟩ ty z)) (hl : o < cs.length) (h1 : oneC u = true) (h2 : u.cells = #[u]) :
    runX P (Instr.storeAt t (.pointer (some ⟨b, o, none⟩)) u) h = some (.ok (), ⟨h.t.set b (some (.cells ⟨cs.set o u⟩ ty z)), h.n⟩) := by
  have hs : szT P t = some 1 := by
    unfold sizeOne at ht; (try simp only [undQ_eq, infoQ_eq] at ht)
    cases e : szT P t with
    | none => rw [e] at ht; cases ht
    | some n => rw [e] at ht; rw [Nat.eq_of_beq_eq_true ht]
  unfold Instr.storeAt
  show runX P (storeVar t ⟨b, o, none⟩ u) h = _
  unfold storeVar
  rw [runX_Pb _ h (szT_ok hs), h2]
  have e : ¬ ((#[u] : Array Value).size ≠ 1) := by simp
  rw [if_neg e]
  show runX P (storeCells ⟨b, o, none⟩ [u]) h = _
  rw [run_storeCells [u] 0 h cs hg (by simp; omega) (fun v hv => by simp at hv; subst hv; exact h1)]
  simp [overS]
end
end Go.Proofs.YtmjblbgalkjmiaaGreat.EX
/- Quick ways of operations are right. -/
namespace Go.Proofs.YtmjblbgalkjmiaaGreat.EX
open Go
section
variable {P : Program}
/-- What a quick way comes to. -/
def ArmR (P : Program) (s : St) (o : Oper) (qv : Value → Hp → An) (qc : FuncId → Array Value → Hp → An) (g : An) (n : Prop) : Prop :=
  g n ∨ ∃ x h1, opStep P s o = some (.ok x, h1) ∧ ((∃ v, x = .value v ∧ qv v h1 n) ∨ (x = .skip ∧ qv undef h1 n) ∨ ∃ f args, x = .enter f args ∧ qc f args h1 n)
variable {s : St} {qv : Value → Hp → An} {qc : FuncId → Array Value → Hp → An} {g : An} {n : Prop}
theorem arm_val {o : Oper} (hst : statOK o = true) (hok : okOp P s.ev o.op = true) {v : Value} {h1 : Hp} (e : runX P (execOp s.ev o) s.h = some (.ok (.value v), h1)) (hq : qv v h1 n) : ArmR P s o qv qc g n :=
  .inr ⟨.value v, h1, by rw [opStep_ok hst hok, e], .inl ⟨v, rfl, hq⟩⟩
/-- Operations that answer a value by a tree of operations. -/
theorem arm_tree {o : Oper} (hst : statOK o = true) (hok : okOp P s.ev o.op = true) {m : Sem Value} (hm : execOp s.ev o = (m >>= fun v => pure (.value v))) {v : Value} {h1 : Hp} (e : runX P m s.h = some (.ok v, h1)) (hq : qv v h1 n) : ArmR P s o qv qc g n :=
  arm_val hst hok (by rw [hm, runX_ok _ e]; rfl) hq
/-- Operations without blocks. -/
theorem arm_closed {o : Oper} (hst : statOK o = true) (h1 : okOp P s.ev o.op = false) (h2 : appOp o.op = none) (h3 : mapOp o.op = false) (h4 : ∀ x ∈ o.op.operands.toList, closed 64 (s.ev x) = true) {v : Value} (e : runP P (execOp s.ev o) = some (.value v)) (h5 : closed 64 v = true) (hq : qv v s.h n) : ArmR P s o qv qc g n := by
  refine .inr ⟨.value v, s.h, ?_, .inl ⟨v, rfl, hq⟩⟩
  have hst' : (o.op.operands.toList.all opdOK && noSel o.op) = true := hst
  unfold opStep
  rw [if_pos hst', if_neg (by rw [h1]; decide), h2]
  dsimp only
  rw [if_neg (by rw [h3]; decide), if_pos (List.all_eq_true.2 h4), e]
  dsimp only
  rw [if_pos h5]
/-- A value that asks for nothing but the program. -/
def PV (P : Program) (ev : Operand → Value) (o : Oper) (v : Value) : Prop :=
  (okOp P ev o.op = true ∧ runP P (execOp ev o) = some (.value v)) ∨ (okOp P ev o.op = false ∧ (∀ x ∈ o.op.operands.toList, closed 64 (ev x) = true) ∧ runP P (execOp ev o) = some (.value v) ∧ closed 64 v = true)
/-- What a way comes to that looks at nothing. -/
def PvR (P : Program) (s : St) (o : Oper) (qv : Value → Hp → An) (g : An) (n : Prop) : Prop := g n ∨ ∃ v, PV P s.ev o v ∧ qv v s.h n
theorem pv_arm {o : Oper} (hst : statOK o = true) (h2 : appOp o.op = none) (h3 : mapOp o.op = false) (h : PvR P s o qv g n) : ArmR P s o qv qc g n := by
  rcases h with h | ⟨v, h | ⟨h1, h4, e, h5⟩, hq⟩
  · exact .inl h
  · exact arm_val hst h.1 (runX_P _ _ _ h.2) hq
  · exact arm_closed hst h1 h2 h3 h4 e h5 hq
theorem pv_tree {o : Oper} (hok : okOp P s.ev o.op = true) {m : Sem Value} (hm : execOp s.ev o = (m >>= fun v => pure (.value v))) {v : Value} (e : runP P m = some v) : PV P s.ev o v :=
  .inl ⟨hok, by rw [hm, runP_bind, e]; rfl⟩
theorem stat_op {o : Oper} (h : statOK o = true) : ∀ x ∈ o.op.operands, opdOK x = true := fun x hx => by
  have : (o.op.operands.toList.all opdOK && noSel o.op) = true := h
  simp only [Bool.and_eq_true] at this
  exact List.all_eq_true.1 this.1 x (by simpa using hx)
theorem armMove_pv {o : Oper} {x : Operand} (ho : o.op = .move x ∨ o.op = .assign x) (hst : statOK o = true) (h : armMove x P s qv qc g n) : PvR P s o qv g n := by
  have hx : opdOK x = true := stat_op hst x (by rcases ho with e | e <;> rw [e] <;> simp [Op.operands])
  unfold armMove at h
  rw [evK_eq _ _ _ hx, getH_eq] at h
  refine .inr ⟨s.ev x, .inl ⟨by rcases ho with e | e <;> rw [e] <;> rfl, ?_⟩, h⟩
  obtain ⟨dst, op, type, pos, after, guard⟩ := o
  rcases ho with e | e <;> (simp only at e; subst e; rfl)
theorem armLoad_ok {o : Oper} {t : TypeId} {a : Operand} (ho : o.op = .load t a) (hst : statOK o = true) (h : armLoad t a P s qv qc g n) : ArmR P s o qv qc g n := by
  have ha : opdOK a = true := stat_op hst a (by rw [ho]; simp [Op.operands])
  have hok : okOp P s.ev o.op = true := by rw [ho]; rfl
  have hm : execOp s.ev o = (Instr.loadAt t (s.ev a) >>= fun v => pure (.value v)) := by
    obtain ⟨dst, op, type, pos, after, guard⟩ := o
    simp only at ho
    subst ho
    rfl
  unfold armLoad at h
  rw [evK_eq _ _ _ ha] at h
  rcases ptrV_ok h with h | ⟨b, off, ev, h⟩
  · exact .inl h
  · rw [getH_eq, getK_eq] at h
    rcases objV_ok h with h | ⟨cs, ty, z, hg, h⟩
    · exact .inl h
    · cases ht : oneT P t with
      | true =>
        rw [ht] at h
        have h : nthK cs off (fun x => Option.rec (motive := fun _ => An) g (fun x => qv x s.h) x) n := h
        rw [nthK_eq] at h
        cases hx : cs[off]? with
        | none => rw [hx] at h; exact .inl h
        | some x =>
          rw [hx] at h
          exact arm_tree hst hok hm (by rw [ev]; exact load_one ht hg hx) h
      | false =>
        rw [ht] at h
        cases ha2 : aggT P t with
        | none => rw [ha2] at h; exact .inl h
        | some m =>
          rw [ha2] at h
          have h : dropK cs off (fun l => takeK l m fun l => qv (.agg ⟨l⟩) s.h) n := h
          rw [dropK_eq] at h
          obtain ⟨hl, h⟩ := takeK_ok h
          exact arm_tree hst hok hm (by rw [ev]; exact load_agg ha2 hg hl) h
theorem armStore_ok {o : Oper} {t : TypeId} {a x : Operand} (ho : o.op = .store t a x) (hst : statOK o = true) (h : armStore t a x P s qv qc g n) : ArmR P s o qv qc g n := by
  have ha : opdOK a = true := stat_op hst a (by rw [ho]; simp [Op.operands])
  have hx : opdOK x = true := stat_op hst x (by rw [ho]; simp [Op.operands])
  have hok : okOp P s.ev o.op = true := by rw [ho]; rfl
  have hm : execOp s.ev o = (Instr.storeAt t (s.ev a) (s.ev x) >>= fun _ => pure .skip) := by
    obtain ⟨dst, op, type, pos, after, guard⟩ := o
    simp only at ho
    subst ho
    rfl
  have fin : ∀ h1, runX P (Instr.storeAt t (s.ev a) (s.ev x)) s.h = some (.ok (), h1) → qv undef h1 n → ArmR P s o qv qc g n := fun h1 e hq =>
    .inr ⟨.skip, h1, by rw [opStep_ok hst hok, hm, runX_ok _ e]; rfl, .inr (.inl ⟨rfl, hq⟩)⟩
  unfold armStore at h
  rw [evK_eq _ _ _ ha] at h
  rcases ptrV_ok h with h | ⟨b, off, ev, h⟩
  · exact .inl h
  · rw [evK_eq _ _ _ hx, getH_eq, getK_eq] at h
    rcases objV_ok h with h | ⟨cs, ty, z, hg, h⟩
    · exact .inl h
    · rcases cellV_ok h with ⟨l, ev2, h⟩ | ⟨h1, h2, h⟩
      · cases hs : szT P t with
        | none => rw [hs] at h; exact .inl h
        | some m =>
          rw [hs] at h
          cases m with
          | zero => exact .inl h
          | succ m =>
            have h : atK cs off (overK l (m + 1)) (fun cs => setK (path b) (some (.cells ⟨cs⟩ ty z)) s.h.t fun t => withT s.h t fun h => qv undef h) n := h
            obtain ⟨h3, h4⟩ := atK_eq _ _ _ _ _ h
            obtain ⟨h5, h6, h7, h8⟩ := overK_ok h4
            rw [setK_eq, withT_eq] at h8
            exact fin _ (by rw [ev, ev2]; exact store_agg hs hg h3 h5 h6 h7) h8
      · cases hs : sizeOne P t with
        | false => rw [hs] at h; exact .inl h
        | true =>
          rw [hs] at h
          have h : lsetK cs off (s.ev x) (fun cs => setK (path b) (some (.cells ⟨cs⟩ ty z)) s.h.t fun t => withT s.h t fun h => qv undef h) n := h
          rw [lsetK_eq] at h
          by_cases hl : off < cs.length
          · rw [if_pos hl, setK_eq, withT_eq] at h
            exact fin _ (by rw [ev]; exact store_one hs hg hl h1 h2) h
          · rw [if_neg hl] at h
            exact h.elim
theorem fld_run {st : TypeId} {f off b o : Nat} (h : fldT P st f = some off) : runP P (Instr.fieldAt st (.pointer (some ⟨b, o, none⟩)) f) = some (.pointer (some ⟨b, o + off, none⟩)) := by
  unfold fldT at h; (try simp only [undQ_eq] at h)
  unfold Instr.fieldAt
  cases e : P.underlying st with
  | none => rw [e] at h; cases h
  | some d =>
    rw [e] at h
    cases d with
    | struct fs =>
      dsimp only at h
      rw [runP_bind, runP_und, e]
      simp only [Option.bind]
      cases e2 : fs[f]? with
      | none => rw [e2] at h; cases h
      | some fl =>
        rw [e2] at h
        dsimp only at h ⊢
        cases e3 : szT P fl.type with
        | none => rw [e3] at h; cases h
        | some m =>
          rw [e3] at h
          cases m with
          | zero => cases h
          | succ m =>
            cases h
            show runP P (fieldPlace ⟨b, o, none⟩ fl >>= fun a => pure (Value.pointer (some a))) = _
            have e4 : runP P (fieldPlace ⟨b, o, none⟩ fl) = some ⟨b, o + fl.offset, none⟩ := by
              unfold fieldPlace
              rw [runP_bind, szT_ok e3]
              simp only [Option.bind]
              rw [if_neg (by omega), add_none]
              rfl
            rw [runP_bind, e4]
            rfl
    | _ => cases h
theorem armField_pv {o : Oper} {st : TypeId} {x : Operand} {f : Nat} (ho : o.op = .fieldAddr st x f) (hst : statOK o = true) (h : armField st x f P s qv qc g n) : PvR P s o qv g n := by
  have hx : opdOK x = true := stat_op hst x (by rw [ho]; simp [Op.operands])
  have hok : okOp P s.ev o.op = true := by rw [ho]; rfl
  have hm : execOp s.ev o = (Instr.fieldAt st (s.ev x) f >>= fun v => pure (.value v)) := by
    obtain ⟨dst, op, type, pos, after, guard⟩ := o
    simp only at ho
    subst ho
    rfl
  unfold armField at h
  cases hf : fldT P st f with
  | none => rw [hf] at h; exact .inl h
  | some off =>
    rw [hf] at h
    dsimp only at h
    rw [evK_eq _ _ _ hx] at h
    rcases ptrV_ok h with h | ⟨b, o', ev, h⟩
    · exact .inl h
    · rw [fN_eq, getH_eq] at h
      exact .inr ⟨_, pv_tree hok hm (by rw [ev]; exact fld_run hf), h⟩
theorem armExtract_pv {o : Oper} {x : Operand} {i : Nat} (ho : o.op = .extract x i) (hst : statOK o = true) (h : armExtract x i P s qv qc g n) : PvR P s o qv g n := by
  have hx : opdOK x = true := stat_op hst x (by rw [ho]; simp [Op.operands])
  have hok : okOp P s.ev o.op = true := by rw [ho]; rfl
  have hm : execOp s.ev o = (Instr.extract (s.ev x) i >>= fun v => pure (.value v)) := by
    obtain ⟨dst, op, type, pos, after, guard⟩ := o
    simp only at ho
    subst ho
    rfl
  unfold armExtract at h
  rw [evK_eq _ _ _ hx] at h
  rcases tupV_ok h with h | ⟨l, ev, h⟩
  · exact .inl h
  · rw [nthK_eq] at h
    cases e : l[i]? with
    | none => rw [e] at h; exact .inl h
    | some v =>
      rw [e] at h
      dsimp only at h
      rw [getH_eq] at h
      exact .inr ⟨_, pv_tree hok hm (by
        rw [ev]
        unfold Instr.extract
        have : (⟨l⟩ : Array Value)[i]? = some v := by simpa using e
        simp only [this]
        rfl), h⟩
theorem armNil_pv {o : Oper} {x : Operand} (ho : o.op = .nilCheck x) (hst : statOK o = true) (h : armNil x P s qv qc g n) : PvR P s o qv g n := by
  have hx : opdOK x = true := stat_op hst x (by rw [ho]; simp [Op.operands])
  unfold armNil at h
  rw [evK_eq _ _ _ hx] at h
  rcases ptrV_ok h with h | ⟨b, o', ev, h⟩
  · exact .inl h
  · rw [getH_eq] at h
    have hok : okOp P s.ev o.op = true := by rw [ho]; simp only [okOp, ev]
    refine .inr ⟨_, .inl ⟨hok, ?_⟩, h⟩
    obtain ⟨dst, op, type, pos, after, guard⟩ := o
    simp only at ho
    subst ho
    simp only [execOp, ev]
    rfl
theorem armPick_pv {o : Oper} {c a b : Operand} (ho : o.op = .pick c a b) (hst : statOK o = true) (h : armPick c a b P s qv qc g n) : PvR P s o qv g n := by
  have hc : opdOK c = true := stat_op hst c (by rw [ho]; simp [Op.operands])
  have ha : opdOK a = true := stat_op hst a (by rw [ho]; simp [Op.operands])
  have hb : opdOK b = true := stat_op hst b (by rw [ho]; simp [Op.operands])
  have hok : okOp P s.ev o.op = true := by rw [ho]; rfl
  unfold armPick at h
  rw [evK_eq _ _ _ hc] at h
  rcases boolV_ok h with h | ⟨t, ev, h⟩
  · exact .inl h
  · rw [getH_eq] at h
    have hm : execOp s.ev o = pure (.value (if t then s.ev a else s.ev b)) := by
      obtain ⟨dst, op, type, pos, after, guard⟩ := o
      simp only at ho
      subst ho
      simp only [execOp, ev]
      rfl
    cases t with
    | true =>
      have h : evK s a (fun v => qv v s.h) n := h
      rw [evK_eq _ _ _ ha] at h
      exact .inr ⟨_, .inl ⟨hok, by rw [hm]; rfl⟩, h⟩
    | false =>
      have h : evK s b (fun v => qv v s.h) n := h
      rw [evK_eq _ _ _ hb] at h
      exact .inr ⟨_, .inl ⟨hok, by rw [hm]; rfl⟩, h⟩
end
end Go.Proofs.YtmjblbgalkjmiaaGreat.EX
/- Quick ways of operations are right: the rest, and the whole. -/
namespace Go.Proofs.YtmjblbgalkjmiaaGreat.EX
open Go
section
variable {P : Program}
variable {s : St} {qv : Value → Hp → An} {qc : FuncId → Array Value → Hp → An} {g : An} {n : Prop}
theorem asIntOf_run (k : IntKind) (m : Nat) : runP P (asIntOf (.int k (.ofNat m))) = some (k, .ofNat m) := rfl
theorem idx_slice {t : TypeId} {len z : Nat} (h : idxT P t = some (false, len, z)) {b o c l : Nat} {k : IntKind} {m : Nat} (hm : m < l) : runP P (Instr.indexAt t (.slice (some ⟨b, o, none⟩) l c) (.int k (.ofNat m))) = some (.pointer (some ⟨b, o + m * z, none⟩)) := by
  unfold idxT at h; (try simp only [undQ_eq] at h)
  unfold Instr.indexAt
  rw [runP_bind, asIntOf_run]
  simp only [Option.bind]
  cases e : P.underlying t with
  | none => rw [e] at h; cases h
  | some d =>
    rw [e] at h
    have hu : runP P (underlying t) = some d := by rw [runP_und]; exact e
    cases d with
    | array n e1 =>
      dsimp only at h
      cases e3 : szT P e1 with
      | none => rw [e3] at h; cases h
      | some _ => rw [e3] at h; cases h
    | slice e1 =>
      dsimp only at h
      cases e3 : szT P e1 with
      | none => rw [e3] at h; cases h
      | some z1 =>
        rw [e3] at h
        cases h
        rw [runP_bind, hu]
        simp only [Option.bind]
        show runP P (underlying t >>= _) = _
        rw [runP_bind, hu]
        simp only [Option.bind]
        have hc : (0 : Int) ≤ Int.ofNat m ∧ Int.ofNat m < (l : Int) := ⟨Int.natCast_nonneg m, by show (m : Int) < l; omega⟩
        rw [if_pos hc, runP_bind, szT_ok e3]
        show some (Value.pointer (some ((⟨b, o, none⟩ : Addr).add (m * z)))) = _
        rw [add_none]
    | _ => cases h
theorem idx_array {t : TypeId} {len z : Nat} (h : idxT P t = some (true, len, z)) {b o : Nat} {k : IntKind} {m : Nat} (hm : m < len) : runP P (Instr.indexAt t (.pointer (some ⟨b, o, none⟩)) (.int k (.ofNat m))) = some (.pointer (some ⟨b, o + m * z, none⟩)) := by
  unfold idxT at h; (try simp only [undQ_eq] at h)
  unfold Instr.indexAt
  rw [runP_bind, asIntOf_run]
  simp only [Option.bind]
  cases e : P.underlying t with
  | none => rw [e] at h; cases h
  | some d =>
    rw [e] at h
    have hu : runP P (underlying t) = some d := by rw [runP_und]; exact e
    cases d with
    | array n e1 =>
      dsimp only at h
      cases e3 : szT P e1 with
      | none => rw [e3] at h; cases h
      | some z1 =>
        rw [e3] at h
        cases h
        rw [runP_bind, hu]
        simp only [Option.bind]
        show runP P (underlying t >>= _) = _
        rw [runP_bind, hu]
        simp only [Option.bind]
        have hc : (0 : Int) ≤ Int.ofNat m ∧ Int.ofNat m < (len : Int) := ⟨Int.natCast_nonneg m, by show (m : Int) < len; omega⟩
        rw [if_pos hc, runP_bind, szT_ok e3]
        show some (Value.pointer (some ((⟨b, o, none⟩ : Addr).add (m * z)))) = _
        rw [add_none]
    | slice e1 =>
      dsimp only at h
      cases e3 : szT P e1 with
      | none => rw [e3] at h; cases h
      | some _ => rw [e3] at h; cases h
    | _ => cases h
theorem armIndex_pv {o : Oper} {t : TypeId} {x i : Operand} (ho : o.op = .indexAddr t x i) (hst : statOK o = true) (h : armIndex t x i P s qv qc g n) : PvR P s o qv g n := by
  have hx : opdOK x = true := stat_op hst x (by rw [ho]; simp [Op.operands])
  have hi : opdOK i = true := stat_op hst i (by rw [ho]; simp [Op.operands])
  have hok : okOp P s.ev o.op = true := by rw [ho]; rfl
  have hm : execOp s.ev o = (Instr.indexAt t (s.ev x) (s.ev i) >>= fun v => pure (.value v)) := by
    obtain ⟨dst, op, type, pos, after, guard⟩ := o
    simp only at ho
    subst ho
    rfl
  unfold armIndex at h
  cases ht : idxT P t with
  | none => rw [ht] at h; exact .inl h
  | some p =>
    obtain ⟨isA, len, z⟩ := p
    rw [ht] at h
    dsimp only at h
    rw [evK_eq _ _ _ hx, evK_eq _ _ _ hi] at h
    rcases intV_ok h with h | ⟨k, m, ev2, h⟩
    · exact .inl h
    · cases isA with
      | false =>
        dsimp only at h
        rcases sliV_ok h with h | ⟨a, l, c, ev1, h⟩
        · exact .inl h
        · cases a with
          | none => exact .inl h
          | some a =>
            obtain ⟨b, off, sp⟩ := a
            cases sp with
            | some _ => exact .inl h
            | none =>
              dsimp only at h
              cases hb : Nat.ble (Nat.succ m) l with
              | false => rw [hb] at h; exact .inl h
              | true =>
                rw [hb] at h
                dsimp only at h
                rw [fN_eq, getH_eq] at h
                exact .inr ⟨_, pv_tree hok hm (by rw [ev1, ev2]; exact idx_slice ht (Nat.le_of_ble_eq_true hb)), h⟩
      | true =>
        dsimp only at h
        rcases ptrV_ok h with h | ⟨b, off, ev1, h⟩
        · exact .inl h
        · cases hb : Nat.ble (Nat.succ m) len with
          | false => rw [hb] at h; exact .inl h
          | true =>
            rw [hb] at h
            dsimp only at h
            rw [fN_eq, getH_eq] at h
            exact .inr ⟨_, pv_tree hok hm (by rw [ev1, ev2]; exact idx_array ht (Nat.le_of_ble_eq_true hb)), h⟩
theorem armConv_pv {o : Oper} {src dst' : TypeId} {x : Operand} (ho : o.op = .convert src dst' x) (hst : statOK o = true) (h : armConv src dst' x P s qv qc g n) : PvR P s o qv g n := by
  have hx : opdOK x = true := stat_op hst x (by rw [ho]; simp [Op.operands])
  unfold armConv at h
  cases hc : cvT P src dst' with
  | none => rw [hc] at h; exact .inl h
  | some k =>
    rw [hc] at h
    dsimp only at h
    rw [evK_eq _ _ _ hx] at h
    rcases intV_ok h with h | ⟨k', m, ev, h⟩
    · exact .inl h
    · cases hb : Nat.ble (Nat.succ m) (lim k) with
      | false => rw [hb] at h; exact .inl h
      | true =>
        rw [hb] at h
        dsimp only at h
        rw [getH_eq] at h
        have hlt : m < lim k := Nat.le_of_ble_eq_true hb
        refine .inr ⟨_, .inr ⟨?_, fun y hy => ?_, ?_, rfl⟩, h⟩
        · rw [ho]
          simp only [okOp, ev, isSl, Bool.and_false]
        · rw [ho] at hy
          simp [Op.operands] at hy
          subst hy
          rw [ev]
          rfl
        · obtain ⟨dst, op, type, pos, after, guard⟩ := o
          simp only at ho
          subst ho
          show runP P (Go.convert src dst' (s.ev x) >>= fun v => pure (Next.value v)) = _
          rw [ev, runP_bind]
          have : runP P (Go.convert src dst' (.int k' (.ofNat m))) = some (.int k (.ofNat m)) := by
            unfold cvT at hc; (try simp only [undQ_eq] at hc)
            unfold Go.convert
            cases e1 : P.underlying src with
            | none => rw [e1] at hc; cases hc
            | some d1 =>
              rw [e1] at hc
              cases e2 : P.underlying dst' with
              | none => rw [e2] at hc; cases hc
              | some d2 =>
                rw [e2] at hc
                cases d2 with
                | int k2 =>
                  cases hc
                  rw [runP_bind, runP_und, e1]
                  simp only [Option.bind]
                  rw [runP_bind, runP_und, e2]
                  simp only [Option.bind]
                  show some (Value.int k (k.wrap (Int.ofNat m))) = _
                  rw [wrap_lim k m hlt]
                | _ => cases hc
          rw [this]
          rfl
theorem armUn_pv {o : Oper} {op : UnOp} {t : TypeId} {x : Operand} (ho : o.op = .unOp op t x) (hst : statOK o = true) (h : armUn op t x P s qv qc g n) : PvR P s o qv g n := by
  have hx : opdOK x = true := stat_op hst x (by rw [ho]; simp [Op.operands])
  cases op with
  | not =>
    have h : evK s x (fun v => boolV v (fun b => getH s fun h => Bool.rec (motive := fun _ => An) (qv (.bool true) h) (qv (.bool false) h) b) g) n := h
    rw [evK_eq _ _ _ hx] at h
    rcases boolV_ok h with h | ⟨b, ev, h⟩
    · exact .inl h
    · rw [getH_eq] at h
      have key : PvR P s o qv g n := by
        have h' : qv (.bool !b) s.h n := by cases b <;> exact h
        refine .inr ⟨_, .inr ⟨by rw [ho]; rfl, fun y hy => ?_, ?_, rfl⟩, h'⟩
        · rw [ho] at hy
          simp [Op.operands] at hy
          subst hy
          rw [ev]
          rfl
        · obtain ⟨dst, op, type, pos, after, guard⟩ := o
          simp only at ho
          subst ho
          show runP P (Op.unary .not (s.ev x) >>= fun v => pure (Next.value v)) = _
          rw [ev]
          rfl
      exact key
  | _ => exact .inl h
theorem newB_run {t : TypeId} {l : List Value} (h : newB t l s qv n) : qv (.pointer (some ⟨2 * s.h.n, 0, none⟩)) ⟨s.h.t.set (2 * s.h.n) (some (.cells ⟨l⟩ t (0, 0))), s.h.n + 1⟩ n := by
  have h : fN (Nat.mul 2 s.h.n) (fun b => setK (path b) (some (.cells ⟨l⟩ t (0, 0))) s.h.t fun tr => fN (Nat.succ s.h.n) fun n => qv (.pointer (some ⟨b, 0, none⟩)) ⟨tr, n⟩) n := h
  rw [fN_eq, setK_eq, fN_eq] at h
  exact h
theorem armBox_ok {o : Oper} {t : TypeId} {x : Operand} (ho : o.op = .box t x) (hst : statOK o = true) (h : armBox t x P s qv qc g n) : ArmR P s o qv qc g n := by
  have hx : opdOK x = true := stat_op hst x (by rw [ho]; simp [Op.operands])
  have hok : okOp P s.ev o.op = true := by rw [ho]; rfl
  have hm : execOp s.ev o = (Instr.box t (s.ev x) >>= fun v => pure (.value v)) := by
    obtain ⟨dst, op, type, pos, after, guard⟩ := o
    simp only at ho
    subst ho
    rfl
  unfold armBox at h
  rw [evK_eq _ _ _ hx] at h
  rcases cellV_ok h with ⟨l, ev, h⟩ | ⟨_, h2, h⟩
  · exact arm_tree hst hok hm (by rw [ev]; rfl) (newB_run h)
  · refine arm_tree hst hok hm (v := .pointer (some ⟨2 * s.h.n, 0, none⟩)) (h1 := ⟨s.h.t.set (2 * s.h.n) (some (.cells ⟨[s.ev x]⟩ t (0, 0))), s.h.n + 1⟩) ?_ (newB_run h)
    unfold Instr.box newVar
    rw [h2]
    rfl
theorem armAlloc_ok {o : Oper} {t : TypeId} (ho : o.op = .alloc t) (hst : statOK o = true) (h : armAlloc t P s qv qc g n) : ArmR P s o qv qc g n := by
  have hok : okOp P s.ev o.op = true := by rw [ho]; rfl
  have hm : execOp s.ev o = (Instr.alloc t true (.tuple #[]) >>= fun v => pure (.value v)) := by
    obtain ⟨dst, op, type, pos, after, guard⟩ := o
    simp only at ho
    subst ho
    rfl
  unfold armAlloc at h
  cases hz : zrT P t with
  | none => rw [hz] at h; exact .inl h
  | some z =>
    rw [hz] at h
    dsimp only at h
    have hz' : runP P (zeroValue t) = some z := by
      unfold zeroValue
      rw [runP_bind, runP_info]
      unfold zrT at hz; (try simp only [infoQ_eq] at hz)
      cases e : P.info? t with
      | none => rw [e] at hz; cases hz
      | some i =>
        rw [e] at hz
        have hz : i.zero = some z := hz
        simp only [Option.bind]
        rw [hz]
        rfl
    have hr : ∀ l : List Value, z.cells = ⟨l⟩ → runX P (Instr.alloc t true (.tuple #[])) s.h = some (.ok (.pointer (some ⟨2 * s.h.n, 0, none⟩)), ⟨s.h.t.set (2 * s.h.n) (some (.cells ⟨l⟩ t (0, 0))), s.h.n + 1⟩) := fun l hl => by
      unfold Instr.alloc
      rw [runX_Pb _ s.h hz']
      show runX P (newVar t z >>= fun a => pure (Value.pointer (some a))) s.h = _
      unfold newVar
      rw [hl]
      rfl
    rcases cellV_ok h with ⟨l, ev, h⟩ | ⟨_, h2, h⟩
    · exact arm_tree hst hok hm (hr l (by rw [ev]; rfl)) (newB_run h)
    · exact arm_tree hst hok hm (hr [z] h2) (newB_run h)
theorem armLen_pv {o : Oper} {as : Array Operand} {ts : Array TypeId} (ho : o.op = .call { callee := .builtin .len, args := as, argTypes := ts }) (hst : statOK o = true) (h : armLen as ts P s qv qc g n) : PvR P s o qv g n := by
  obtain ⟨l⟩ := as
  cases l with
  | nil => exact .inl h
  | cons x rest =>
    have hx : opdOK x = true := stat_op hst x (by rw [ho]; simp [Op.operands, Call.operands])
    have hok : okOp P s.ev o.op = true := by rw [ho]; rfl
    have h : Bool.rec (motive := fun _ => An) g (evK s x fun v => sliV v (fun _ n => getH s fun h => qv (.int .i64 (.ofNat n)) h) g) (lenT P ts) n := h
    cases hl : lenT P ts with
    | false => rw [hl] at h; exact .inl h
    | true =>
      rw [hl] at h
      dsimp only at h
      rw [evK_eq _ _ _ hx] at h
      rcases sliV_ok h with h | ⟨a, m, c, ev, h⟩
      · exact .inl h
      · rw [getH_eq] at h
        unfold lenT at hl; (try simp only [undQ_eq] at hl)
        cases e1 : ts[0]? with
        | none => rw [e1] at hl; cases hl
        | some t =>
          rw [e1] at hl
          dsimp only at hl
          cases e2 : P.underlying t with
          | none => rw [e2] at hl; cases hl
          | some d =>
            rw [e2] at hl
            cases d with
            | slice e =>
              have hm : execOp s.ev o = (Builtin.len_ ts o.type ((⟨x :: rest⟩ : Array Operand).map s.ev) >>= fun v => pure (.value v)) := by
                obtain ⟨dst, op, type, pos, after, guard⟩ := o
                simp only at ho
                subst ho
                rfl
              refine .inr ⟨_, pv_tree hok hm ?_, h⟩
              unfold Builtin.len_
              have e3 : ((⟨x :: rest⟩ : Array Operand).map s.ev)[0]? = some (.slice a m c) := by simp [ev]
              rw [e1, e3]
              dsimp only
              rw [runP_bind, runP_und, e2]
              rfl
            | _ => cases hl
theorem evsK_eq : ∀ (l : List Operand) (q : List Value → An), (∀ x ∈ l, opdOK x = true) → evsK s l q = q (l.map s.ev)
  | [], q, _ => rfl
  | x :: l, q, h => by
    refine (evK_eq s x (fun v => evsK s l fun vs => q (v :: vs)) (h x (by simp))).trans ?_
    rw [evsK_eq l _ fun y hy => h y (by simp [hy])]
    rfl
theorem bodyQ_eq (P : Program) (f : FuncId) : bodyQ P f = bodied P f := by
  unfold bodyQ bodied
  rw [funQ_eq]
  rfl
theorem armFn_ok (hz : Zc P) {o : Oper} {f : FuncId} {as : Array Operand} {ts : Array TypeId} (ho : o.op = .call { callee := .value (.func f), args := as, argTypes := ts }) (hst : statOK o = true) (h : armFn f as P s qv qc g n) : ArmR P s o qv qc g n := by
  obtain ⟨l⟩ := as
  have h : Bool.rec (motive := fun _ => An) g (evsK s l fun vs => getH s fun h => qc f ⟨vs⟩ h) (bodied P f) n := by rw [← bodyQ_eq]; exact h
  cases hb : bodied P f with
  | false => rw [hb] at h; exact .inl h
  | true =>
    rw [hb] at h
    dsimp only at h
    rw [evsK_eq l _ fun x hx => stat_op hst x (by rw [ho]; simp [Op.operands, Call.operands, hx]), getH_eq] at h
    have hok : okOp P s.ev o.op = true := by rw [ho]; exact hb
    obtain ⟨fn, c, h1, h2, h3⟩ := bodied_of hz.2 hb
    refine .inr ⟨.enter f ⟨l.map s.ev⟩, s.h, ?_, .inr (.inr ⟨f, _, rfl, h⟩)⟩
    rw [opStep_ok hst hok]
    obtain ⟨dst, op, type, pos, after, guard⟩ := o
    simp only at ho
    subst ho
    show runX P (callFunc f ((#[] ++ (⟨l⟩ : Array Operand).map s.ev) ++ #[])) s.h = _
    unfold callFunc
    rw [runX_Pb (a := P) _ s.h rfl, h1]
    dsimp only
    rw [h3, h2]
    show some (Except.ok (Next.enter f _), s.h) = _
    congr 3
    simp
theorem binT_eq (op : BinOp) (k : IntKind) (a b : Nat) (q : Value → An) (g : An) : binT op k a b q g = binI op k a b q g := by
  cases op with
  | sub =>
    show Bool.rec (motive := fun _ => An) g (fN (Nat.sub a b) fun c => numK k c q g) (Nat.ble b a) = (bif Nat.ble b a then fN (Nat.sub a b) fun c => numK k c q g else g)
    cases Nat.ble b a <;> rfl
  | _ => rfl
theorem pv_bin {o : Oper} {op : BinOp} {t yt : TypeId} {x y : Operand} (ho : o.op = .binOp op t x y yt) {k : IntKind} {a b : Nat} (ex : s.ev x = .int k (.ofNat a)) (ey : s.ev y = .int k (.ofNat b)) {r : Value} (hr : runP P (Go.binOp op t (.int k (.ofNat a)) (.int k (.ofNat b))) = some r) (hc : closed 64 r = true) : PV P s.ev o r := by
  obtain ⟨dst, o', type, pos, after, guard⟩ := o
  simp only at ho
  subst ho
  refine .inr ⟨by cases op <;> first | rfl | (simp only [okOp, ex, ey]; rfl), fun z hz => ?_, ?_, hc⟩
  · simp [Op.operands] at hz
    rcases hz with rfl | rfl
    · rw [ex]; rfl
    · rw [ey]; rfl
  · show runP P ((do eqGuard op t x y (s.ev x) (s.ev y); Go.binOp op t (s.ev x) (s.ev y)) >>= fun v => pure (Next.value v)) = _
    have e2 : eqGuard op t x y (.int k (.ofNat a)) (.int k (.ofNat b)) = pure () := by
      unfold eqGuard
      cases op <;> rfl
    rw [ex, ey, e2, runP_bind]
    show (runP P (Go.binOp op t (.int k (.ofNat a)) (.int k (.ofNat b)))).bind _ = _
    rw [hr]
    rfl
theorem armBin_pv {o : Oper} {op : BinOp} {t yt : TypeId} {x y : Operand} (ho : o.op = .binOp op t x y yt) (hst : statOK o = true) (h : armBin op t x y yt P s qv qc g n) : PvR P s o qv g n := by
  have hx : opdOK x = true := stat_op hst x (by rw [ho]; simp [Op.operands])
  have hy : opdOK y = true := stat_op hst y (by rw [ho]; simp [Op.operands])
  unfold armBin at h
  rw [evK_eq _ _ _ hx, evK_eq _ _ _ hy] at h
  rcases intV_ok h with h | ⟨k, a, ex, h⟩
  · exact .inl h
  · rcases intV_ok h with h | ⟨k', b, ey, h⟩
    · exact .inl h
    · cases hb : Nat.beq (kno k) (kno k') with
      | false => rw [hb] at h; exact .inl h
      | true =>
        rw [hb] at h
        dsimp only at h
        have := kno_inj hb
        subst this
        rw [binT_eq] at h
        rcases binI_ok t h with h | ⟨r, h1, h2, h3⟩
        · exact .inl h
        · rw [getH_eq] at h3
          exact .inr ⟨_, pv_bin ho ex ey h2 h1, h3⟩
end
end Go.Proofs.YtmjblbgalkjmiaaGreat.EX
/- Quick ways of operations: structs and rows put together, rows of zeros, parts of slices. -/
namespace Go.Proofs.YtmjblbgalkjmiaaGreat.EX
open Go
/-- A row of zeros. -/
def flat (zs : List Value) : Nat → List Value
  | 0 => []
  | n + 1 => zs ++ flat zs n
def appK (l : List Value) (t : List Value) (q : List Value → An) : An :=
  List.rec (motive := fun _ => (List Value → An) → An) (fun q => q t) (fun h _ ih q => ih fun s => q (h :: s)) l q
def flatK (zs : List Value) (n : Nat) (q : List Value → An) : An :=
  Nat.rec (motive := fun _ => (List Value → An) → An) (fun q => q []) (fun _ ih q => ih fun l => appK zs l q) n q
section
variable {P : Program}
theorem appK_eq : ∀ (l t : List Value) (q : List Value → An), appK l t q = q (l ++ t)
  | [], _t, _q => rfl
  | x :: l, t, q => appK_eq l t fun s => q (x :: s)
theorem flatK_eq (zs : List Value) : ∀ (n : Nat) (q : List Value → An), flatK zs n q = q (flat zs n)
  | 0, _q => rfl
  | n + 1, q => (flatK_eq zs n fun l => appK zs l q).trans (appK_eq zs (flat zs n) q)
theorem flat_length (zs : List Value) : ∀ n, (flat zs n).length = n * zs.length
  | 0 => by simp [flat]
  | n + 1 => by rw [flat, List.length_append, flat_length zs n, Nat.succ_mul, Nat.add_comm]
theorem flat_get (zs : List Value) (hz : 0 < zs.length) : ∀ (n k : Nat), k < n * zs.length → (flat zs n)[k]? = zs[k % zs.length]?
  | 0, k, h => by simp at h
  | n + 1, k, h => by
    rw [flat]
    by_cases hk : k < zs.length
    · rw [List.getElem?_append_left hk, Nat.mod_eq_of_lt hk]
    · rw [List.getElem?_append_right (by omega), flat_get zs hz n (k - zs.length) (by rw [Nat.succ_mul] at h; omega)]
      have : k % zs.length = (k - zs.length) % zs.length := by
        rw [Nat.mod_eq_sub_mod (by omega)]
      rw [this]
theorem flat_eq (zs : List Value) (hz : 0 < zs.length) (n : Nat) : ((Array.range (n * zs.length)).map fun i => (⟨zs⟩ : Array Value)[i % (⟨zs⟩ : Array Value).size]!) = ⟨flat zs n⟩ := by
  apply Array.ext
  · simp [flat_length]
  · intro i h1 h2
    simp at h1
    have h3 := flat_get zs hz n i h1
    have h4 : i < (flat zs n).length := by rw [flat_length]; exact h1
    rw [List.getElem?_eq_getElem h4] at h3
    have h5 : i % zs.length < zs.length := Nat.mod_lt _ hz
    rw [List.getElem?_eq_getElem h5] at h3
    have h6 : (flat zs n)[i] = zs[i % zs.length] := Option.some.inj h3
    simp [h5, h6]
theorem fold_over (off : Nat) : ∀ (l cs : List Value) (k : Nat), (l.zipIdx k).foldl (fun (cs : Array Value) (x : Value × Nat) => cs.setIfInBounds (off + x.2) x.1) ⟨cs⟩ = ⟨overS cs (off + k) l⟩
  | [], cs, k => rfl
  | v :: l, cs, k => by
    rw [List.zipIdx_cons, List.foldl_cons]
    have e : (⟨cs⟩ : Array Value).setIfInBounds (off + k) v = ⟨cs.set (off + k) v⟩ := by apply Array.toList_inj.1; simp
    dsimp only
    rw [e, fold_over off l (cs.set (off + k) v) (k + 1)]
    rfl
/-- Parts laid in a row, one behind the other. -/
def layK (s : St) (pl : Nat → Option (Nat × Nat)) (g : An) (ps : List (Nat × Operand)) : List Value → (List Value → An) → An :=
  List.rec (motive := fun _ => List Value → (List Value → An) → An) (fun cs q => q cs) (fun p _ ih cs q => Prod.rec (motive := fun _ => An) (fun i x => Option.rec (motive := fun _ => An) g (fun os => Prod.rec (motive := fun _ => An) (fun off size => evK s x fun v =>
    cellV v (fun l => atK cs off (overK l size) fun cs => ih cs q) (fun _ => atK cs off (overK [v] size) fun cs => ih cs q)) os) (pl i)) p) ps
theorem over_at {cs l : List Value} {off size : Nat} (h1 : off ≤ cs.length) (h2 : l.length = size) (h3 : size ≤ (cs.drop off).length) : cs.take off ++ (l ++ (cs.drop off).drop size) = overS cs off l := by
  rw [overS_eq l cs off (by simp at h3; omega)]
  simp [h2]
theorem layK_ok {s : St} {pl : Nat → Option (Nat × Nat)} {g : An} : ∀ (ps : List (Nat × Operand)) (cs : List Value) (q : List Value → An) (n : Prop), (∀ p ∈ ps, opdOK p.2 = true) → layK s pl g ps cs q n →
    g n ∨ ∃ cs', Instr.fill pl ⟨cs⟩ (ps.map fun p => (p.1, s.ev p.2)) = some ⟨cs'⟩ ∧ q cs' n
  | [], cs, q, n, _, h => .inr ⟨cs, rfl, h⟩
  | (i, x) :: ps, cs, q, n, ho, h => by
    have h : Option.rec (motive := fun _ => An) g (fun os => Prod.rec (motive := fun _ => An) (fun off size => evK s x fun v =>
      cellV v (fun l => atK cs off (overK l size) fun cs => layK s pl g ps cs q) (fun _ => atK cs off (overK [v] size) fun cs => layK s pl g ps cs q)) os) (pl i) n := h
    cases hp : pl i with
    | none => rw [hp] at h; exact .inl h
    | some os =>
      obtain ⟨off, size⟩ := os
      rw [hp] at h
      dsimp only at h
      rw [evK_eq _ _ _ (ho (i, x) (by simp))] at h
      have key : ∀ l, (s.ev x).cells = ⟨l⟩ → atK cs off (overK l size) (fun cs => layK s pl g ps cs q) n → g n ∨ ∃ cs', Instr.fill pl ⟨cs⟩ (((i, x) :: ps).map fun p => (p.1, s.ev p.2)) = some ⟨cs'⟩ ∧ q cs' n := fun l hl h => by
        obtain ⟨h1, h2⟩ := atK_eq _ _ _ _ _ h
        obtain ⟨h3, h4, _, h6⟩ := overK_ok h2
        rw [over_at h1 h3 h4] at h6
        rcases layK_ok ps _ q n (fun p hp => ho p (by simp [hp])) h6 with h | ⟨cs', h7, h8⟩
        · exact .inl h
        · refine .inr ⟨cs', ?_, h8⟩
          rw [List.map_cons]
          unfold Instr.fill
          rw [hp]
          dsimp only
          rw [hl]
          have hsz : (⟨l⟩ : Array Value).size = size := h3
          have hcs : (⟨cs⟩ : Array Value).size = cs.length := rfl
          simp at h4
          rw [hsz, hcs, if_neg (by simp; omega)]
          have := fold_over off l cs 0
          have e2 : (⟨l⟩ : Array Value).zipIdx.foldl (fun cs (x : Value × Nat) => cs.setIfInBounds (off + x.2) x.1) (⟨cs⟩ : Array Value) = ⟨overS cs off l⟩ := by
            rw [← Array.foldl_toList]
            simpa using this
          rw [show ((⟨l⟩ : Array Value).zipIdx.foldl (fun cs (c, j) => cs.setIfInBounds (off + j) c) (⟨cs⟩ : Array Value)) = ⟨overS cs off l⟩ from e2]
          exact h7
      rcases cellV_ok h with ⟨l, ev, h⟩ | ⟨_, h2, h⟩
      · exact key l (by rw [ev]; rfl) h
      · exact key [s.ev x] (by rw [h2]) h
end
end Go.Proofs.YtmjblbgalkjmiaaGreat.EX
/- Quick ways of operations: more of them. -/
namespace Go.Proofs.YtmjblbgalkjmiaaGreat.EX
open Go
section
variable {P : Program}
variable {s : St} {qv : Value → Hp → An} {qc : FuncId → Array Value → Hp → An} {g : An} {n : Prop}
/-! ### Structs and arrays put together -/
def placesT (P : Program) : List Field → Option (List (Nat × Nat))
  | [] => some []
  | f :: fs => match szT P f.type with
    | some z => match placesT P fs with
      | some l => some ((f.offset, z) :: l)
      | none => none
    | none => none
def bldT (P : Program) (t : TypeId) : Option (Nat → Option (Nat × Nat)) :=
  match undQ P t with
  | some (.struct fs) => match placesT P fs.toList with
    | some l => some fun i => l[i]?
    | none => none
  | some (.array _ e) => match szT P e with
    | some z => some fun i => some (i * z, z)
    | none => none
  | _ => none
def armBuild (t : TypeId) (ps : Array (Nat × Operand)) : ArmT := fun P s qv _ g => Option.rec (motive := fun _ => An) g (fun pl => Option.rec (motive := fun _ => An) g (fun z => cellV z (fun zs => layK s pl g ps.toList zs fun cs => getH s fun h => qv (.agg ⟨cs⟩) h) (fun _ => g)) (zrT P t)) (bldT P t)
theorem places_run : ∀ (fs : List Field) (l : List (Nat × Nat)), placesT P fs = some l → runP P (fs.mapM fun f => do pure (f.offset, ← sizeOf f.type)) = some l
  | [], l, h => by cases h; rw [List.mapM_nil]; rfl
  | f :: fs, l, h => by
    unfold placesT at h
    cases e1 : szT P f.type with
    | none => rw [e1] at h; cases h
    | some z =>
      rw [e1] at h
      dsimp only at h
      cases e2 : placesT P fs with
      | none => rw [e2] at h; cases h
      | some l2 =>
        rw [e2] at h
        cases h
        rw [List.mapM_cons, runP_bind, runP_bind, szT_ok e1]
        show runP P ((fs.mapM fun f => (do pure (f.offset, ← sizeOf f.type) : Sem (Nat × Nat))) >>= fun l => pure ((f.offset, z) :: l)) = _
        rw [runP_bind, places_run fs l2 e2]
        rfl
theorem zr_run {t : TypeId} {z : Value} (hz : zrT P t = some z) : runP P (zeroValue t) = some z := by
  unfold zeroValue
  rw [runP_bind, runP_info]
  unfold zrT at hz; (try simp only [infoQ_eq] at hz)
  cases e : P.info? t with
  | none => rw [e] at hz; cases hz
  | some i =>
    rw [e] at hz
    have hz : i.zero = some z := hz
    simp only [Option.bind]
    rw [hz]
    rfl
theorem build_run {t : TypeId} {pl : Nat → Option (Nat × Nat)} {z : Value} {zs cs : List Value} {ps : Array (Nat × Value)} (h1 : bldT P t = some pl) (h2 : zrT P t = some z) (h3 : z.cells = ⟨zs⟩) (h4 : Instr.fill pl ⟨zs⟩ ps.toList = some ⟨cs⟩) : runP P (Instr.build t ps) = some (.agg ⟨cs⟩) := by
  unfold Instr.build
  rw [runP_bind, zr_run h2]
  simp only [Option.bind]
  rw [runP_bind, runP_und]
  unfold bldT at h1; (try simp only [undQ_eq] at h1)
  cases e : P.underlying t with
  | none => rw [e] at h1; cases h1
  | some d =>
    rw [e] at h1
    cases d with
    | struct fs =>
      dsimp only at h1
      cases e2 : placesT P fs.toList with
      | none => rw [e2] at h1; cases h1
      | some l =>
        rw [e2] at h1
        cases h1
        simp only [Option.bind]
        rw [runP_bind]
        have e3 : runP P (fs.mapM fun f => do pure (f.offset, ← sizeOf f.type)) = some ⟨l⟩ := by
          rw [Array.mapM_eq_mapM_toList]
          show runP P ((fs.toList.mapM fun f => do pure (f.offset, ← sizeOf f.type)) >>= fun l => pure l.toArray) = _
          rw [runP_bind, places_run _ _ e2]
          rfl
        rw [e3]
        simp only [Option.bind]
        have e4 : (fun i : Nat => (⟨l⟩ : Array (Nat × Nat))[i]?) = fun i => l[i]? := by funext i; simp
        rw [e4, h3, h4]
        rfl
    | array m e2 =>
      dsimp only at h1
      cases e3 : szT P e2 with
      | none => rw [e3] at h1; cases h1
      | some z2 =>
        rw [e3] at h1
        cases h1
        simp only [Option.bind]
        rw [runP_bind, szT_ok e3]
        simp only [Option.bind]
        rw [h3, h4]
        rfl
    | _ => cases h1
theorem armBuild_pv {o : Oper} {t : TypeId} {ps : Array (Nat × Operand)} (ho : o.op = .build t ps) (hst : statOK o = true) (h : armBuild t ps P s qv qc g n) : PvR P s o qv g n := by
  have hops : ∀ p ∈ ps.toList, opdOK p.2 = true := fun p hp => stat_op hst p.2 (by rw [ho]; simp [Op.operands]; exact ⟨p.1, by simpa using hp⟩)
  have hok : okOp P s.ev o.op = true := by rw [ho]; rfl
  have hm : execOp s.ev o = (Instr.build t (ps.map fun (i, x) => (i, s.ev x)) >>= fun v => pure (.value v)) := by
    obtain ⟨dst, op, type, pos, after, guard⟩ := o
    simp only at ho
    subst ho
    rfl
  unfold armBuild at h
  cases h1 : bldT P t with
  | none => rw [h1] at h; exact .inl h
  | some pl =>
    rw [h1] at h
    dsimp only at h
    cases h2 : zrT P t with
    | none => rw [h2] at h; exact .inl h
    | some z =>
      rw [h2] at h
      dsimp only at h
      rcases cellV_ok h with ⟨zs, rfl, h⟩ | ⟨_, _, h⟩
      · rcases layK_ok ps.toList zs _ n hops h with h | ⟨cs, h4, h⟩
        · exact .inl h
        · rw [getH_eq] at h
          exact .inr ⟨_, pv_tree hok hm (build_run h1 h2 rfl (by simpa using h4)), h⟩
      · exact .inl h
/-! ### Rows that are made -/
/-- Two trees that come to the same, whatever the heap. -/
def Sim (P : Program) {α : Type} (m m' : Sem α) : Prop := (∀ h, runX P m h = runX P m' h) ∧ ∀ g o, runN P m g o = runN P m' g o
theorem Sim.pb {α β : Type} {m : Sem α} {a : α} (f : α → Sem β) (h : runP P m = some a) : Sim P (m >>= f) (f a) :=
  ⟨fun hp => runX_Pb f hp h, fun g o => by rw [runN_bind, runN_P _ _ g o h]⟩
theorem Sim.trans {α : Type} {a b c : Sem α} (h : Sim P a b) (k : Sim P b c) : Sim P a c := ⟨fun hp => (h.1 hp).trans (k.1 hp), fun g o => (h.2 g o).trans (k.2 g o)⟩
/-- A row that is made of zeros: the elements' type, their size, a zero's cells. -/
def rowT (P : Program) (t : TypeId) : Option (TypeId × Nat × Nat × List Value) :=
  match undQ P t with
  | some (.slice e) => match infoQ P e with
    | some i => match i.zero with
      | some z => bif Nat.beq z.cells.toList.length i.size && Nat.ble 1 i.size then some (e, i.bytes, i.size, z.cells.toList) else none
      | none => none
    | none => none
  | _ => none
theorem rowT_ok {t e : TypeId} {by_ sz : Nat} {zs : List Value} (h : rowT P t = some (e, by_, sz, zs)) : P.underlying t = some (.slice e) ∧ ∃ i, P.info? e = some i ∧ i.bytes = by_ ∧ i.size = sz ∧ zs.length = sz ∧ 1 ≤ sz ∧ ∃ z, i.zero = some z ∧ z.cells = ⟨zs⟩ := by
  unfold rowT at h; (try simp only [undQ_eq, infoQ_eq] at h)
  cases e1 : P.underlying t with
  | none => rw [e1] at h; cases h
  | some d =>
    rw [e1] at h
    cases d with
    | slice e' =>
      dsimp only at h
      cases e2 : P.info? e' with
      | none => rw [e2] at h; cases h
      | some i =>
        rw [e2] at h
        dsimp only at h
        cases e3 : i.zero with
        | none => rw [e3] at h; cases h
        | some z =>
          rw [e3] at h
          dsimp only at h
          cases e4 : (Nat.beq z.cells.toList.length i.size && Nat.ble 1 i.size) with
          | false => rw [e4] at h; cases h
          | true =>
            rw [e4] at h
            cases h
            simp only [Bool.and_eq_true] at e4
            exact ⟨rfl, i, e2, rfl, rfl, Nat.eq_of_beq_eq_true e4.1, Nat.le_of_ble_eq_true e4.2, z, e3, rfl⟩
    | _ => cases h
theorem flat_row {zs : List Value} {sz : Nat} (h1 : zs.length = sz) (h2 : 1 ≤ sz) (c : Nat) : ((Array.range (c * sz)).map ((⟨zs⟩ : Array Value)[· % (⟨zs⟩ : Array Value).size]!)) = ⟨flat zs c⟩ := by
  subst h1
  exact flat_eq zs h2 c
theorem make_sim {t e : TypeId} {by_ sz : Nat} {zs : List Value} (h : rowT P t = some (e, by_, sz, zs)) {k k' : IntKind} {a b : Nat} (h1 : a ≤ b) (h2 : 1 ≤ b) (h3 : by_ * b ≤ 140737488355328) (h4 : b < 4611686018427387904) :
    Sim P (Instr.makeSlice t (.int k (.ofNat a)) (.int k' (.ofNat b))) (newRow e ⟨flat zs b⟩ >>= fun x => pure (.slice (some x) a b)) := by
  obtain ⟨q1, i, q2, q3, q4, q5, q6, z, q7, q8⟩ := rowT_ok h
  unfold Instr.makeSlice
  refine (Sim.pb _ (by rw [runP_und]; exact q1)).trans ?_
  refine (Sim.pb (a := Int.ofNat a) _ rfl).trans ?_
  refine (Sim.pb (a := Int.ofNat b) _ rfl).trans ?_
  refine (Sim.pb _ (by rw [runP_info]; exact q2)).trans ?_
  have w1 : IntKind.i64.wrap (Int.ofNat a) = Int.ofNat a := wrap_lim .i64 a (by show a < 9223372036854775808; omega)
  have w2 : IntKind.i64.wrap (Int.ofNat b) = Int.ofNat b := wrap_lim .i64 b (by show b < 9223372036854775808; omega)
  have hb : ((i.bytes : Int) * (b : Int)) = ((by_ * b : Nat) : Int) := by rw [q3, Int.natCast_mul]
  rw [w1, w2]
  have c1 : (decide (Int.ofNat b < 0) || decide ((i.bytes : Int) * Int.ofNat b > 2 ^ 48) || decide (Int.ofNat a < 0) || decide (Int.ofNat a > Int.ofNat b)) = false := by
    have e1 : ¬ ((b : Int) < 0) := by omega
    have e2 : ¬ ((i.bytes : Int) * (b : Int) > 2 ^ 48) := by rw [hb]; omega
    have e3 : ¬ ((a : Int) < 0) := by omega
    have e4 : ¬ ((a : Int) > (b : Int)) := by omega
    show (decide ((b : Int) < 0) || decide ((i.bytes : Int) * (b : Int) > 2 ^ 48) || decide ((a : Int) < 0) || decide ((a : Int) > (b : Int))) = false
    rw [decide_eq_false e1, decide_eq_false e2, decide_eq_false e3, decide_eq_false e4]
    rfl
  dsimp only
  rw [if_neg (by rw [c1]; decide)]
  refine (Sim.pb (a := ()) _ ?_).trans ?_
  · unfold askRoom
    split <;> rfl
  have hn : (Int.ofNat b).toNat = b := rfl
  rw [hn]
  refine (Sim.pb (a := i.size) _ (by unfold sizeOf; rw [runP_bind, runP_info, q2]; rfl)).trans ?_
  have hne : ¬ (b * i.size = 0) := by
    rw [q4]
    intro q
    rcases Nat.mul_eq_zero.1 q with q | q <;> omega
  rw [if_neg hne]
  have hzr : runP P (zeroValue e) = some z := zr_run (by unfold zrT; rw [infoQ_eq, q2]; exact q7)
  refine (Sim.pb (a := z) _ hzr).trans ?_
  refine (Sim.pb (a := z.cells) _ rfl).trans ?_
  rw [q8, q4, flat_row q5 q6 b]
  exact ⟨fun _ => rfl, fun _ _ => rfl⟩
theorem bs_sim {t e : TypeId} {by_ sz len : Nat} {zs cs : List Value} (h : rowT P t = some (e, by_, sz, zs)) (h1 : 1 ≤ len) (h2 : len * sz ≤ 16777216) {ps : Array (Nat × Value)} (h3 : Instr.fill (fun i => some (i * sz, sz)) ⟨flat zs len⟩ ps.toList = some ⟨cs⟩) :
    Sim P (Instr.buildSlice t len ps) (newRow e ⟨cs⟩ >>= fun x => pure (.slice (some x) len len)) := by
  obtain ⟨q1, i, q2, q3, q4, q5, q6, z, q7, q8⟩ := rowT_ok h
  unfold Instr.buildSlice
  refine (Sim.pb _ (by rw [runP_und]; exact q1)).trans ?_
  refine (Sim.pb (a := i.size) _ (by unfold sizeOf; rw [runP_bind, runP_info, q2]; rfl)).trans ?_
  have hne : ¬ (len * i.size = 0) := by
    rw [q4]
    intro q
    rcases Nat.mul_eq_zero.1 q with q | q <;> omega
  have hle : ¬ (len * i.size > 2 ^ 24) := by rw [q4]; omega
  rw [if_neg hle, if_neg hne]
  have hzr : runP P (zeroValue e) = some z := zr_run (by unfold zrT; rw [infoQ_eq, q2]; exact q7)
  refine (Sim.pb (a := z) _ hzr).trans ?_
  refine (Sim.pb (a := z.cells) _ rfl).trans ?_
  rw [q8, q4]
  dsimp only
  rw [flat_row q5 q6 len, h3]
  exact ⟨fun _ => rfl, fun _ _ => rfl⟩
/-- Made: the row, and the slice that is answered. -/
def newS (e : TypeId) (l : List Value) (a b : Nat) (s : St) (qv : Value → Hp → An) : An := getH s fun h => Hp.rec (motive := fun _ => An) (fun tr n => fN (Nat.mul 2 n) fun blk => setK (path blk) (some (.cells ⟨l⟩ e (0, 0))) tr fun tr => fN (Nat.succ n) fun n => qv (.slice (some ⟨blk, 0, none⟩) a b) ⟨tr, n⟩) h
theorem newS_run {e : TypeId} {l : List Value} {a b : Nat} (h : newS e l a b s qv n) : qv (.slice (some ⟨2 * s.h.n, 0, none⟩) a b) ⟨s.h.t.set (2 * s.h.n) (some (.cells ⟨l⟩ e (0, 0))), s.h.n + 1⟩ n := by
  have h : fN (Nat.mul 2 s.h.n) (fun blk => setK (path blk) (some (.cells ⟨l⟩ e (0, 0))) s.h.t fun tr => fN (Nat.succ s.h.n) fun n => qv (.slice (some ⟨blk, 0, none⟩) a b) ⟨tr, n⟩) n := h
  rw [fN_eq, setK_eq, fN_eq] at h
  exact h
/-- Rows by a way of making blocks. -/
def makeG (t : TypeId) (l c : Operand) (P : Program) (s : St) (mk : TypeId → List Value → Nat → Nat → An) (g : An) : An :=
  Option.rec (motive := fun _ => An) g (fun p => Prod.rec (motive := fun _ => An) (fun e p => Prod.rec (motive := fun _ => An) (fun by_ p => Prod.rec (motive := fun _ => An) (fun _ zs => evK s l fun u => evK s c fun v => intV u (fun _ a => intV v (fun _ b =>
    Bool.rec (motive := fun _ => An) g (Bool.rec (motive := fun _ => An) g (Bool.rec (motive := fun _ => An) g (Bool.rec (motive := fun _ => An) g (flatK zs b fun row => mk e row a b) (Nat.ble (Nat.succ b) 4611686018427387904)) (Nat.ble (Nat.mul by_ b) 140737488355328)) (Nat.ble 1 b)) (Nat.ble a b)) g) g) p) p) p) (rowT P t)
theorem makeG_ok {t : TypeId} {l c : Operand} (hl : opdOK l = true) (hc : opdOK c = true) {mk : TypeId → List Value → Nat → Nat → An} (h : makeG t l c P s mk g n) : g n ∨ ∃ e row a b, Sim P (Instr.makeSlice t (s.ev l) (s.ev c)) (newRow e ⟨row⟩ >>= fun x => pure (.slice (some x) a b)) ∧ mk e row a b n := by
  unfold makeG at h
  cases hr : rowT P t with
  | none => rw [hr] at h; exact .inl h
  | some p =>
    obtain ⟨e, by_, sz, zs⟩ := p
    rw [hr] at h
    dsimp only at h
    rw [evK_eq _ _ _ hl, evK_eq _ _ _ hc] at h
    rcases intV_ok h with h | ⟨k, a, e1, h⟩
    · exact .inl h
    · rcases intV_ok h with h | ⟨k', b, e2, h⟩
      · exact .inl h
      · cases h1 : Nat.ble a b with
        | false => rw [h1] at h; exact .inl h
        | true =>
          rw [h1] at h
          dsimp only at h
          cases h2 : Nat.ble 1 b with
          | false => rw [h2] at h; exact .inl h
          | true =>
            rw [h2] at h
            dsimp only at h
            cases h3 : Nat.ble (Nat.mul by_ b) 140737488355328 with
            | false => rw [h3] at h; exact .inl h
            | true =>
              rw [h3] at h
              dsimp only at h
              cases h4 : Nat.ble (Nat.succ b) 4611686018427387904 with
              | false => rw [h4] at h; exact .inl h
              | true =>
                rw [h4] at h
                dsimp only at h
                rw [flatK_eq] at h
                exact .inr ⟨e, _, a, b, by rw [e1, e2]; exact make_sim hr (Nat.le_of_ble_eq_true h1) (Nat.le_of_ble_eq_true h2) (Nat.le_of_ble_eq_true h3) (Nat.le_of_ble_eq_true h4), h⟩
def rowsT (P : Program) (t : TypeId) (len : Nat) : Option (TypeId × Nat × List Value) :=
  match rowT P t with
  | some (e, _, sz, zs) => bif Nat.ble 1 len && Nat.ble (Nat.mul len sz) 16777216 then some (e, sz, flat zs len) else none
  | none => none
def buildG (t : TypeId) (len : Nat) (ps : Array (Nat × Operand)) (P : Program) (s : St) (mk : TypeId → List Value → Nat → Nat → An) (g : An) : An :=
  Option.rec (motive := fun _ => An) g (fun p => Prod.rec (motive := fun _ => An) (fun e p => Prod.rec (motive := fun _ => An) (fun sz row => layK s (fun i => some (i * sz, sz)) g ps.toList row fun cs => mk e cs len len) p) p) (rowsT P t len)
theorem buildG_ok {t : TypeId} {len : Nat} {ps : Array (Nat × Operand)} (ho : ∀ p ∈ ps.toList, opdOK p.2 = true) {mk : TypeId → List Value → Nat → Nat → An} (h : buildG t len ps P s mk g n) : g n ∨ ∃ e row, Sim P (Instr.buildSlice t len (ps.map fun (i, x) => (i, s.ev x))) (newRow e ⟨row⟩ >>= fun x => pure (.slice (some x) len len)) ∧ mk e row len len n := by
  unfold buildG at h
  cases hr : rowsT P t len with
  | none => rw [hr] at h; exact .inl h
  | some p =>
    obtain ⟨e, sz, row⟩ := p
    rw [hr] at h
    dsimp only at h
    rcases layK_ok ps.toList row _ n ho h with h5 | ⟨cs, h4, h5⟩
    · exact .inl h5
    · unfold rowsT at hr
      cases e1 : rowT P t with
      | none => rw [e1] at hr; cases hr
      | some p =>
        obtain ⟨e', by_, sz', zs⟩ := p
        rw [e1] at hr
        dsimp only at hr
        cases e2 : (Nat.ble 1 len && Nat.ble (Nat.mul len sz') 16777216) with
        | false => rw [e2] at hr; cases hr
        | true =>
          rw [e2] at hr
          cases hr
          simp only [Bool.and_eq_true] at e2
          exact .inr ⟨e, cs, bs_sim e1 (Nat.le_of_ble_eq_true e2.1) (Nat.le_of_ble_eq_true e2.2) (by simpa using h4), h5⟩
def armMake (t : TypeId) (l c : Operand) : ArmT := fun P s qv _ g => makeG t l c P s (fun e row a b => newS e row a b s qv) g
def armBuildS (t : TypeId) (len : Nat) (ps : Array (Nat × Operand)) : ArmT := fun P s qv _ g => buildG t len ps P s (fun e row a b => newS e row a b s qv) g
theorem sim_new {m : Sem Value} {e : TypeId} {row : List Value} {a b : Nat} (h : Sim P m (newRow e ⟨row⟩ >>= fun x => pure (.slice (some x) a b))) (hp : Hp) : runX P m hp = some (.ok (.slice (some ⟨2 * hp.n, 0, none⟩) a b), ⟨hp.t.set (2 * hp.n) (some (.cells ⟨row⟩ e (0, 0))), hp.n + 1⟩) := (h.1 hp).trans rfl
theorem sim_newN {m : Sem Value} {e : TypeId} {row : List Value} {a b : Nat} (h : Sim P m (newRow e ⟨row⟩ >>= fun x => pure (.slice (some x) a b))) (blk : Nat) : runN P m blk none = some (.slice (some ⟨blk, 0, none⟩) a b, some (.cells ⟨row⟩ e (0, 0))) := (h.2 blk none).trans rfl
theorem armMake_ok {o : Oper} {t : TypeId} {l c : Operand} (ho : o.op = .makeSlice t l c) (hst : statOK o = true) (h : armMake t l c P s qv qc g n) : ArmR P s o qv qc g n := by
  have hl : opdOK l = true := stat_op hst l (by rw [ho]; simp [Op.operands])
  have hc : opdOK c = true := stat_op hst c (by rw [ho]; simp [Op.operands])
  have hok : okOp P s.ev o.op = true := by rw [ho]; rfl
  have hm : execOp s.ev o = (Instr.makeSlice t (s.ev l) (s.ev c) >>= fun v => pure (.value v)) := by
    obtain ⟨dst, op, type, pos, after, guard⟩ := o
    simp only at ho
    subst ho
    rfl
  rcases makeG_ok hl hc h with h | ⟨e, row, a, b, h1, h⟩
  · exact .inl h
  · exact arm_tree hst hok hm (sim_new h1 s.h) (newS_run h)
theorem armBuildS_ok {o : Oper} {t : TypeId} {len : Nat} {ps : Array (Nat × Operand)} (ho : o.op = .buildSlice t len ps) (hst : statOK o = true) (h : armBuildS t len ps P s qv qc g n) : ArmR P s o qv qc g n := by
  have hops : ∀ p ∈ ps.toList, opdOK p.2 = true := fun p hp => stat_op hst p.2 (by rw [ho]; simp [Op.operands]; exact ⟨p.1, by simpa using hp⟩)
  have hok : okOp P s.ev o.op = true := by rw [ho]; rfl
  have hm : execOp s.ev o = (Instr.buildSlice t len (ps.map fun (i, x) => (i, s.ev x)) >>= fun v => pure (.value v)) := by
    obtain ⟨dst, op, type, pos, after, guard⟩ := o
    simp only at ho
    subst ho
    rfl
  rcases buildG_ok hops h with h | ⟨e, row, h1, h⟩
  · exact .inl h
  · exact arm_tree hst hok hm (sim_new h1 s.h) (newS_run h)
end
end Go.Proofs.YtmjblbgalkjmiaaGreat.EX
