/- Quick ways of operations: appends. -/
import Derived.Test.YtmjblbgalkjmiaaGreatBY7
namespace Go.Proofs.YtmjblbgalkjmiaaGreat.EX
open Go
def rdK (a : Option Addr) (k : Nat) (h : Hp) (q : List Value → An) (g : An) : An :=
  Option.rec (motive := fun _ => An) (Nat.rec (motive := fun _ => An) (q []) (fun _ _ => g) k) (fun a => Addr.rec (motive := fun _ => An) (fun b o sp => Option.rec (motive := fun _ => An) (getK (path b) h.t fun ob => objV ob (fun cs _ _ => dropK cs o fun l => takeK l k q) g) (fun _ => g) sp) a) a
def oneAllK (l : List Value) (y : An) : An := List.rec (motive := fun _ => An) y (fun x _ ih => oneV x ih) l
def lenK (l : List Value) : Nat → An → An :=
  List.rec (motive := fun _ => Nat → An → An) (fun n y => Nat.rec (motive := fun _ => An) y (fun _ _ => FF) n) (fun _ _ ih n y => Nat.rec (motive := fun _ => An) FF (fun p _ => ih p y) n) l
def appT (P : Program) (ts : Array TypeId) : Option (TypeId × Nat × Nat) :=
  match ts[0]? with
  | some st => match ts[1]? with
    | some xt => match undQ P st with
      | some (.slice e) => match undQ P xt with
        | some (.slice _) => match infoQ P e with
          | some i => match i.zero with
            | some z => bif Nat.beq z.cells.size i.size && Nat.ble 1 i.size then some (e, i.size, i.bytes) else none
            | none => none
          | none => none
        | _ => none
      | _ => none
    | none => none
  | none => none
/-- Within what there is. -/
def appA (base : Option Addr) (n c m size : Nat) (new : List Value) (h : Hp) (qv : Value → Hp → An) (g : An) : An :=
  Option.rec (motive := fun _ => An) g (fun a => Addr.rec (motive := fun _ => An) (fun b o sp => Option.rec (motive := fun _ => An) (Nat.rec (motive := fun _ => An) g (fun _ _ => getK (path b) h.t fun ob => objV ob (fun cs ty z =>
    atK cs (Nat.add o (Nat.mul n size)) (overK new (Nat.mul m size)) fun cs => setK (path b) (some (.cells ⟨cs⟩ ty z)) h.t fun t => withT h t fun h => fN (Nat.add n m) fun nm => qv (.slice (some ⟨b, o, none⟩) nm c) h) g) (Nat.mul m size)) (fun _ => g) sp) a) base
def growK (e : TypeId) (n m : Nat) (old new : List Value) (d : Option Nat) (h : Hp) (qv : Value → Hp → An) : An :=
  appK old new fun row => fN (Nat.add n m) fun nm => fN (Nat.succ (Nat.mul 2 h.n)) fun blk => fN (Nat.add h.n 6) fun n4 => Option.rec (motive := fun _ => An) (setK (path blk) (some (.cells ⟨row⟩ e (0, 0))) h.t fun t => qv (.slice (some ⟨blk, 0, none⟩) nm nm) ⟨t, n4⟩)
    (fun b => setK (path b) none h.t fun t => setK (path blk) (some (.cells ⟨row⟩ e (0, 0))) t fun t => qv (.slice (some ⟨blk, 0, none⟩) nm nm) ⟨t, n4⟩) d
/-- Rows that aren't marked. -/
def zK (z : Nat × Nat) (y g : An) : An := Prod.rec (motive := fun _ => An) (fun a b => Nat.rec (motive := fun _ => An) (Nat.rec (motive := fun _ => An) y (fun _ _ => g) b) (fun _ _ => g) a) z
theorem zK_ok {z : Nat × Nat} {y g : An} {n : Prop} (h : zK z y g n) : g n ∨ (z = (0, 0) ∧ y n) := by
  obtain ⟨a, b⟩ := z
  cases a with
  | zero =>
    cases b with
    | zero => exact .inr ⟨rfl, h⟩
    | succ b => exact .inl h
  | succ a => exact .inl h
/-- Beyond it. -/
def appBK (e : TypeId) (size by_ : Nat) (base : Option Addr) (n c m : Nat) (new : List Value) (h : Hp) (qv : Value → Hp → An) (g : An) : An :=
  Bool.rec (motive := fun _ => An) g (Option.rec (motive := fun _ => An) (Nat.rec (motive := fun _ => An) (growK e n m [] new none h qv) (fun _ _ => g) (Nat.mul n size)) (fun a => Addr.rec (motive := fun _ => An) (fun b o sp => Option.rec (motive := fun _ => An)
    (Bool.rec (motive := fun _ => An) (Bool.rec (motive := fun _ => An) g (Bool.rec (motive := fun _ => An) g (Bool.rec (motive := fun _ => An) g (getK (path b) h.t fun ob => objV ob (fun cs ty z => zK z (Bool.rec (motive := fun _ => An) g (lenK cs (Nat.mul c size) (takeK cs (Nat.mul n size) fun old => growK e n m old new (some b) h qv)) (Nat.beq ty e)) g) g) (Nat.ble n c)) (Nat.ble 1 c)) (Nat.beq o 0))
      (rdK (some ⟨b, o, none⟩) (Nat.mul n size) h (fun old => growK e n m old new none h qv) g) (Nat.beq (Nat.mod b 2) 0)) (fun _ => g) sp) a) base) (Nat.ble (Nat.mul (Nat.mul 2 (Nat.add n m)) (Nat.succ by_)) 281474976710656)
def armApp2 (a0 a1 : Operand) (ts : Array TypeId) : ArmT := fun P s qv _ g => Option.rec (motive := fun _ => An) g (fun p => Prod.rec (motive := fun _ => An) (fun e p => Prod.rec (motive := fun _ => An) (fun size by_ => evK s a0 fun v => evK s a1 fun u => slcV v (fun base n c => slcV u (fun xb m _ => getH s fun h =>
  rdK xb (Nat.mul m size) h (fun new => oneAllK new (Bool.rec (motive := fun _ => An) (appBK e size by_ base n c m new h qv g) (appA base n c m size new h qv g) (Nat.ble (Nat.add n m) c))) g) g) g) p) p) (appT P ts)
def armApp (as : Array Operand) (ts : Array TypeId) : ArmT := Array.rec (motive := fun _ => ArmT) (fun l => List.rec (motive := fun _ => ArmT) noArm (fun a0 l _ => List.rec (motive := fun _ => ArmT) noArm (fun a1 l _ => List.rec (motive := fun _ => ArmT) (armApp2 a0 a1 ts) (fun _ _ _ => noArm) l) l) l) as
section
variable {P : Program}
variable {s : St} {qv : Value → Hp → An} {qc : FuncId → Array Value → Hp → An} {g : An} {n : Prop}
theorem oneAllK_ok : ∀ {l : List Value} {y : An} {n : Prop}, oneAllK l y n → l.all oneC = true ∧ y n
  | [], y, n, h => ⟨rfl, h⟩
  | x :: l, y, n, h => by
    obtain ⟨h1, h2⟩ := oneV_ok (show oneV x (oneAllK l y) n from h)
    obtain ⟨h3, h4⟩ := oneAllK_ok h2
    exact ⟨by rw [List.all_cons, h1, h3]; rfl, h4⟩
theorem lenK_ok : ∀ {l : List Value} {k : Nat} {y : An} {n : Prop}, lenK l k y n → l.length = k ∧ y n
  | [], 0, y, n, h => ⟨rfl, h⟩
  | [], k + 1, y, n, h => h.elim
  | x :: l, 0, y, n, h => h.elim
  | x :: l, k + 1, y, n, h => by
    obtain ⟨h1, h2⟩ := lenK_ok (show lenK l k y n from h)
    exact ⟨by simp [h1], h2⟩
/-- What was read of a row. -/
def RdR (a : Option Addr) (k : Nat) (h : Hp) (l : List Value) : Prop := l.length = k ∧ ((a = none ∧ l = []) ∨ ∃ b o cs ty z, a = some ⟨b, o, none⟩ ∧ h.t.get b = some (.cells ⟨cs⟩ ty z) ∧ k ≤ (cs.drop o).length ∧ l = (cs.drop o).take k)
theorem rdK_ok {a : Option Addr} {k : Nat} {h : Hp} {q : List Value → An} {g : An} {n : Prop} (hh : rdK a k h q g n) : g n ∨ ∃ l, RdR a k h l ∧ q l n := by
  cases a with
  | none =>
    cases k with
    | zero => exact .inr ⟨[], ⟨rfl, .inl ⟨rfl, rfl⟩⟩, hh⟩
    | succ k => exact .inl hh
  | some a =>
    obtain ⟨b, o, sp⟩ := a
    cases sp with
    | some _ => exact .inl hh
    | none =>
      have hh : getK (path b) h.t (fun ob => objV ob (fun cs _ _ => dropK cs o fun l => takeK l k q) g) n := hh
      rw [getK_eq] at hh
      rcases objV_ok hh with hh | ⟨cs, ty, z, hg, hh⟩
      · exact .inl hh
      · rw [dropK_eq] at hh
        obtain ⟨h1, h2⟩ := takeK_ok hh
        exact .inr ⟨_, ⟨by rw [List.length_take]; omega, .inr ⟨b, o, cs, ty, z, rfl, hg, h1, rfl⟩⟩, h2⟩
theorem run_loadCellsR {b : Nat} {h : Hp} {cs : List Value} {ty : TypeId} {z : Nat × Nat} (hg : h.t.get b = some (.cells ⟨cs⟩ ty z)) (o : Nat) : ∀ (n i : Nat) (acc : Array Value), o + i + n ≤ cs.length →
    runL P (loadCellsFrom ⟨b, o, none⟩ i n acc) h = some (acc ++ ⟨(cs.drop (o + i)).take n⟩) := by
  intro n
  induction n with
  | zero => intro i acc hl; simp [loadCellsFrom, runL, pure]
  | succ n ih =>
    intro i acc hl
    have hlt : o + i < cs.length := by omega
    unfold loadCellsFrom
    rw [add_none]
    simp only [load, bind, Sem.bind, runL, hg, Option.isSome_none, Bool.false_eq_true, if_false, List.getElem?_eq_getElem hlt]
    show runL P (loadCellsFrom ⟨b, o, none⟩ (i + 1) n (acc.push cs[o + i])) h = _
    rw [ih (i + 1) _ (by omega)]
    congr 1
    apply Array.toList_inj.1
    simp
    rw [List.drop_eq_getElem_cons hlt]
    simp [Nat.add_assoc]
theorem firstL {a : Option Addr} {m size c : Nat} {h : Hp} {l : List Value} (k : RdR a (m * size) h l) : runL P (Builtin.firstCells size m (.slice a m c)) h = some ⟨l⟩ := by
  obtain ⟨h0, h1 | ⟨b, o, cs, ty, z, h1, h2, h3, h4⟩⟩ := k
  · rw [h1.1, h1.2]; rfl
  · subst h1
    subst h4
    show runL P (loadCells ⟨b, o, none⟩ (m * size)) h = _
    unfold loadCells
    by_cases hn : m * size = 0
    · rw [hn]; simp [loadCellsFrom, runL, pure]
    · rw [run_loadCellsR h2 o (m * size) 0 #[] (by simp at h3; omega)]
      simp
theorem firstX {a : Option Addr} {m m' size c : Nat} {h : Hp} {l : List Value} (k : RdR a (m * size) h l) : runX P (Builtin.firstCells size m (.slice a m' c)) h = some (.ok ⟨l⟩, h) := by
  obtain ⟨h0, h1 | ⟨b, o, cs, ty, z, h1, h2, h3, h4⟩⟩ := k
  · rw [h1.1, h1.2]; rfl
  · subst h1
    subst h4
    show runX P (loadCells ⟨b, o, none⟩ (m * size)) h = _
    unfold loadCells
    by_cases hn : m * size = 0
    · rw [hn]; simp [loadCellsFrom, runX, pure]
    · rw [run_loadCells h2 o (m * size) 0 #[] (by simp at h3; omega)]
      simp
theorem appT_ok {ts : Array TypeId} {e : TypeId} {size by_ : Nat} (h : appT P ts = some (e, size, by_)) : ∃ st xt x i z, ts[0]? = some st ∧ ts[1]? = some xt ∧ P.underlying st = some (.slice e) ∧ P.underlying xt = some (.slice x) ∧ P.info? e = some i ∧ i.zero = some z ∧ z.cells.size = i.size ∧ 1 ≤ i.size ∧ i.size = size ∧ i.bytes = by_ := by
  unfold appT at h
  simp only [undQ_eq, infoQ_eq] at h
  cases e1 : ts[0]? with
  | none => rw [e1] at h; cases h
  | some st =>
    rw [e1] at h
    dsimp only at h
    cases e2 : ts[1]? with
    | none => rw [e2] at h; cases h
    | some xt =>
      rw [e2] at h
      dsimp only at h
      cases e3 : P.underlying st with
      | none => rw [e3] at h; cases h
      | some d =>
        rw [e3] at h
        cases d with
        | slice e' =>
          dsimp only at h
          cases e4 : P.underlying xt with
          | none => rw [e4] at h; cases h
          | some d2 =>
            rw [e4] at h
            cases d2 with
            | slice x =>
              dsimp only at h
              cases e5 : P.info? e' with
              | none => rw [e5] at h; cases h
              | some i =>
                rw [e5] at h
                dsimp only at h
                cases e6 : i.zero with
                | none => rw [e6] at h; cases h
                | some z =>
                  rw [e6] at h
                  dsimp only at h
                  cases e7 : (Nat.beq z.cells.size i.size && Nat.ble 1 i.size) with
                  | false => rw [e7] at h; cases h
                  | true =>
                    rw [e7] at h
                    cases h
                    simp only [Bool.and_eq_true] at e7
                    exact ⟨st, xt, x, i, z, rfl, rfl, e3, e4, e5, e6, Nat.eq_of_beq_eq_true e7.1, Nat.le_of_ble_eq_true e7.2, rfl, rfl⟩
            | _ => cases h
        | _ => cases h
theorem growK_run {e : TypeId} {k m : Nat} {old new : List Value} {d : Option Nat} {h : Hp} (hh : growK e k m old new d h qv n) : qv (.slice (some ⟨2 * h.n + 1, 0, none⟩) (k + m) (k + m)) ⟨(dropT d h.t).set (2 * h.n + 1) (some (.cells ⟨old ++ new⟩ e (0, 0))), h.n + 6⟩ n := by
  unfold growK at hh
  rw [appK_eq, fN_eq, fN_eq, fN_eq] at hh
  cases d with
  | none => dsimp only at hh; rw [setK_eq] at hh; exact hh
  | some b => dsimp only at hh; rw [setK_eq, setK_eq] at hh; exact hh
theorem append_in {ts : Array TypeId} {ty e : TypeId} {size by_ : Nat} (ht : appT P ts = some (e, size, by_)) {b o k c m xc : Nat} {xb : Option Addr} {h : Hp} {new cs : List Value} {ct : TypeId} {z : Nat × Nat} {args : Array Value} (a0 : args[0]? = some (.slice (some ⟨b, o, none⟩) k c)) (a1 : args[1]? = some (.slice xb m xc))
    (hr : RdR xb (m * size) h new) (hle : k + m ≤ c) (hg : h.t.get b = some (.cells ⟨cs⟩ ct z)) (h1 : o + k * size ≤ cs.length) (h2 : m * size ≤ (cs.drop (o + k * size)).length) (h3 : m * size ≠ 0) (h4 : new.all oneC = true) :
    runX P (Builtin.append_ ts ty args) h = some (.ok (.slice (some ⟨b, o, none⟩) (k + m) c), ⟨h.t.set b (some (.cells ⟨cs.take (o + k * size) ++ (new ++ (cs.drop (o + k * size)).drop (m * size))⟩ ct z)), h.n⟩) := by
  obtain ⟨st, xt, x, i, zv, t0, t1, u0, u1, q1, q2, q3, q4, q5, q6⟩ := appT_ok ht
  unfold Builtin.append_
  rw [t0, a0, a1, t1]
  dsimp only
  rw [runX_Pb _ h (by rw [runP_und]; exact u0)]
  dsimp only
  rw [runX_Pb (a := i.size) _ h (by unfold sizeOf; rw [runP_bind, runP_info, q1]; rfl)]
  rw [runX_Pb (a := .slice x) _ h (by rw [runP_und]; exact u1)]
  rw [runX_Pb (a := false) _ h rfl]
  simp only [Bool.false_eq_true, if_false]
  rw [runX_Pb (a := m) _ h rfl, if_pos hle, q5]
  simp only [Bool.not_false, if_true]
  rw [runX_ok _ (firstX (c := xc) hr)]
  dsimp only
  rw [add_none]
  have hlen : new.length = m * size := hr.1
  simp at h2
  have hs := run_storeCells (P := P) (b := b) (o := o + k * size) new 0 h cs hg (by omega) (fun v hv => List.all_eq_true.1 h4 v hv)
  have hne : new ≠ [] := fun q => by rw [q] at hlen; simp at hlen; omega
  rw [if_neg hne, Nat.add_zero, overS_eq new cs (o + k * size) (by omega)] at hs
  rw [runX_ok _ hs]
  simp [runX, pure, hlen]
theorem app_ok {o : Oper} {as : Array Operand} {ts : Array TypeId} {args : Array Value} (ho : o.op = .call { callee := .builtin .append, args := as, argTypes := ts }) (hst : statOK o = true) (hargs : args = as.map s.ev) {e : TypeId} {size by_ k c m xc : Nat} {base xb : Option Addr} (ht : appT P ts = some (e, size, by_)) (a0 : args[0]? = some (.slice base k c)) (a1 : args[1]? = some (.slice xb m xc)) :
    (okOp P s.ev o.op = decide (k + m ≤ c)) ∧ (c < k + m → opStep P s o = match appX P ts args s.h with | some (v, h1) => some (.ok (.value v), h1) | none => none) := by
  obtain ⟨st, xt, x, i, zv, t0, t1, u0, u1, q1, q2, q3, q4, q5, q6⟩ := appT_ok ht
  have e1 : okOp P s.ev o.op = decide (k + m ≤ c) := by
    rw [ho]
    show appB P ts (as.map s.ev) = _
    rw [← hargs]
    unfold appB
    rw [t1, a0, a1]
    dsimp only
    rw [u1]
    rfl
  refine ⟨e1, fun hlt => ?_⟩
  have hst' : (o.op.operands.toList.all opdOK && noSel o.op) = true := hst
  unfold opStep
  rw [if_pos hst', e1, if_neg (by simp; omega), ho]
  show (match appX P ts (as.map s.ev) s.h with | some (v, h1) => some (Except.ok (Next.value v), h1) | none => none) = _
  rw [← hargs]
theorem app_grow {ts : Array TypeId} {e : TypeId} {size by_ : Nat} (ht : appT P ts = some (e, size, by_)) {k c m xc : Nat} {base xb : Option Addr} {h : Hp} {old new : List Value} {d : Option Nat} {args : Array Value} (a0 : args[0]? = some (.slice base k c)) (a1 : args[1]? = some (.slice xb m xc))
    (hr : RdR xb (m * size) h new) (h4 : new.all oneC = true) (hlt : c < k + m) (hfit : 2 * (k + m) * (by_ + 1) ≤ 281474976710656) (hol : old.length = k * size)
    (hold : ∀ i, P.info? e = some i → i.size = size → appO P e base k c i h = some (old, d)) : appX P ts args h = some (.slice (some ⟨2 * h.n + 1, 0, none⟩) (k + m) (k + m), ⟨(dropT d h.t).set (2 * h.n + 1) (some (.cells ⟨old ++ new⟩ e (0, 0))), h.n + 6⟩) := by
  obtain ⟨st, xt, x, i, zv, t0, t1, u0, u1, q1, q2, q3, q4, q5, q6⟩ := appT_ok ht
  unfold appX appP
  rw [t0, t1, a0, a1]
  dsimp only
  rw [u0]
  dsimp only
  rw [u1, q1]
  dsimp only
  rw [q2]
  dsimp only
  have hN : appN P (.slice x) (.slice xb m xc) i zv h = some (m, new, false) := by
    unfold appN
    simp only [lenV]
    rw [q5, firstL (c := xc) hr]
    simp only [Option.bind]
    have : (⟨new⟩ : Array Value).toList.all oneC = true := h4
    rw [this]
    rfl
  rw [hN]
  dsimp only
  rw [hold i q1 q5]
  dsimp only
  have c1 : Nat.ble (c + 1) (k + m) = true := Nat.ble_eq_true_of_le hlt
  have c2 : Nat.ble (2 * (k + m) * (i.bytes + 1)) 281474976710656 = true := Nat.ble_eq_true_of_le (by rw [q6]; exact hfit)
  have c3 : Nat.beq zv.cells.size i.size = true := by rw [q3]; exact Nat.beq_refl _
  have c4 : Nat.beq old.length (k * i.size) = true := by rw [hol, q5]; exact Nat.beq_refl _
  have c5 : Nat.beq new.length (m * i.size) = true := by rw [hr.1, q5]; exact Nat.beq_refl _
  rw [c1, c2, c3, c4, c5]
  rfl
theorem armApp2_ok {o : Oper} {a0 a1 : Operand} {ts : Array TypeId} (ho : o.op = .call { callee := .builtin .append, args := #[a0, a1], argTypes := ts }) (hst : statOK o = true) (h : armApp2 a0 a1 ts P s qv qc g n) : ArmR P s o qv qc g n := by
  have h0 : opdOK a0 = true := stat_op hst a0 (by rw [ho]; simp [Op.operands, Call.operands])
  have h1 : opdOK a1 = true := stat_op hst a1 (by rw [ho]; simp [Op.operands, Call.operands])
  unfold armApp2 at h
  cases ht : appT P ts with
  | none => rw [ht] at h; exact .inl h
  | some p =>
    obtain ⟨e, size, by_⟩ := p
    rw [ht] at h
    dsimp only at h
    rw [evK_eq _ _ _ h0, evK_eq _ _ _ h1] at h
    rcases slcV_ok h with h | ⟨base, k, c, e0, h⟩
    · exact .inl h
    · rcases slcV_ok h with h | ⟨xb, m, xc, e1, h⟩
      · exact .inl h
      · rw [getH_eq] at h
        rcases rdK_ok h with h | ⟨new, hr, h⟩
        · exact .inl h
        · obtain ⟨hall, h⟩ := oneAllK_ok h
          have g0 : ((#[a0, a1] : Array Operand).map s.ev)[0]? = some (.slice base k c) := by simp [e0]
          have g1 : ((#[a0, a1] : Array Operand).map s.ev)[1]? = some (.slice xb m xc) := by simp [e1]
          obtain ⟨k1, k2⟩ := app_ok (P := P) (s := s) ho hst rfl ht g0 g1
          cases hb : Nat.ble (Nat.add k m) c with
          | true =>
            rw [hb] at h
            have hle : k + m ≤ c := Nat.le_of_ble_eq_true hb
            have hok : okOp P s.ev o.op = true := by rw [k1]; exact decide_eq_true hle
            have hm : execOp s.ev o = (Builtin.append_ ts o.type ((#[a0, a1] : Array Operand).map s.ev) >>= fun v => pure (.value v)) := by
              obtain ⟨dst, op, type, pos, after, guard⟩ := o
              simp only at ho
              subst ho
              rfl
            dsimp only at h
            unfold appA at h
            cases base with
            | none => exact .inl h
            | some a =>
              obtain ⟨b, off, sp⟩ := a
              cases sp with
              | some _ => exact .inl h
              | none =>
                dsimp only at h
                cases hz : Nat.mul m size with
                | zero => rw [hz] at h; exact .inl h
                | succ q =>
                  rw [hz] at h
                  dsimp only at h
                  rw [getK_eq] at h
                  rcases objV_ok h with h | ⟨cs, ct, z, hg, h⟩
                  · exact .inl h
                  · obtain ⟨h3, h4⟩ := atK_eq _ _ _ _ _ h
                    obtain ⟨h5, h6, _, h8⟩ := overK_ok h4
                    rw [setK_eq, withT_eq, fN_eq] at h8
                    have hz' : m * size = q + 1 := hz
                    refine arm_tree hst hok hm (append_in ht g0 g1 hr hle hg h3 (by rw [hz']; exact h6) (by omega) hall) ?_
                    rw [hz']
                    exact h8
          | false =>
            rw [hb] at h
            have hlt : c < k + m := by
              have : ¬ (k + m ≤ c) := fun q => by rw [show Nat.ble (Nat.add k m) c = true from Nat.ble_eq_true_of_le q] at hb; cases hb
              omega
            dsimp only at h
            unfold appBK at h
            cases hf : Nat.ble (Nat.mul (Nat.mul 2 (Nat.add k m)) (Nat.succ by_)) 281474976710656 with
            | false => rw [hf] at h; exact .inl h
            | true =>
              rw [hf] at h
              have hfit : 2 * (k + m) * (by_ + 1) ≤ 281474976710656 := Nat.le_of_ble_eq_true hf
              have fin : ∀ (old : List Value) (d : Option Nat), old.length = k * size → (∀ i, P.info? e = some i → i.size = size → appO P e base k c i s.h = some (old, d)) → growK e k m old new d s.h qv n → ArmR P s o qv qc g n := fun old d hol hold hq => by
                have := app_grow ht g0 g1 hr hall hlt hfit hol hold
                refine .inr ⟨_, _, by rw [k2 hlt, this], .inl ⟨_, rfl, growK_run hq⟩⟩
              dsimp only at h
              cases base with
              | none =>
                dsimp only at h
                cases hz : Nat.mul k size with
                | succ q => rw [hz] at h; exact .inl h
                | zero =>
                  rw [hz] at h
                  exact fin [] none (by have : k * size = 0 := hz; rw [this]; rfl) (fun i _ _ => rfl) h
              | some a =>
                obtain ⟨b, off, sp⟩ := a
                cases sp with
                | some _ => exact .inl h
                | none =>
                  dsimp only at h
                  cases hev : Nat.beq (Nat.mod b 2) 0 with
                  | true =>
                    rw [hev] at h
                    rcases rdK_ok h with h | ⟨old, hro, h⟩
                    · exact .inl h
                    · refine fin old none hro.1 (fun i q1 q2 => ?_) h
                      unfold appO
                      dsimp only
                      have : Nat.beq (b % 2) 0 = true := hev
                      rw [this, q2]
                      dsimp only [cond]
                      rw [firstL (c := c) hro]
                      rfl
                  | false =>
                    rw [hev] at h
                    dsimp only at h
                    cases c1 : Nat.beq off 0 with
                    | false => rw [c1] at h; exact .inl h
                    | true =>
                      rw [c1] at h
                      dsimp only at h
                      cases c2 : Nat.ble 1 c with
                      | false => rw [c2] at h; exact .inl h
                      | true =>
                        rw [c2] at h
                        dsimp only at h
                        cases c3 : Nat.ble k c with
                        | false => rw [c3] at h; exact .inl h
                        | true =>
                          rw [c3] at h
                          dsimp only at h
                          rw [getK_eq] at h
                          rcases objV_ok h with h | ⟨cs, ct, z, hg, h⟩
                          · exact .inl h
                          rcases zK_ok h with h | ⟨rfl, h⟩
                          · exact .inl h
                          · cases c4 : Nat.beq ct e with
                            | false => rw [c4] at h; exact .inl h
                            | true =>
                              rw [c4] at h
                              obtain ⟨h5, h6⟩ := lenK_ok h
                              obtain ⟨h7, h8⟩ := takeK_ok h6
                              refine fin _ (some b) (by rw [List.length_take]; exact Nat.min_eq_left h7) (fun i q1 q2 => ?_) h8
                              unfold appO
                              dsimp only
                              have x1 : Nat.beq (b % 2) 0 = false := hev
                              have hoff : off = 0 := Nat.eq_of_beq_eq_true c1
                              have hc1 := Nat.le_of_ble_eq_true c2
                              rw [x1, c3, hg]
                              simp only [Option.isNone_none, Bool.and_self, cond]
                              have x3 : fitB c off i.size cs.length = true := by
                                unfold fitB
                                have : Nat.beq c 0 = false := Bool.eq_false_iff.2 fun q => by have := Nat.eq_of_beq_eq_true q; omega
                                rw [this, hoff, h5, q2, Nat.zero_add]
                                exact Nat.beq_refl _
                              rw [c4, x3, q2, hoff]
                              rfl
theorem armApp_ok {o : Oper} {as : Array Operand} {ts : Array TypeId} (ho : o.op = .call { callee := .builtin .append, args := as, argTypes := ts }) (hst : statOK o = true) (h : armApp as ts P s qv qc g n) : ArmR P s o qv qc g n := by
  obtain ⟨l⟩ := as
  match l with
  | [] => exact .inl h
  | [_] => exact .inl h
  | [a0, a1] => exact armApp2_ok ho hst h
  | _ :: _ :: _ :: _ => exact .inl h
end
end Go.Proofs.YtmjblbgalkjmiaaGreat.EX
/- Quick ways of operations: copies; calls, all of them. -/
namespace Go.Proofs.YtmjblbgalkjmiaaGreat.EX
open Go
def cpT (P : Program) (ts : Array TypeId) : Option Nat :=
  match ts[0]? with
  | some st => match undQ P st with
    | some (.slice e) => szT P e
    | _ => none
  | none => none
def armCp2 (a0 a1 : Operand) (ts : Array TypeId) : ArmT := fun P s qv _ g => Option.rec (motive := fun _ => An) g (fun size => evK s a0 fun v => evK s a1 fun u => slcV v (fun base dn _ => slcV u (fun xb sn _ => getH s fun h => fN (Nat.min sn dn) fun k =>
  rdK xb (Nat.mul k size) h (fun new => oneAllK new (Option.rec (motive := fun _ => An) g (fun a => Addr.rec (motive := fun _ => An) (fun b o sp => Option.rec (motive := fun _ => An) (Nat.rec (motive := fun _ => An) g (fun _ _ => getK (path b) h.t fun ob => objV ob (fun cs ty z =>
    atK cs o (overK new (Nat.mul k size)) fun cs => setK (path b) (some (.cells ⟨cs⟩ ty z)) h.t fun t => withT h t fun h => qv (.int .i64 (.ofNat k)) h) g) (Nat.mul k size)) (fun _ => g) sp) a) base)) g) g) g) (cpT P ts)
def armCp (as : Array Operand) (ts : Array TypeId) : ArmT := Array.rec (motive := fun _ => ArmT) (fun l => List.rec (motive := fun _ => ArmT) noArm (fun a0 l _ => List.rec (motive := fun _ => ArmT) noArm (fun a1 l _ => List.rec (motive := fun _ => ArmT) (armCp2 a0 a1 ts) (fun _ _ _ => noArm) l) l) l) as
def armB2 (b : Builtin) : Array Operand → Array TypeId → ArmT := Builtin.rec (motive := fun _ => Array Operand → Array TypeId → ArmT) (armApp) (fun _ _ => noArm) (fun _ _ => noArm) (fun _ _ => noArm) (fun _ _ => noArm) (armCp) (fun _ _ => noArm) (fun _ _ => noArm) (armLen) (fun _ _ => noArm) (fun _ _ => noArm) (fun _ _ => noArm) (fun _ _ => noArm) (fun _ _ => noArm) (fun _ _ => noArm) (fun _ _ => noArm) (fun _ _ => noArm) (fun _ _ => noArm) (fun _ _ => noArm) (fun _ _ => noArm) (fun _ _ => noArm) (fun _ _ => noArm) (fun _ _ => noArm) (fun _ _ => noArm) (fun _ _ => noArm) (fun _ _ => noArm) b
def armCall2 (c : Call) : ArmT := Call.rec (motive := fun _ => ArmT) (fun cl as ts => Callee.rec (motive := fun _ => ArmT) (fun f => Operand.rec (motive := fun _ => ArmT) (fun _ => noArm) (fun _ => noArm) (fun _ => noArm) (fun f => armFn f as) f) (fun _ _ => noArm) (fun b => armB2 b as ts) cl) c
section
variable {P : Program}
variable {s : St} {qv : Value → Hp → An} {qc : FuncId → Array Value → Hp → An} {g : An} {n : Prop}
theorem copy_run {ts : Array TypeId} {ty : TypeId} {size b o dn dc sn sc : Nat} {xb : Option Addr} {h : Hp} {new cs : List Value} {ct : TypeId} {z : Nat × Nat} {args : Array Value} (ht : cpT P ts = some size) (a0 : args[0]? = some (.slice (some ⟨b, o, none⟩) dn dc)) (a1 : args[1]? = some (.slice xb sn sc))
    (hr : RdR xb (Nat.min sn dn * size) h new) (hg : h.t.get b = some (.cells ⟨cs⟩ ct z)) (h1 : o ≤ cs.length) (h2 : Nat.min sn dn * size ≤ (cs.drop o).length) (h3 : Nat.min sn dn * size ≠ 0) (h4 : new.all oneC = true) :
    runX P (Builtin.copy_ ts ty args) h = some (.ok (.int .i64 (.ofNat (Nat.min sn dn))), ⟨h.t.set b (some (.cells ⟨cs.take o ++ (new ++ (cs.drop o).drop (Nat.min sn dn * size))⟩ ct z)), h.n⟩) := by
  unfold cpT at ht
  simp only [undQ_eq] at ht
  cases e1 : ts[0]? with
  | none => rw [e1] at ht; cases ht
  | some st =>
    rw [e1] at ht
    dsimp only at ht
    cases e2 : P.underlying st with
    | none => rw [e2] at ht; cases ht
    | some d =>
      rw [e2] at ht
      cases d with
      | slice e =>
        dsimp only at ht
        unfold Builtin.copy_
        rw [e1, a0, a1]
        dsimp only
        rw [runX_Pb _ h (by rw [runP_und]; exact e2)]
        dsimp only
        rw [runX_Pb (a := sn) _ h rfl]
        rw [runX_Pb _ h (szT_ok ht)]
        rw [runX_ok _ (firstX (c := sc) hr)]
        dsimp only
        have hlen : new.length = Nat.min sn dn * size := hr.1
        simp at h2
        have hs := run_storeCells (P := P) (b := b) (o := o) new 0 h cs hg (by omega) (fun v hv => List.all_eq_true.1 h4 v hv)
        have hne : new ≠ [] := fun q => by rw [q] at hlen; simp at hlen; omega
        rw [if_neg hne, Nat.add_zero, overS_eq new cs o (by omega)] at hs
        rw [runX_ok _ hs]
        show some (Except.ok (Value.int .i64 (Int.ofNat (Nat.min sn dn))), _) = _
        simp [hlen]
      | _ => cases ht
theorem armCp2_ok {o : Oper} {a0 a1 : Operand} {ts : Array TypeId} (ho : o.op = .call { callee := .builtin .copy, args := #[a0, a1], argTypes := ts }) (hst : statOK o = true) (h : armCp2 a0 a1 ts P s qv qc g n) : ArmR P s o qv qc g n := by
  have h0 : opdOK a0 = true := stat_op hst a0 (by rw [ho]; simp [Op.operands, Call.operands])
  have h1 : opdOK a1 = true := stat_op hst a1 (by rw [ho]; simp [Op.operands, Call.operands])
  have hok : okOp P s.ev o.op = true := by rw [ho]; rfl
  have hm : execOp s.ev o = (Builtin.copy_ ts o.type ((#[a0, a1] : Array Operand).map s.ev) >>= fun v => pure (.value v)) := by
    obtain ⟨dst, op, type, pos, after, guard⟩ := o
    simp only at ho
    subst ho
    rfl
  unfold armCp2 at h
  cases ht : cpT P ts with
  | none => rw [ht] at h; exact .inl h
  | some size =>
    rw [ht] at h
    dsimp only at h
    rw [evK_eq _ _ _ h0, evK_eq _ _ _ h1] at h
    rcases slcV_ok h with h | ⟨base, dn, dc, e0, h⟩
    · exact .inl h
    · rcases slcV_ok h with h | ⟨xb, sn, sc, e1, h⟩
      · exact .inl h
      · rw [getH_eq, fN_eq] at h
        rcases rdK_ok h with h | ⟨new, hr, h⟩
        · exact .inl h
        · obtain ⟨hall, h⟩ := oneAllK_ok h
          cases base with
          | none => exact .inl h
          | some a =>
            obtain ⟨b, off, sp⟩ := a
            cases sp with
            | some _ => exact .inl h
            | none =>
              dsimp only at h
              cases hz : Nat.mul (Nat.min sn dn) size with
              | zero => rw [hz] at h; exact .inl h
              | succ q =>
                rw [hz] at h
                dsimp only at h
                rw [getK_eq] at h
                rcases objV_ok h with h | ⟨cs, ct, z, hg, h⟩
                · exact .inl h
                · obtain ⟨h3, h4⟩ := atK_eq _ _ _ _ _ h
                  obtain ⟨h5, h6, _, h8⟩ := overK_ok h4
                  rw [setK_eq, withT_eq] at h8
                  have hz' : Nat.min sn dn * size = q + 1 := hz
                  have g0 : ((#[a0, a1] : Array Operand).map s.ev)[0]? = some (.slice (some ⟨b, off, none⟩) dn dc) := by simp [e0]
                  have g1 : ((#[a0, a1] : Array Operand).map s.ev)[1]? = some (.slice xb sn sc) := by simp [e1]
                  refine arm_tree hst hok hm (copy_run ht g0 g1 hr hg h3 (by rw [hz']; exact h6) (by rw [hz']; exact Nat.succ_ne_zero q) hall) ?_
                  rw [hz']
                  exact h8
theorem armCp_ok {o : Oper} {as : Array Operand} {ts : Array TypeId} (ho : o.op = .call { callee := .builtin .copy, args := as, argTypes := ts }) (hst : statOK o = true) (h : armCp as ts P s qv qc g n) : ArmR P s o qv qc g n := by
  obtain ⟨l⟩ := as
  match l with
  | [] => exact .inl h
  | [_] => exact .inl h
  | [a0, a1] => exact armCp2_ok ho hst h
  | _ :: _ :: _ :: _ => exact .inl h
theorem armCall2_ok (hz : Zc P) {o : Oper} {c : Call} (ho : o.op = .call c) (hst : statOK o = true) (h : armCall2 c P s qv qc g n) : ArmR P s o qv qc g n := by
  obtain ⟨cl, as, ts⟩ := c
  cases cl with
  | value x =>
    cases x with
    | func f => exact armFn_ok hz ho hst h
    | _ => exact .inl h
  | invoke x m => exact .inl h
  | builtin b =>
    cases b with
    | len => exact pv_arm hst (by rw [ho]; rfl) (by rw [ho]; rfl) (armLen_pv (qc := qc) ho hst h)
    | append => exact armApp_ok ho hst h
    | copy => exact armCp_ok ho hst h
    | _ => exact .inl h
end
end Go.Proofs.YtmjblbgalkjmiaaGreat.EX
/- Quick ways of operations: all of them. -/
namespace Go.Proofs.YtmjblbgalkjmiaaGreat.EX
open Go
def armT (o : Op) : ArmT := Op.rec (motive := fun _ => ArmT) (armMove) (armMove) (armPick) (armAlloc) (armBox) (armBuild) (armBuildS) (fun _ _ _ _ => noArm) (armLoad) (armStore) (fun _ => noArm) (fun _ => noArm) (armNil) (armBins) (armUn) (armConv) (fun _ _ => noArm) (fun _ _ => noArm) (fun _ _ _ => noArm) (fun _ _ => noArm) (fun _ _ => noArm) (armMake) (armSlice) (armField) (fun _ _ _ => noArm) (armIndex) (armIdx) (fun _ _ _ _ => noArm) (fun _ _ _ _ => noArm) (fun _ _ _ => noArm) (fun _ _ _ _ => noArm) (fun _ _ => noArm) (fun _ _ => noArm) (fun _ => noArm) (armAss) (armExtract) (armCall2) (fun _ => noArm) (fun _ => noArm) (fun _ => noArm) (fun _ _ => noArm) (fun _ _ _ => noArm) (fun _ _ => noArm) o
section
variable {P : Program}
variable {s : St} {qv : Value → Hp → An} {qc : FuncId → Array Value → Hp → An} {g : An} {n : Prop}
/-- Operations that ask for nothing but the program. -/
def pureOp (o : Op) : Bool :=
  match o with
  | .move _ | .assign _ | .build .. | .slice .. | .index .. | .typeAssert .. | .pick .. | .nilCheck _ | .binOp .. | .unOp .. | .convert .. | .fieldAddr .. | .indexAddr .. | .extract .. => true
  | .call { callee := .builtin .len, .. } => true
  | _ => false
theorem pure_app {o : Op} (hp : pureOp o = true) : appOp o = none ∧ mapOp o = false := by
  cases o with
  | call c =>
    obtain ⟨cl, as, ts⟩ := c
    cases cl with
    | builtin b => cases b <;> first | (cases hp; done) | exact ⟨rfl, rfl⟩
    | _ => cases hp
  | _ => first | (cases hp; done) | exact ⟨rfl, rfl⟩
theorem armT_pv {o : Oper} (hp : pureOp o.op = true) (hst : statOK o = true) (h : armT o.op P s qv qc g n) : PvR P s o qv g n := by
  cases ho : o.op with
  | move x => rw [ho] at h; exact armMove_pv (qc := qc) (.inl ho) hst h
  | assign x => rw [ho] at h; exact armMove_pv (qc := qc) (.inr ho) hst h
  | build t ps => rw [ho] at h; exact armBuild_pv (qc := qc) ho hst h
  | pick c a b => rw [ho] at h; exact armPick_pv (qc := qc) ho hst h
  | nilCheck x => rw [ho] at h; exact armNil_pv (qc := qc) ho hst h
  | slice t x lo hi mx => rw [ho] at h; exact armSlice_pv (qc := qc) ho hst h
  | index t x i => rw [ho] at h; exact armIdx_R (qc := qc) ho hst h
  | typeAssert x xt t ok => rw [ho] at h; exact armAss_R (qc := qc) ho hst h
  | binOp op t x y yt => rw [ho] at h; exact armBins_pv (qc := qc) ho hst h
  | unOp op t x => rw [ho] at h; exact armUn_pv (qc := qc) ho hst h
  | convert a b x => rw [ho] at h; exact armConv_pv (qc := qc) ho hst h
  | fieldAddr st x f => rw [ho] at h; exact armField_pv (qc := qc) ho hst h
  | indexAddr t x i => rw [ho] at h; exact armIndex_pv (qc := qc) ho hst h
  | extract x i => rw [ho] at h; exact armExtract_pv (qc := qc) ho hst h
  | call c =>
    rw [ho] at h hp
    obtain ⟨cl, as, ts⟩ := c
    cases cl with
    | builtin b =>
      cases b with
      | len => exact armLen_pv (qc := qc) ho hst h
      | _ => cases hp
    | _ => cases hp
  | _ => rw [ho] at hp; cases hp
theorem armT_ok (hz : Zc P) {o : Oper} (hst : statOK o = true) (h : armT o.op P s qv qc g n) : ArmR P s o qv qc g n := by
  cases hp : pureOp o.op with
  | true => exact pv_arm hst (pure_app hp).1 (pure_app hp).2 (armT_pv hp hst h)
  | false =>
    cases ho : o.op with
    | alloc t => rw [ho] at h; exact armAlloc_ok ho hst h
    | makeSlice t l c => rw [ho] at h; exact armMake_ok ho hst h
    | buildSlice t l ps => rw [ho] at h; exact armBuildS_ok ho hst h
    | box t x => rw [ho] at h; exact armBox_ok ho hst h
    | load t a => rw [ho] at h; exact armLoad_ok ho hst h
    | store t a x => rw [ho] at h; exact armStore_ok ho hst h
    | call c => rw [ho] at h; exact armCall2_ok hz ho hst h
    | move | assign | build | slice | index | typeAssert | pick | nilCheck | binOp | unOp | convert | fieldAddr | indexAddr | extract => rw [ho] at hp; cases hp
    | _ => rw [ho] at h; exact .inl h
end
end Go.Proofs.YtmjblbgalkjmiaaGreat.EX
/- Trees that only load: whole values. -/
namespace Go.Proofs.YtmjblbgalkjmiaaGreat.EX
open Go
section
variable {P : Program}
theorem runL_bind {α β : Type} (f : α → Sem β) (h : Hp) : ∀ (m : Sem α), runL P (m.bind f) h = (runL P m h).bind fun a => runL P (f a) h := by
  intro m
  induction m with
  | pure a => rfl
  | load m a k ih =>
    simp only [Sem.bind, runL]
    cases h.t.get a.block with
    | none => rfl
    | some o =>
      cases o with
      | cells cs t z =>
        obtain ⟨cs⟩ := cs
        dsimp only
        cases a.spot.isSome with
        | true => rfl
        | false =>
          simp only [Bool.false_eq_true, if_false]
          cases cs[a.off]? with
          | none => rfl
          | some v => exact ih v
      | _ => rfl
  | program k ih => exact ih P
  | mark m k ih => exact ih
  | choose c k ih =>
    simp only [Sem.bind, runL]
    cases c.forced with
    | false => rfl
    | true => exact ih 0
  | _ => rfl
theorem run_loadCellsL {b : Nat} {h : Hp} {cs : List Value} {ty : TypeId} {z : Nat × Nat} (hg : h.t.get b = some (.cells ⟨cs⟩ ty z)) (o : Nat) : ∀ (n i : Nat) (acc : Array Value), o + i + n ≤ cs.length →
    runL P (loadCellsFrom ⟨b, o, none⟩ i n acc) h = some (acc ++ ⟨(cs.drop (o + i)).take n⟩) := by
  intro n
  induction n with
  | zero => intro i acc hl; simp [loadCellsFrom, runL, pure]
  | succ n ih =>
    intro i acc hl
    have hlt : o + i < cs.length := by omega
    unfold loadCellsFrom
    rw [add_none]
    have e : runL P (load ⟨b, o + i, none⟩) h = some cs[o + i] := by
      simp [load, runL, hg, List.getElem?_eq_getElem hlt]
    show runL P ((load ⟨b, o + i, none⟩).bind _) h = _
    rw [runL_bind, e]
    simp only [Option.bind]
    rw [ih (i + 1) _ (by omega)]
    congr 1
    apply Array.toList_inj.1
    simp
    rw [List.drop_eq_getElem_cons hlt]
    simp [Nat.add_assoc]
theorem runL_info (t : TypeId) (h : Hp) : runL P (typeInfo t) h = P.info? t := by
  unfold typeInfo
  show runL P (match P.info? t with | some i => pure i | none => Go.stuck _) h = _
  cases P.info? t <;> rfl
theorem runL_und (t : TypeId) (h : Hp) : runL P (underlying t) h = P.underlying t := by
  unfold underlying
  show runL P (match P.underlying t with | some i => pure i | none => Go.stuck _) h = _
  cases P.underlying t <;> rfl
theorem runL_size {t : TypeId} {m : Nat} (e : szT P t = some m) (h : Hp) : runL P (sizeOf t) h = some m := by
  unfold sizeOf
  show runL P ((typeInfo t).bind _) h = _
  rw [runL_bind, runL_info]
  unfold szT at e; (try simp only [infoQ_eq] at e)
  cases q : P.info? t with
  | none => rw [q] at e; cases e
  | some i => rw [q] at e; cases e; rfl
theorem runL_agg1 {t : TypeId} (e : oneT P t = true) (h : Hp) : runL P (isAgg t) h = some false := by
  unfold isAgg
  show runL P ((underlying t).bind _) h = _
  rw [runL_bind, runL_und]
  unfold oneT at e; (try simp only [undQ_eq] at e)
  cases q : P.underlying t with
  | none => rw [q] at e; cases e
  | some d => rw [q] at e; cases d <;> first | rfl | cases e
theorem runL_agg2 {t : TypeId} {m : Nat} (e : aggT P t = some m) (h : Hp) : runL P (isAgg t) h = some true ∧ szT P t = some m := by
  unfold aggT at e; (try simp only [undQ_eq] at e)
  unfold isAgg
  show runL P ((underlying t).bind _) h = _ ∧ _
  rw [runL_bind, runL_und]
  cases q : P.underlying t with
  | none => rw [q] at e; cases e
  | some d => rw [q] at e; cases d <;> first | cases e | exact ⟨rfl, e⟩
theorem loadL_one {t : TypeId} {b o : Nat} {h : Hp} {cs : List Value} {ty : TypeId} {z : Nat × Nat} {x : Value} (ht : oneT P t = true) (hg : h.t.get b = some (.cells ⟨cs⟩ ty z)) (hx : cs[o]? = some x) : runL P (Instr.loadAt t (.pointer (some ⟨b, o, none⟩))) h = some x := by
  unfold Instr.loadAt
  show runL P (loadVar t ⟨b, o, none⟩) h = _
  unfold loadVar
  show runL P ((isAgg t).bind _) h = _
  rw [runL_bind, runL_agg1 ht]
  simp [load, runL, hg, hx]
theorem loadL_agg {t : TypeId} {b o m : Nat} {h : Hp} {cs : List Value} {ty : TypeId} {z : Nat × Nat} (ht : aggT P t = some m) (hg : h.t.get b = some (.cells ⟨cs⟩ ty z)) (hl : m ≤ (cs.drop o).length) : runL P (Instr.loadAt t (.pointer (some ⟨b, o, none⟩))) h = some (.agg ⟨(cs.drop o).take m⟩) := by
  obtain ⟨h1, h2⟩ := runL_agg2 ht h
  unfold Instr.loadAt
  show runL P (loadVar t ⟨b, o, none⟩) h = _
  unfold loadVar
  show runL P ((isAgg t).bind _) h = _
  rw [runL_bind, h1]
  show runL P ((sizeOf t).bind _) h = _
  rw [runL_bind, runL_size h2]
  simp only [Option.bind]
  unfold loadCells
  show runL P ((loadCellsFrom ⟨b, o, none⟩ 0 m #[]).bind _) h = _
  by_cases hn : m = 0
  · subst hn
    simp [loadCellsFrom, runL, pure, Sem.bind]
  · rw [runL_bind, run_loadCellsL hg o m 0 #[] (by simp at hl; omega)]
    simp [runL, pure]
/-- What a result's cell holds. -/
def rescK (P : Program) (s : St) (t : TypeId) (v : Value) (q : Value → An) (g : An) : An := ptrV v (fun b o => getH s fun h => getK (path b) h.t fun ob => objV ob (fun cs _ _ =>
  Bool.rec (motive := fun _ => An) (Option.rec (motive := fun _ => An) g (fun n => dropK cs o fun l => takeK l n fun l => q (.agg ⟨l⟩)) (aggT P t)) (nthK cs o fun x => Option.rec (motive := fun _ => An) g (fun x => q x) x) (oneT P t)) g) g
theorem rescK_ok {s : St} {t : TypeId} {v : Value} {q : Value → An} {g : An} {n : Prop} (h : rescK P s t v q g n) : g n ∨ ∃ u, runL P (asAddr v >>= fun a => loadVar t a) s.h = some u ∧ q u n := by
  unfold rescK at h
  rcases ptrV_ok h with h | ⟨b, off, ev, h'⟩
  · exact .inl h
  · rw [ev]
    clear h
    have h := h'
    clear h'
    rw [getH_eq, getK_eq] at h
    rcases objV_ok h with h | ⟨cs, ty, z, hg, h⟩
    · exact .inl h
    · cases ht : oneT P t with
      | true =>
        rw [ht] at h
        have h : nthK cs off (fun x => Option.rec (motive := fun _ => An) g (fun x => q x) x) n := h
        rw [nthK_eq] at h
        cases hx : cs[off]? with
        | none => rw [hx] at h; exact .inl h
        | some x =>
          rw [hx] at h
          exact .inr ⟨x, loadL_one ht hg hx, h⟩
      | false =>
        rw [ht] at h
        cases ha2 : aggT P t with
        | none => rw [ha2] at h; exact .inl h
        | some m =>
          rw [ha2] at h
          have h : dropK cs off (fun l => takeK l m fun l => q (.agg ⟨l⟩)) n := h
          rw [dropK_eq] at h
          obtain ⟨hl, h⟩ := takeK_ok h
          exact .inr ⟨_, loadL_agg ha2 hg hl, h⟩
end
end Go.Proofs.YtmjblbgalkjmiaaGreat.EX
/- The executor in continuations. -/
namespace Go.Proofs.YtmjblbgalkjmiaaGreat.EX
open Go
section
variable {P : Program}
def wantK (s : St) (all : List Oper) (o : Oper) (q : Bool → An) : An :=
  match o.guard with
  | none => q true
  | some (j, w) => match (all[j]?).bind (·.dst) with
    | some d => bif Nat.ble (Nat.succ d) s.nt then getK (path d) s.tm fun v => match v with
        | some (.bool b) => Bool.rec (q (!w)) (q w) b
        | _ => q false
      else q false
    | none => q false
theorem wantK_eq (s : St) (all : List Oper) (o : Oper) (q : Bool → An) : wantK s all o q = q (Region.wanted o (yieldT s all)) := by
  unfold wantK Region.wanted yieldT
  cases o.guard with
  | none => rfl
  | some g =>
    obtain ⟨j, w⟩ := g
    dsimp only
    cases (all[j]?).bind (·.dst) with
    | none => rfl
    | some d =>
      dsimp only
      by_cases hd : d < s.nt
      · have e : Nat.ble (Nat.succ d) s.nt = true := Nat.ble_eq_true_of_le hd
        rw [e, if_pos hd]
        dsimp only [cond]
        rw [getK_eq]
        cases s.tm.get d with
        | none => rfl
        | some v =>
          cases v with
          | bool b => cases b <;> cases w <;> rfl
          | _ => rfl
      · have e : Nat.ble (Nat.succ d) s.nt = false := Bool.eq_false_iff.2 fun k => hd (Nat.le_of_ble_eq_true k)
        rw [e, if_neg hd]
        rfl
def putK (s : St) (d : Option Tmp) (v : Value) (q : St → An) : An :=
  match d with
  | none => q s
  | some d => bif Nat.ble (Nat.succ d) s.nt then setK (path d) (some v) s.tm fun t => withS s t fun s => q s else FF
def withD (s : St) (ds : Option Value) (h : Hp) (q : St → An) : An := St.rec (motive := fun _ => An) (fun tm nt _ _ => q ⟨tm, nt, ds, h⟩) s
theorem putK_eq (s : St) (d : Option Tmp) (v : Value) (q : St → An) : putK s d v q = match s.put d v with | some s1 => q s1 | none => FF := by
  unfold putK St.put
  cases d with
  | none => rfl
  | some d =>
    dsimp only
    by_cases hd : d < s.nt
    · have e : Nat.ble (Nat.succ d) s.nt = true := Nat.ble_eq_true_of_le hd
      rw [e, if_pos hd]
      exact setK_eq _ _ _ _
    · have e : Nat.ble (Nat.succ d) s.nt = false := Bool.eq_false_iff.2 fun k => hd (Nat.le_of_ble_eq_true k)
      rw [e, if_neg hd]
      rfl
def resC (call : FuncId → Array Value → Hp → (Value → Hp → An) → An) (s : St) (d : Option Tmp) (q : St → An) (x : Except Value Next) (h1 : Hp) : An :=
  match x with
  | .ok (.value v) => withH s h1 fun s => putK s d v q
  | .ok .skip => withH s h1 fun s => putK s d undef q
  | .ok (.enter f args) => call f args h1 fun v h2 => withH s h2 fun s => putK s d v q
  | _ => FF
def oneK (P : Program) (call : FuncId → Array Value → Hp → (Value → Hp → An) → An) (all : List Oper) (o : Oper) (s : St) (q : St → An) : An :=
  wantK s all o fun w => bif w then Bool.rec (motive := fun _ => An) (opK P s o (resC call s o.dst q)) (armT o.op P s (fun v h => withH s h fun s => putK s o.dst v q) (fun f args h => call f args h fun v h2 => withH s h2 fun s => putK s o.dst v q) (opK P s o (resC call s o.dst q))) (statOK o)
    else putK s o.dst undef q
/-- What an operation told, with calls that are deferred. -/
def resD (call : FuncId → Array Value → Hp → (Value → Hp → An) → An) (s : St) (d : Option Tmp) (q : St → An) (x : Except Value Next) (h1 : Hp) : An :=
  match x with
  | .ok (.value v) => withH s h1 fun s => putK s d v q
  | .ok .skip => withH s h1 fun s => putK s d undef q
  | .ok (.enter f args) => call f args h1 fun v h2 => withH s h2 fun s => putK s d v q
  | .ok (.defer ⟨.fn (.func g) cap, args⟩) => Option.rec (motive := fun _ => An) (fV (.func (.func g) args cap) fun v => withD s (some v) h1 fun s => putK s d undef q) (fun _ => FF) s.ds
  | _ => FF
def oneD (P : Program) (call : FuncId → Array Value → Hp → (Value → Hp → An) → An) (all : List Oper) (o : Oper) (s : St) (q : St → An) : An :=
  wantK s all o fun w => bif w then Bool.rec (motive := fun _ => An) (opD P s o (resD call s o.dst q)) (armT o.op P s (fun v h => withH s h fun s => putK s o.dst v q) (fun f args h => call f args h fun v h2 => withH s h2 fun s => putK s o.dst v q) (opD P s o (resD call s o.dst q))) (statOK o) else putK s o.dst undef q
def opsK (P : Program) (call : FuncId → Array Value → Hp → (Value → Hp → An) → An) (all : List Oper) (l : List Oper) : St → (St → An) → An :=
  List.rec (motive := fun _ => St → (St → An) → An) (fun s q => q s) (fun o _ ih s q => oneD P call all o s fun s1 => ih s1 q) l
def resK (P : Program) (s : St) (l : List ResultVar) : (List Value → An) → An :=
  List.rec (motive := fun _ => (List Value → An) → An) (fun q => q []) (fun x _ ih q => match x with
    | .tmp t => getK (path t) s.tm fun o => Option.rec (motive := fun _ => An) (ih fun vs => q (undef :: vs)) (fun v => ih fun vs => q (v :: vs)) o
    | .cell a t => getK (path a) s.tm fun o => Option.rec (motive := fun _ => An) FF (fun v => rescK P s t v (fun v => ih fun vs => q (v :: vs)) (match runL P (asAddr v >>= fun a => loadVar t a) s.h with
        | some v => fV v fun v => ih fun vs => q (v :: vs)
        | none => FF)) o) l
theorem resK_eq (s : St) : ∀ (l : List ResultVar) (q : List Value → An) (n : Prop), resK P s l q n → ∃ vs, runL P (resT s.tm l) s.h = some vs ∧ q vs n
  | [], q, n, h => ⟨[], rfl, h⟩
  | .tmp t :: l, q, n, h => by
    have h' : getK (path t) s.tm (fun o => Option.rec (motive := fun _ => An) (resK P s l fun vs => q (undef :: vs)) (fun v => resK P s l fun vs => q (v :: vs)) o) n := h
    rw [getK_eq] at h'
    have key : ∀ v, v = (s.tm.get t).getD undef → resK P s l (fun vs => q (v :: vs)) n → ∃ vs, runL P (resT s.tm (.tmp t :: l)) s.h = some vs ∧ q vs n := by
      intro v hv k
      obtain ⟨vs, h1, h2⟩ := resK_eq s l _ n k
      refine ⟨v :: vs, ?_, h2⟩
      show runL P ((resT s.tm l).bind fun vs => pure ((s.tm.get t).getD undef :: vs)) s.h = _
      rw [runL_bind, h1, ← hv]
      rfl
    cases e : s.tm.get t with
    | none => rw [e] at h'; exact key undef (by rw [e]; rfl) h'
    | some v => rw [e] at h'; exact key v (by rw [e]; rfl) h'
  | .cell a t :: l, q, n, h => by
    have h' : getK (path a) s.tm (fun o => Option.rec (motive := fun _ => An) FF (fun v => rescK P s t v (fun v => resK P s l fun vs => q (v :: vs)) (match runL P (asAddr v >>= fun a => loadVar t a) s.h with
        | some v => fV v fun v => resK P s l fun vs => q (v :: vs)
        | none => FF)) o) n := h
    rw [getK_eq] at h'
    cases e : s.tm.get a with
    | none => rw [e] at h'; exact h'.elim
    | some v =>
      rw [e] at h'
      dsimp only at h'
      have h2 : ∃ u, runL P (asAddr v >>= fun a => loadVar t a) s.h = some u ∧ resK P s l (fun vs => q (u :: vs)) n := by
        rcases rescK_ok h' with h' | h'
        · cases e2 : runL P (asAddr v >>= fun a => loadVar t a) s.h with
          | none => rw [e2] at h'; exact h'.elim
          | some u =>
            rw [e2] at h'
            dsimp only at h'
            rw [fV_eq] at h'
            exact ⟨u, rfl, h'⟩
        · exact h'
      obtain ⟨u, e2, h'⟩ := h2
      · skip
        obtain ⟨vs, h1, h2⟩ := resK_eq s l _ n h'
        refine ⟨u :: vs, ?_, h2⟩
        show runL P ((asAddr ((s.tm.get a).getD undef)).bind fun x => (loadVar t x).bind fun v => (resT s.tm l).bind fun vs => pure (v :: vs)) s.h = _
        have e3 : runL P ((asAddr v).bind fun a => loadVar t a) s.h = some u := e2
        rw [runL_bind] at e3 ⊢
        rw [e]
        dsimp only [Option.getD]
        cases e4 : runL P (asAddr v) s.h with
        | none => rw [e4] at e3; cases e3
        | some b =>
          rw [e4] at e3
          dsimp only [Option.bind] at e3 ⊢
          rw [runL_bind, e3]
          dsimp only [Option.bind]
          rw [runL_bind, h1]
          rfl
/-- Slots of a frame that is entered. -/
def initK (l : List Value) : Nat → T Value → (T Value → An) → An :=
  List.rec (motive := fun _ => Nat → T Value → (T Value → An) → An) (fun _ t q => q t) (fun v _ ih k t q => setK (path k) (some v) t fun t => fN (Nat.succ k) fun k => ih k t q) l
theorem initK_eq : ∀ (l : List Value) (k : Nat) (t : T Value) (q : T Value → An), initK l k t q = q (initT l k t)
  | [], _, _, _ => rfl
  | _v :: l, k, _t, q => (setK_eq _ _ _ _).trans ((fN_eq _ _).trans (initK_eq l (k + 1) _ q))
def resVK (l : List Value) (q : Value → An) : An :=
  match l with
  | [v] => q v
  | l => q (.tuple ⟨l⟩)
theorem resVK_eq (l : List Value) (q : Value → An) : resVK l q = q (resV l) := by
  match l with
  | [] => rfl
  | [v] => rfl
  | v :: u :: s => rfl
/-- recover, where nothing is thrown. -/
def stripO (o : Oper) : Oper :=
  match o.op with
  | .call { callee := .builtin .recover, .. } => { o with op := .move (.const .nilIface) }
  | _ => o
/-- A deferred function's code, where nothing is thrown. -/
def noCall (_ : FuncId) (_ : Array Value) (_ : Hp) (_ : Value → Hp → An) : An := FF
def lateK (P : Program) (run : Code → St → (Exit → St → An) → An) (c : Code) : St → (Exit → St → An) → An :=
  match c with
  | .seq a b => fun s q => lateK P run a s fun e s1 => match e with
    | .normal => lateK P run b s1 q
    | e => q e s1
  | .cond x a b => fun s q => bif opdOK x then evK s x fun v => match v with
      | .bool t => Bool.rec (lateK P run b s q) (lateK P run a s q) t
      | _ => FF
    else FF
  | .region id ops d => fun s q => Bool.rec (opsK P noCall (ops.toList.map stripO) (ops.toList.map stripO) s fun s1 => q .normal s1) (run (.region id ops d) s q) d
  | c => fun s q => run c s q
/-- What is deferred, at a function's end. -/
def endK (P : Program) (run : Code → St → (Exit → St → An) → An) (s : St) (q : Hp → An) : An :=
  match s.ds with
  | none => getH s q
  | some (.func (.func g) ⟨first⟩ ⟨cap⟩) => match funQ P g with
    | some fn => match fn.body with
      | some c => initK (first ++ cap) 0 .leaf fun t => fN (Nat.add (first ++ cap).length (Nat.sub fn.ntmps (first ++ cap).length)) fun nt => getH s fun sh => lateK P run c ⟨t, nt, none, sh⟩ fun e s1 => Option.rec (motive := fun _ => An) (match e with
        | .normal | .ret => resK P s1 fn.results.toList fun _ => getH s1 q
        | _ => FF) (fun _ => FF) s1.ds
      | none => FF
    | none => FF
  | _ => FF
def callK (P : Program) (run : Code → St → (Exit → St → An) → An) (f : FuncId) (args : Array Value) (h : Hp) (q : Value → Hp → An) : An :=
  match funQ P f with
  | some fn => match fn.body with
    | some c => initK args.toList 0 .leaf fun t => fN (Nat.add args.size (Nat.sub fn.ntmps args.size)) fun nt => run c ⟨t, nt, none, h⟩ fun e s1 => match e with
      | .normal | .ret => endK P run s1 fun h2 => withD s1 none h2 fun s1 => resK P s1 fn.results.toList fun vs => resVK vs fun v => q v h2
      | _ => FF
    | none => FF
  | none => FF
end
end Go.Proofs.YtmjblbgalkjmiaaGreat.EX
