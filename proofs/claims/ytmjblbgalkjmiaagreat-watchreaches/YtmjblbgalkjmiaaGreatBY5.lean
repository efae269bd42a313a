/- A program's tables as trees. -/
import Derived.Test.YtmjblbgalkjmiaaGreatBY4
namespace Go.Proofs.YtmjblbgalkjmiaaGreat.EX
open Go
/-- Each other one. -/
def alt {α : Type} : Bool → List α → List α
  | _, [] => []
  | true, x :: l => x :: alt false l
  | false, _ :: l => alt true l
def treeF {α : Type} : Nat → List α → T α
  | 0, _ => .leaf
  | _ + 1, [] => .leaf
  | n + 1, x :: l => .inner 0 0 (some x) (treeF n (alt true l)) (treeF n (alt false l))
theorem alt_get {α : Type} : ∀ (l : List α) (j : Nat), (alt true l)[j]? = l[2 * j]? ∧ (alt false l)[j]? = l[2 * j + 1]?
  | [], j => by simp [alt]
  | x :: l, j => by
    have ih := fun i => alt_get l i
    refine ⟨?_, ?_⟩
    · cases j with
      | zero => simp [alt]
      | succ j =>
        rw [alt, List.getElem?_cons_succ, (ih j).2]
        have : 2 * (j + 1) = (2 * j + 1) + 1 := by omega
        rw [this, List.getElem?_cons_succ]
    · rw [alt, (ih j).1, List.getElem?_cons_succ]
theorem treeF_get {α : Type} : ∀ (n : Nat) (l : List α) (k : Nat) (x : α), (treeF n l).get k = some x → l[k]? = some x := by
  intro n
  induction n with
  | zero => intro l k x h; cases h
  | succ n ih =>
    intro l k x h
    cases l with
    | nil => cases h
    | cons y l =>
      rw [treeF, T.get] at h
      by_cases h0 : k = 0
      · rw [if_pos h0] at h
        rw [h0]
        exact h
      · rw [if_neg h0] at h
        by_cases h1 : k % 2 = 1
        · rw [if_pos h1] at h
          have h2 := ih _ _ _ h
          rw [(alt_get l _).1] at h2
          have : k = 2 * (k / 2) + 1 := by omega
          rw [this, List.getElem?_cons_succ]
          exact h2
        · rw [if_neg h1] at h
          have h2 := ih _ _ _ h
          rw [(alt_get l _).2] at h2
          have : k = (2 * (k / 2 - 1) + 1) + 1 := by omega
          rw [this, List.getElem?_cons_succ]
          exact h2
/-- A tree read by paths. -/
def getL {α : Type} : List Bool → T α → Option α
  | [], t => match t with
    | .inner _ _ v _ _ => v
    | .leaf => none
  | b :: p, t => match t with
    | .inner _ _ _ l r => bif b then getL p l else getL p r
    | .leaf => none
theorem getL_F {α : Type} : ∀ (n k : Nat) (t : T α), k < n → getL (pathF n k) t = t.get k := by
  intro n
  induction n with
  | zero => intro k t h; omega
  | succ n ih =>
    intro k t h
    unfold pathF
    by_cases h0 : k = 0
    · subst h0
      cases t <;> rfl
    · have e0 : Nat.beq k 0 = false := Bool.eq_false_iff.2 fun e => h0 (Nat.eq_of_beq_eq_true e)
      rw [e0]
      by_cases h1 : k % 2 = 1
      · have e1 : Nat.beq (Nat.mod k 2) 1 = true := by rw [Nat.beq_eq]; exact h1
        rw [e1]
        cases t with
        | leaf => rfl
        | inner s x v l r =>
          rw [T.get, if_neg h0, if_pos h1]
          exact ih (k / 2) l (by omega)
      · have e1 : Nat.beq (Nat.mod k 2) 1 = false := Bool.eq_false_iff.2 fun e => h1 (Nat.eq_of_beq_eq_true e)
        rw [e1]
        cases t with
        | leaf => rfl
        | inner s x v l r =>
          rw [T.get, if_neg h0, if_neg h1]
          exact ih (k / 2 - 1) r (by omega)
theorem getL_eq {α : Type} (k : Nat) (t : T α) : getL (path k) t = t.get k := by rw [path_eq]; exact getL_F (k + 1) k t (by omega)
def funT (P : Program) : T Func := treeF 24 P.funcs.toList
def funQ (P : Program) (f : FuncId) : Option Func :=
  match getL (path f) (funT P) with
  | some fn => some fn
  | none => P.funcs[f]?
theorem funQ_eq (P : Program) (f : FuncId) : funQ P f = P.funcs[f]? := by
  unfold funQ
  rw [getL_eq]
  cases e : (funT P).get f with
  | none => rfl
  | some fn =>
    have := treeF_get _ _ _ _ e
    simpa using this.symm
def typT (P : Program) : T TypeInfo := treeF 24 P.types.toList
def infoQ (P : Program) (t : TypeId) : Option TypeInfo :=
  match getL (path t) (typT P) with
  | some i => some i
  | none => P.info? t
theorem info_some {P : Program} {t : TypeId} {i : TypeInfo} (h : P.types[t]? = some i) : P.info? t = some i := by
  unfold Tables.info?
  rw [if_pos (Array.getElem?_eq_some_iff.1 h).1]
  exact h
theorem infoQ_eq (P : Program) (t : TypeId) : infoQ P t = P.info? t := by
  unfold infoQ
  rw [getL_eq]
  cases e : (typT P).get t with
  | none => rfl
  | some i =>
    have := treeF_get _ _ _ _ e
    exact (info_some (by simpa using this)).symm
def undQ (P : Program) (t : TypeId) : Option TypeDesc :=
  match infoQ P t with
  | some { desc := .named _ u, .. } => (infoQ P u).map (·.desc)
  | some i => some i.desc
  | none => none
theorem undQ_eq (P : Program) (t : TypeId) : undQ P t = P.underlying t := by
  unfold undQ Program.underlying
  rw [infoQ_eq]
  simp only [infoQ_eq]
  rfl
end Go.Proofs.YtmjblbgalkjmiaaGreat.EX
/- Rows, values forced, runs of trees of operations: in continuations. -/
namespace Go.Proofs.YtmjblbgalkjmiaaGreat.EX
open Go
def FF : An := fun _ => False
def fN (n : Nat) (q : Nat → An) : An := Nat.rec (motive := fun _ => An) (q 0) (fun p _ => q (Nat.succ p)) n
theorem fN_eq (n : Nat) (q : Nat → An) : fN n q = q n := by cases n <;> rfl
def nthK (l : List Value) : Nat → (Option Value → An) → An :=
  List.rec (motive := fun _ => Nat → (Option Value → An) → An) (fun _ q => q none) (fun h _ ih i q => Nat.rec (motive := fun _ => An) (q (some h)) (fun p _ => ih p q) i) l
theorem nthK_eq (q : Option Value → An) : ∀ (l : List Value) (i : Nat), nthK l i q = q l[i]?
  | [], i => by simp [nthK]
  | h :: t, 0 => rfl
  | h :: t, i + 1 => by rw [List.getElem?_cons_succ]; exact nthK_eq q t i
/-- A cell written, where there is one. -/
def lsetK (l : List Value) : Nat → Value → (List Value → An) → An :=
  List.rec (motive := fun _ => Nat → Value → (List Value → An) → An) (fun _ _ _ => FF) (fun h t ih i v q => Nat.rec (motive := fun _ => An) (q (v :: t)) (fun p _ => ih p v fun t => q (h :: t)) i) l
theorem lsetK_eq (v : Value) : ∀ (l : List Value) (i : Nat) (q : List Value → An), lsetK l i v q = if i < l.length then q (l.set i v) else FF
  | [], i, q => rfl
  | h :: t, 0, q => by rw [if_pos (by simp)]; rfl
  | h :: t, i + 1, q => by
    rw [List.set_cons_succ]
    refine (lsetK_eq v t i fun t => q (h :: t)).trans ?_
    by_cases e : i < t.length
    · rw [if_pos e, if_pos (by simp; omega)]
    · rw [if_neg e, if_neg (by simp; omega)]
def fI (n : Int) (q : Int → An) : An := Int.rec (motive := fun _ => An) (fun m => fN m fun m => q (.ofNat m)) (fun m => fN m fun m => q (.negSucc m)) n
theorem fI_eq (n : Int) (q : Int → An) : fI n q = q n := by cases n with
  | ofNat m => exact fN_eq m fun m => q (.ofNat m)
  | negSucc m => exact fN_eq m fun m => q (.negSucc m)
def fA (a : Addr) (q : Addr → An) : An := fN a.block fun b => fN a.off fun o => Option.rec (motive := fun _ => An) (q ⟨b, o, none⟩) (fun s => q ⟨b, o, some s⟩) a.spot
theorem fA_eq (a : Addr) (q : Addr → An) : fA a q = q a := by
  obtain ⟨b, o, s⟩ := a
  unfold fA
  rw [fN_eq, fN_eq]
  cases s <;> rfl
/-- A value, forced. -/
def fV (v : Value) : (Value → An) → An :=
  Value.rec (motive_1 := fun _ => (Value → An) → An) (motive_2 := fun _ => (Array Value → An) → An) (motive_3 := fun _ => (List Value → An) → An)
    (fun b q => Bool.rec (q (.bool false)) (q (.bool true)) b) (fun k n q => fI n fun n => q (.int k n)) (fun k n q => q (.float k n)) (fun k x y q => q (.complex k x y)) (fun s q => q (.string s))
    (fun a q => Option.rec (motive := fun _ => An) (q (.pointer none)) (fun a => fA a fun a => q (.pointer (some a))) a)
    (fun a n c q => fN n fun n => fN c fun c => Option.rec (motive := fun _ => An) (q (.slice none n c)) (fun a => fA a fun a => q (.slice (some a) n c)) a)
    (fun m q => Option.rec (motive := fun _ => An) (q (.map none)) (fun m => fN m fun m => q (.map (some m))) m)
    (fun m q => q (.chan m))
    (fun fn _ _ p c q => p fun f => c fun c => q (.func fn f c))
    (fun q => q .nilFunc)
    (fun t _ p q => fN t fun t => p fun x => q (.iface t x))
    (fun q => q .nilIface)
    (fun _ p q => p fun cs => q (.agg cs))
    (fun _ p q => p fun cs => q (.tuple cs))
    (fun _ p q => p fun l => q ⟨l⟩)
    (fun q => q [])
    (fun _ _ p c q => p fun x => c fun s => q (x :: s)) v
theorem fV_eq (v : Value) : ∀ q, fV v q = q v := by
  refine Value.rec (motive_1 := fun v => ∀ q, fV v q = q v)
    (motive_2 := fun a => ∀ q : Array Value → An, fV (.agg a) (fun v => match v with | .agg a => q a | _ => FF) = q a)
    (motive_3 := fun l => ∀ q : List Value → An, fV (.agg ⟨l⟩) (fun v => match v with | .agg ⟨a⟩ => q a | _ => FF) = q l) ?_ ?_ ?_ ?_ ?_ ?_ ?_ ?_ ?_ ?_ ?_ ?_ ?_ ?_ ?_ ?_ ?_ ?_ v
  · intro b q; cases b <;> rfl
  · intro k n q; exact fI_eq n fun n => q (.int k n)
  · intro k n q; rfl
  · intro k x y q; rfl
  · intro s q; rfl
  · intro a q
    cases a with
    | none => rfl
    | some a => exact fA_eq a fun a => q (.pointer (some a))
  · intro a n c q
    have e0 : fV (.slice a n c) q = fN n fun n => fN c fun c => Option.rec (motive := fun _ => An) (q (.slice none n c)) (fun a => fA a fun a => q (.slice (some a) n c)) a := rfl
    rw [e0, fN_eq, fN_eq]
    cases a with
    | none => rfl
    | some a => exact fA_eq a fun a => q (.slice (some a) n c)
  · intro m q
    cases m with
    | none => rfl
    | some m => exact fN_eq m fun m => q (.map (some m))
  · intro m q; rfl
  · intro fn f c hf hc q
    have h1 := hf fun f => (fV (.agg c)) fun v => match v with | .agg c => q (.func fn f c) | _ => FF
    have h2 := hc fun c => q (.func fn f c)
    exact h1.trans h2
  · intro q; rfl
  · intro t x hx q
    exact (fN_eq t fun t => fV x fun x => q (.iface t x)).trans (hx fun x => q (.iface t x))
  · intro q; rfl
  · intro cs h q; exact h fun cs => q (.agg cs)
  · intro cs h q; exact h fun cs => q (.tuple cs)
  · intro l h q; exact h fun l => q ⟨l⟩
  · intro q; rfl
  · intro x s hx hs q
    have h1 := hx fun x => (fV (.agg ⟨s⟩)) fun v => match v with | .agg ⟨s⟩ => q (x :: s) | _ => FF
    exact h1.trans (hs fun s => q (x :: s))
/-- A heap, its tree another one; states, taken apart: so that nothing stays unreckoned. -/
def withT (h : Hp) (t : T Obj) (q : Hp → An) : An := Hp.rec (motive := fun _ => An) (fun _ n => q ⟨t, n⟩) h
theorem withT_eq (h : Hp) (t : T Obj) (q : Hp → An) : withT h t q = q ⟨t, h.n⟩ := rfl
def getH (s : St) (q : Hp → An) : An := St.rec (motive := fun _ => An) (fun _ _ _ h => q h) s
theorem getH_eq (s : St) (q : Hp → An) : getH s q = q s.h := rfl
def withH (s : St) (h : Hp) (q : St → An) : An := St.rec (motive := fun _ => An) (fun tm nt ds _ => q ⟨tm, nt, ds, h⟩) s
theorem withH_eq (s : St) (h : Hp) (q : St → An) : withH s h q = q ⟨s.tm, s.nt, s.ds, h⟩ := rfl
def withS (s : St) (t : T Value) (q : St → An) : An := St.rec (motive := fun _ => An) (fun _ nt ds h => q ⟨t, nt, ds, h⟩) s
def cellsK (o : Option Obj) (f : An) (q : List Value → TypeId → Nat × Nat → An) : An :=
  match o with
  | some (.cells ⟨cs⟩ t z) => q cs t z
  | _ => f
/-- A run of a tree of operations. -/
def runXK (P : Program) {α : Type} (s : Sem α) : Hp → (Except Value α → Hp → An) → An :=
  Sem.rec (motive := fun _ => Hp → (Except Value α → Hp → An) → An)
    (fun a h q => q (.ok a) h)
    (fun _ a _ ih h q => getK (path a.block) h.t fun o => cellsK o FF fun cs _ _ => bif a.spot.isSome then FF else nthK cs a.off fun v => Option.rec (motive := fun _ => An) FF (fun v => ih v h q) v)
    (fun _ a v _ ih h q => bif oneC v then getK (path a.block) h.t fun o => cellsK o FF fun cs t z => bif a.spot.isSome then FF else lsetK cs a.off v fun cs => setK (path a.block) (some (.cells ⟨cs⟩ t z)) h.t fun t => withT h t fun h => ih h q else FF)
    (fun o _ ih h q => fN (Nat.mul 2 h.n) fun b => setK (path b) (some o) h.t fun t => fN (Nat.succ h.n) fun n => ih b ⟨t, n⟩ q)
    (fun _ _ _ _ _ => FF) (fun _ _ _ _ _ _ => FF)
    (fun a _ ih h q => getK (path a.block) h.t fun o => cellsK o FF fun _ _ z => match z with | (0, 0) => ih false h q | _ => FF)
    (fun b _ ih h q => getK (path b) h.t fun o => match o with
      | some (.cells ..) => FF
      | some o => ih o h q
      | none => FF)
    (fun b o _ ih h q => getK (path b) h.t fun u => match u with
      | some (.cells ..) => FF
      | some _ => match o with
        | .cells .. => FF
        | o => setK (path b) (some o) h.t fun t => withT h t fun h => ih h q
      | none => FF)
    (fun c _ ih h q => bif c.forced then ih 0 h q else FF)
    (fun _ _ _ _ _ => FF)
    (fun _ ih h q => ih P h q)
    (fun _ _ ih h q => ih h q)
    (fun x h q => match x with
      | .panic v => q (.error v) h
      | _ => FF) s
theorem runXK_eq {P : Program} {α : Type} (s : Sem α) : ∀ (h : Hp) (q : Except Value α → Hp → An), runXK P s h q = match runX P s h with | some (x, h1) => q x h1 | none => FF := by
  induction s with
  | pure a => intro h q; rfl
  | load m a k ih =>
    intro h q
    refine (getK_eq _ _ _).trans ?_
    simp only [runX]
    cases h.t.get a.block with
    | none => rfl
    | some o =>
      cases o with
      | cells cs t z =>
        obtain ⟨cs⟩ := cs
        dsimp only [cellsK]
        cases a.spot.isSome with
        | true => rfl
        | false =>
          refine (nthK_eq _ _ _).trans ?_
          simp only [Bool.false_eq_true, if_false]
          cases cs[a.off]? with
          | none => rfl
          | some v => exact ih v h q
      | _ => rfl
  | store m a v k ih =>
    intro h q
    simp only [runX]
    have e0 : runXK P (.store m a v k) h q = bif oneC v then getK (path a.block) h.t fun o => cellsK o FF fun cs t z => bif a.spot.isSome then FF else lsetK cs a.off v fun cs => setK (path a.block) (some (.cells ⟨cs⟩ t z)) h.t fun t => withT h t fun h => runXK P k h q else FF := rfl
    rw [e0]
    cases oneC v with
    | false => rfl
    | true =>
      dsimp only [cond, if_true]
      rw [getK_eq]
      cases h.t.get a.block with
      | none => rfl
      | some o =>
        cases o with
        | cells cs t z =>
          obtain ⟨cs⟩ := cs
          dsimp only [cellsK]
          cases a.spot.isSome with
          | true => rfl
          | false =>
            simp only [Bool.false_eq_true, if_false, if_true]
            rw [lsetK_eq]
            by_cases hl : a.off < cs.length
            · rw [if_pos hl, if_pos hl]
              exact (setK_eq _ _ _ _).trans (ih _ q)
            · rw [if_neg hl, if_neg hl]
        | _ => rfl
  | new o k ih =>
    intro h q
    simp only [runX]
    have e0 : runXK P (.new o k) h q = fN (Nat.mul 2 h.n) fun b => setK (path b) (some o) h.t fun t => fN (Nat.succ h.n) fun n => runXK P (k b) ⟨t, n⟩ q := rfl
    rw [e0, fN_eq, setK_eq, fN_eq]
    exact ih _ _ q
  | shape x k ih => intro h q; rfl
  | freeze a n k ih => intro h q; rfl
  | frozen a k ih =>
    intro h q
    refine (getK_eq _ _ _).trans ?_
    simp only [runX]
    cases h.t.get a.block with
    | none => rfl
    | some o =>
      cases o with
      | cells cs t z =>
        obtain ⟨z1, z2⟩ := z
        match z1, z2 with
        | 0, 0 => exact ih false h q
        | 0, _ + 1 => rfl
        | _ + 1, _ => rfl
      | _ => rfl
  | getObj b k ih =>
    intro h q
    refine (getK_eq _ _ _).trans ?_
    simp only [runX]
    cases h.t.get b with
    | none => rfl
    | some o => cases o <;> first | rfl | exact ih _ h q
  | setObj b o k ih =>
    intro h q
    refine (getK_eq _ _ _).trans ?_
    simp only [runX]
    cases h.t.get b with
    | none => rfl
    | some u => cases u <;> first | rfl | (cases o <;> first | rfl | exact (setK_eq _ _ _ _).trans (ih _ q))
  | choose c k ih =>
    intro h q
    simp only [runX]
    have e0 : runXK P (.choose c k) h q = bif c.forced then runXK P (k 0) h q else FF := rfl
    rw [e0]
    cases c.forced with
    | false => rfl
    | true => exact ih 0 h q
  | sys c k ih => intro h q; rfl
  | program k ih => intro h q; exact ih P h q
  | mark m k ih => intro h q; exact ih h q
  | halt x => intro h q; cases x <;> rfl
end Go.Proofs.YtmjblbgalkjmiaaGreat.EX
/- One operation, in continuations. -/
namespace Go.Proofs.YtmjblbgalkjmiaaGreat.EX
open Go
section
variable {P : Program}
def evK (s : St) (x : Operand) (q : Value → An) : An :=
  match x with
  | .tmp t => getK (path t) s.tm fun o => Option.rec (motive := fun _ => An) (q undef) q o
  | .const v => q v
  | .func f => q (.func (.func f) #[] #[])
  | .global _ => FF
theorem evK_eq (s : St) (x : Operand) (q : Value → An) (h : opdOK x = true) : evK s x q = q (s.ev x) := by
  cases x with
  | tmp t =>
    refine (getK_eq _ _ _).trans ?_
    simp only [St.ev]
    cases s.tm.get t <;> rfl
  | global g => cases h
  | _ => rfl
def accOf (s : St) : List Operand → (Nat → Value) → Nat → Value
  | [], acc => acc
  | .tmp t :: l, acc => accOf s l fun u => bif Nat.beq u t then s.ev (.tmp t) else acc u
  | .const _ :: l, acc => accOf s l acc
  | .global _ :: l, acc => accOf s l acc
  | .func _ :: l, acc => accOf s l acc
theorem accOf_eq (s : St) : ∀ (l : List Operand) (acc : Nat → Value) (t : Nat), (.tmp t ∈ l ∨ acc t = s.ev (.tmp t)) → accOf s l acc t = s.ev (.tmp t)
  | [], acc, t, h => by simpa [accOf] using h
  | .tmp u :: l, acc, t, h => by
    rw [accOf]
    refine accOf_eq s l _ t ?_
    by_cases e : t = u
    · subst e
      right
      have : Nat.beq t t = true := Nat.beq_refl t
      rw [this]
      rfl
    · have : Nat.beq t u = false := Bool.eq_false_iff.2 fun k => e (Nat.eq_of_beq_eq_true k)
      rw [this]
      rcases h with h | h
      · simp at h
        rcases h with h | h
        · exact absurd h e
        · exact .inl h
      · exact .inr h
  | .const v :: l, acc, t, h | .global v :: l, acc, t, h | .func v :: l, acc, t, h => by
    rw [accOf]
    refine accOf_eq s l _ t ?_
    rcases h with h | h
    · simp at h; exact .inl h
    · exact .inr h
def opdsK (s : St) (l : List Operand) : (Nat → Value) → ((Nat → Value) → An) → An :=
  List.rec (motive := fun _ => (Nat → Value) → ((Nat → Value) → An) → An) (fun acc q => q acc)
    (fun x _ ih acc q => match x with
      | .tmp t => getK (path t) s.tm fun o => Option.rec (motive := fun _ => An) (ih (fun u => bif Nat.beq u t then undef else acc u) q) (fun v => ih (fun u => bif Nat.beq u t then v else acc u) q) o
      | _ => ih acc q) l
theorem opdsK_eq (s : St) : ∀ (l : List Operand) (acc : Nat → Value) (q : (Nat → Value) → An), opdsK s l acc q = q (accOf s l acc)
  | [], _, _ => rfl
  | .tmp t :: l, acc, q => by
    refine (getK_eq _ _ _).trans ?_
    have := opdsK_eq s l (fun u => bif Nat.beq u t then s.ev (.tmp t) else acc u) q
    rw [accOf, ← this]
    simp only [St.ev]
    cases s.tm.get t <;> rfl
  | .const v :: l, acc, q | .global v :: l, acc, q | .func v :: l, acc, q => by rw [accOf]; exact opdsK_eq s l acc q
def rho (acc : Nat → Value) : Operand → Value
  | .tmp t => acc t
  | .const v => v
  | .global g => .pointer (some ⟨g, 0, none⟩)
  | .func f => .func (.func f) #[] #[]
theorem rho_eq (s : St) (l : List Operand) (acc : Nat → Value) : ∀ x ∈ l, rho (accOf s l acc) x = s.ev x := by
  intro x hx
  cases x with
  | tmp t => exact accOf_eq s l acc t (.inl hx)
  | _ => rfl
/-- What an operation tells, forced. -/
def fL (l : List Value) : (List Value → An) → An :=
  List.rec (motive := fun _ => (List Value → An) → An) (fun q => q []) (fun x _ ih q => fV x fun x => ih fun s => q (x :: s)) l
theorem fL_eq : ∀ (l : List Value) (q : List Value → An), fL l q = q l
  | [], _ => rfl
  | x :: s, q => (fV_eq x fun x => fL s fun s => q (x :: s)).trans (fL_eq s _)
def fNext (x : Except Value Next) (q : Except Value Next → An) : An :=
  match x with
  | .ok (.value v) => fV v fun v => q (.ok (.value v))
  | .ok (.enter f ⟨l⟩) => fN f fun f => fL l fun l => q (.ok (.enter f ⟨l⟩))
  | .error v => fV v fun v => q (.error v)
  | x => q x
theorem fNext_eq (x : Except Value Next) (q : Except Value Next → An) : fNext x q = q x := by
  cases x with
  | error v => exact fV_eq v fun v => q (.error v)
  | ok x =>
    cases x with
    | value v => exact fV_eq v fun v => q (.ok (.value v))
    | enter f args => exact (fN_eq f fun f => fL args.toList fun l => q (.ok (.enter f ⟨l⟩))).trans (fL_eq args.toList fun l => q (.ok (.enter f ⟨l⟩)))
    | _ => rfl
/-- An object, forced. -/
def fO (o : Obj) (q : Obj → An) : An :=
  match o with
  | .cells ⟨l⟩ t z => fL l fun l => q (.cells ⟨l⟩ t z)
  | o => q o
theorem fO_eq (o : Obj) (q : Obj → An) : fO o q = q o := by
  cases o with
  | cells c t z => exact fL_eq c.toList fun l => q (.cells ⟨l⟩ t z)
  | _ => rfl
/-- Entries, forced. -/
def fE (l : List MapEntry) : (List MapEntry → An) → An :=
  List.rec (motive := fun _ => (List MapEntry → An) → An) (fun q => q []) (fun x _ ih q => fV x.key fun k => fV x.val fun v => fN x.born fun b => ih fun s => q (⟨k, v, b⟩ :: s)) l
theorem fE_eq : ∀ (l : List MapEntry) (q : List MapEntry → An), fE l q = q l
  | [], _ => rfl
  | x :: s, q => by
    have e : fE (x :: s) q = fV x.key fun k => fV x.val fun v => fN x.born fun b => fE s fun s => q (⟨k, v, b⟩ :: s) := rfl
    rw [e, fV_eq, fV_eq, fN_eq, fE_eq]
def statOK (o : Oper) : Bool := o.op.operands.toList.all opdOK && noSel o.op
def genK (P : Program) (s : St) (o : Oper) (q : Except Value Next → Hp → An) : An :=
  bif statOK o then opdsK s o.op.operands.toList (fun _ => undef) fun acc =>
    getH s fun sh => bif okOp P (rho acc) o.op then runXK P (execOp (rho acc) o) sh fun x h => fNext x fun x => q x h
    else match appOp o.op with
    | some (ts, as) => match appP P ts (as.map (rho acc)) sh with
      | some (v, ob, none) => fV v fun v => fO ob fun ob => fN (Nat.succ (Nat.mul 2 sh.n)) fun b => setK (path b) (some ob) sh.t fun t => fN (Nat.add sh.n 6) fun n => q (.ok (.value v)) ⟨t, n⟩
      | some (v, ob, some d) => fV v fun v => fO ob fun ob => setK (path d) none sh.t fun t => fN (Nat.succ (Nat.mul 2 sh.n)) fun b => setK (path b) (some ob) t fun t => fN (Nat.add sh.n 6) fun n => q (.ok (.value v)) ⟨t, n⟩
      | none => FF
    | none => bif mapOp o.op then
      match mapX P o.op (rho acc) sh with
      | some (n, none) => fNext (.ok n) fun x => q x sh
      | some (n, some (b, es, c)) => fNext (.ok n) fun x => fE es fun es => fN c fun c => setK (path b) (some (.map ⟨es⟩ c)) sh.t fun t => withT sh t fun h => q x h
      | none => FF
    else bif o.op.operands.toList.all fun x => closed 64 (rho acc x) then
      match runP P (execOp (rho acc) o) with
      | some (.value v) => bif closed 64 v then fV v fun v => q (.ok (.value v)) sh else FF
      | _ => FF
    else match markX P o.op (rho acc) sh with
      | some (v, b, ob, n1) => fV v fun v => fO ob fun ob => fN b fun b => setK (path b) (some ob) sh.t fun t => fN n1 fun n1 => q (.ok (.value v)) ⟨t, n1⟩
      | none => match cutX P o.op (rho acc) sh with
        | some v => fV v fun v => q (.ok (.value v)) sh
        | none => FF
  else FF
theorem genK_eq (s : St) (o : Oper) (q : Except Value Next → Hp → An) : genK P s o q = match opStep P s o with | some (x, h1) => q x h1 | none => FF := by
  unfold genK opStep
  cases hk : statOK o with
  | false =>
    have : (o.op.operands.toList.all opdOK && noSel o.op) = false := hk
    rw [this]
    rfl
  | true =>
    have hk' : (o.op.operands.toList.all opdOK && noSel o.op) = true := hk
    rw [if_pos hk']
    dsimp only [cond]
    rw [opdsK_eq, getH_eq]
    simp only [Bool.and_eq_true] at hk'
    have hns : ∀ cs b, o.op ≠ .select cs b := fun cs b q => by have := hk'.2; rw [q] at this; cases this
    have hag : ∀ x ∈ o.op.operands, rho (accOf s o.op.operands.toList fun _ => undef) x = s.ev x := fun x hx => rho_eq s _ _ x (by simpa using hx)
    have c1 : execOp (rho (accOf s o.op.operands.toList fun _ => undef)) o = execOp s.ev o := execOp_congr o hns hag
    have c2 : okOp P (rho (accOf s o.op.operands.toList fun _ => undef)) o.op = okOp P s.ev o.op := okOp_congr o.op hag
    have c3 : (o.op.operands.toList.all fun x => closed 64 (rho (accOf s o.op.operands.toList fun _ => undef) x)) = o.op.operands.toList.all fun x => closed 64 (s.ev x) := by
      rw [Bool.eq_iff_iff, List.all_eq_true, List.all_eq_true]
      constructor
      · intro h x hx; rw [← rho_eq s _ _ x hx]; exact h x hx
      · intro h x hx; rw [rho_eq s _ _ x hx]; exact h x hx
    rw [c1, c2, c3]
    cases okOp P s.ev o.op with
    | true =>
      dsimp only [cond]
      rw [runXK_eq, if_pos rfl]
      cases runX P (execOp s.ev o) s.h with
      | none => rfl
      | some p => exact fNext_eq _ _
    | false =>
      dsimp only [cond]
      simp only [Bool.false_eq_true, if_false]
      cases hao : appOp o.op with
      | some ta =>
        obtain ⟨ts, as⟩ := ta
        have hm : as.map (rho (accOf s o.op.operands.toList fun _ => undef)) = as.map s.ev := Array.map_congr_left fun x hx => hag x (appOp_mem hao x (by simpa using hx))
        dsimp only
        rw [hm]
        unfold appX
        cases appP P ts (as.map s.ev) s.h with
        | none => rfl
        | some p =>
          obtain ⟨v, ob, d⟩ := p
          cases d with
          | none =>
            dsimp only
            rw [fV_eq, fO_eq, fN_eq, setK_eq, fN_eq]
            rfl
          | some d =>
            dsimp only
            rw [fV_eq, fO_eq, setK_eq, fN_eq, setK_eq, fN_eq]
            rfl
      | none =>
      dsimp only
      cases hmo : mapOp o.op with
      | true =>
        dsimp only
        rw [if_pos rfl]
        have c4 : mapX P o.op (rho (accOf s o.op.operands.toList fun _ => undef)) s.h = mapX P o.op s.ev s.h := mapX_congr o.op s.h hag
        rw [c4]
        cases mapX P o.op s.ev s.h with
        | none => rfl
        | some y =>
          obtain ⟨n, u⟩ := y
          cases u with
          | none => exact fNext_eq _ _
          | some u =>
            obtain ⟨b, es, c⟩ := u
            dsimp only
            rw [fNext_eq, fE_eq, fN_eq, setK_eq]
            rfl
      | false =>
      dsimp only
      rw [if_neg (by decide)]
      cases (o.op.operands.toList.all fun x => closed 64 (s.ev x)) with
      | false =>
        dsimp only [cond]
        rw [if_neg (by decide)]
        have c4 : markX P o.op (rho (accOf s o.op.operands.toList fun _ => undef)) s.h = markX P o.op s.ev s.h := markX_congr o.op s.h hag
        have c5 : cutX P o.op (rho (accOf s o.op.operands.toList fun _ => undef)) s.h = cutX P o.op s.ev s.h := cutX_congr o.op s.h hag
        rw [c4, c5]
        cases markX P o.op s.ev s.h with
        | none =>
          dsimp only
          cases cutX P o.op s.ev s.h with
          | none => rfl
          | some v => exact fV_eq v fun v => q (.ok (.value v)) s.h
        | some y =>
          obtain ⟨v, b, ob, n1⟩ := y
          dsimp only
          rw [fV_eq, fO_eq, fN_eq, setK_eq, fN_eq]
      | true =>
        simp only [if_true]
        cases runP P (execOp s.ev o) with
        | none => rfl
        | some n =>
          cases n with
          | value v =>
            dsimp only
            cases hc : closed 64 v with
            | false => rw [if_neg (by decide)]
            | true => rw [if_pos rfl]; exact fV_eq v fun v => q (.ok (.value v)) s.h
          | _ => rfl
/-- Numbers of a kind that are not negative lie below this. -/
def lim : IntKind → Nat
  | .i8 => 128 | .i16 => 32768 | .i32 => 2147483648 | .i64 => 9223372036854775808
  | .u8 => 256 | .u16 => 65536 | .u32 => 4294967296 | .u64 => 18446744073709551616
theorem wrap_lim (k : IntKind) (n : Nat) (h : n < lim k) : k.wrap (Int.ofNat n) = Int.ofNat n := by
  have e : ∀ m : Nat, Int.ofNat m = (m : Int) := fun _ => rfl
  simp only [e]
  cases k <;> simp only [lim] at h <;> simp [IntKind.wrap, IntKind.bits, IntKind.signed] <;> omega
def kno : IntKind → Nat
  | .i8 => 0 | .i16 => 1 | .i32 => 2 | .i64 => 3 | .u8 => 4 | .u16 => 5 | .u32 => 6 | .u64 => 7
theorem kno_inj {a b : IntKind} (h : Nat.beq (kno a) (kno b) = true) : a = b := by
  cases a <;> cases b <;> first | rfl | cases h
/-- Sums and tests of numbers that are not negative. -/
def numK (k : IntKind) (c : Nat) (q : Value → An) (g : An) : An := bif Nat.ble (Nat.succ c) (lim k) then q (.int k (.ofNat c)) else g
def bitK (b : Bool) (q : Value → An) : An := Bool.rec (q (.bool false)) (q (.bool true)) b
theorem bitK_eq (b : Bool) (q : Value → An) : bitK b q = q (.bool b) := by cases b <;> rfl
def binI (op : BinOp) (k : IntKind) (a b : Nat) (q : Value → An) (g : An) : An :=
  match op with
  | .add => fN (Nat.add a b) fun c => numK k c q g
  | .sub => bif Nat.ble b a then fN (Nat.sub a b) fun c => numK k c q g else g
  | .mul => fN (Nat.mul a b) fun c => numK k c q g
  | .eql => bitK (Nat.beq a b) q
  | .neq => bitK (Bool.not (Nat.beq a b)) q
  | .lss => bitK (Nat.ble (Nat.succ a) b) q
  | .leq => bitK (Nat.ble a b) q
  | .gtr => bitK (Nat.ble (Nat.succ b) a) q
  | .geq => bitK (Nat.ble b a) q
  | _ => g
theorem numK_ok {k : IntKind} {c : Nat} {q : Value → An} {g : An} {n : Prop} (h : numK k c q g n) : g n ∨ (c < lim k ∧ q (.int k (.ofNat c)) n) := by
  unfold numK at h
  cases e : Nat.ble (Nat.succ c) (lim k) with
  | false => rw [e] at h; exact .inl h
  | true => rw [e] at h; exact .inr ⟨Nat.le_of_ble_eq_true e, h⟩
theorem bleD (a b : Nat) : Nat.ble a b = decide ((a : Int) ≤ (b : Int)) := by
  by_cases h : a ≤ b
  · rw [Nat.ble_eq_true_of_le h]; simp; omega
  · have : Nat.ble a b = false := Bool.eq_false_iff.2 fun k => h (Nat.le_of_ble_eq_true k)
    rw [this]; simp; omega
theorem bltD (a b : Nat) : Nat.ble (Nat.succ a) b = decide ((a : Int) < (b : Int)) := by
  rw [bleD]
  rw [Nat.succ_eq_add_one, Int.natCast_add]
  rfl
theorem beqD (a b : Nat) : Nat.beq a b = ((a : Int) == (b : Int)) := by
  by_cases h : a = b
  · subst h; simp [Nat.beq_refl]
  · have : Nat.beq a b = false := Bool.eq_false_iff.2 fun k => h (Nat.eq_of_beq_eq_true k)
    rw [this]
    simp
    omega
theorem binI_ok {op : BinOp} {k : IntKind} {a b : Nat} {q : Value → An} {g : An} {n : Prop} (t : TypeId) (h : binI op k a b q g n) :
    g n ∨ ∃ r, closed 64 r = true ∧ runP P (Go.binOp op t (.int k (.ofNat a)) (.int k (.ofNat b))) = some r ∧ q r n := by
  have num : ∀ (c : Nat) (z : Int), z = Int.ofNat c → runP P (Go.binOp op t (.int k (.ofNat a)) (.int k (.ofNat b))) = some (.int k (k.wrap z)) → numK k c q g n → g n ∨ ∃ r, closed 64 r = true ∧ runP P (Go.binOp op t (.int k (.ofNat a)) (.int k (.ofNat b))) = some r ∧ q r n := fun c z hz hr h => by
    rcases numK_ok h with h | ⟨h1, h2⟩
    · exact .inl h
    · rw [hz, wrap_lim k c h1] at hr
      exact .inr ⟨_, rfl, hr, h2⟩
  have bit : ∀ (x : Bool), runP P (Go.binOp op t (.int k (.ofNat a)) (.int k (.ofNat b))) = some (.bool x) → bitK x q n → g n ∨ ∃ r, closed 64 r = true ∧ runP P (Go.binOp op t (.int k (.ofNat a)) (.int k (.ofNat b))) = some r ∧ q r n := fun x hr h => by
    rw [bitK_eq] at h
    exact .inr ⟨_, rfl, hr, h⟩
  cases op with
  | add =>
    simp only [binI, fN_eq] at h
    exact num _ _ (by rfl) (by simp [Go.binOp, Op.intArith]; rfl) h
  | sub =>
    simp only [binI, fN_eq] at h
    cases e : Nat.ble b a with
    | false => rw [e] at h; exact .inl h
    | true =>
      rw [e] at h
      have := Nat.le_of_ble_eq_true e
      exact num _ (Int.ofNat a - Int.ofNat b) (by show (a : Int) - (b : Int) = ((a - b : Nat) : Int); omega) (by simp [Go.binOp, Op.intArith]; rfl) h
  | mul =>
    simp only [binI, fN_eq] at h
    exact num _ (Int.ofNat a * Int.ofNat b) (by rfl) (by simp [Go.binOp, Op.intArith]; rfl) h
  | eql => exact bit _ (by rw [beqD]; simp [Go.binOp, Op.intCmp]; rfl) h
  | neq => exact bit _ (by rw [beqD]; simp [Go.binOp, Op.intCmp]; rfl) h
  | lss => exact bit _ (by rw [bltD]; simp [Go.binOp, Op.intCmp]; rfl) h
  | leq => exact bit _ (by rw [bleD]; simp [Go.binOp, Op.intCmp]; rfl) h
  | gtr => exact bit _ (by rw [bltD]; simp [Go.binOp, Op.intCmp]; rfl) h
  | geq => exact bit _ (by rw [bleD]; simp [Go.binOp, Op.intCmp]; rfl) h
  | _ => exact .inl h
def opK (P : Program) (s : St) (o : Oper) (q : Except Value Next → Hp → An) : An :=
  match o.op with
  | .move x => bif opdOK x then evK s x fun v => getH s fun h => q (.ok (.value v)) h else FF
  | .assign x => bif opdOK x then evK s x fun v => getH s fun h => q (.ok (.value v)) h else FF
  | .binOp op _ x y _ => bif opdOK x && opdOK y then evK s x fun v => evK s y fun u => match v, u with
    | .int k (.ofNat a), .int k' (.ofNat b) => bif Nat.beq (kno k) (kno k') then binI op k a b (fun r => getH s fun h => q (.ok (.value r)) h) (genK P s o q) else genK P s o q
    | _, _ => genK P s o q
    else FF
  | _ => genK P s o q
theorem opStep_bin (s : St) (o : Oper) {op : BinOp} {t yt : TypeId} {x y : Operand} (ho : o.op = .binOp op t x y yt) (hx : opdOK x = true) (hy : opdOK y = true) {k : IntKind} {a b : Nat} (ex : s.ev x = .int k (.ofNat a)) (ey : s.ev y = .int k (.ofNat b)) {r : Value} (hr : runP P (Go.binOp op t (.int k (.ofNat a)) (.int k (.ofNat b))) = some r) (hc : closed 64 r = true) :
    opStep P s o = some (.ok (.value r), s.h) := by
  obtain ⟨dst, o', type, pos, after, guard⟩ := o
  simp only at ho
  subst ho
  have e1 : runP P (execOp s.ev ⟨dst, .binOp op t x y yt, type, pos, after, guard⟩) = some (.value r) := by
    show runP P (do let v ← (do eqGuard op t x y (s.ev x) (s.ev y); Go.binOp op t (s.ev x) (s.ev y)); pure (Next.value v)) = _
    rw [ex, ey]
    have e2 : eqGuard op t x y (.int k (.ofNat a)) (.int k (.ofNat b)) = pure () := by
      unfold eqGuard
      cases op <;> rfl
    rw [e2]
    have key : ∀ (m : Sem Value), runP P m = some r → runP P (m.bind fun v => Sem.pure (Next.value v)) = some (.value r) := by
      intro m
      induction m with
      | pure v => intro h; cases h; rfl
      | program k ih => intro h; exact ih P h
      | mark x k ih => intro h; first | exact ih h | cases h
      | choose c k ih =>
        intro h
        simp only [runP] at h
        simp only [Sem.bind, runP]
        split at h
        · rename_i hf; rw [if_pos hf]; exact ih 0 h
        · cases h
      | _ => intro h; cases h
    exact key _ hr
  have ok : okOp P s.ev (.binOp op t x y yt) = false := by cases op <;> first | rfl | (simp only [okOp, ex, ey]; rfl)
  unfold opStep
  rw [e1]
  simp [Op.operands, hx, hy, noSel, ok, ex, ey, closed, hc, appOp, mapOp]
theorem opStep_move (s : St) (o : Oper) (x : Operand) (h : o.op = .move x ∨ o.op = .assign x) (k : opdOK x = true) : opStep P s o = some (.ok (.value (s.ev x)), s.h) := by
  obtain ⟨dst, op, type, pos, after, guard⟩ := o
  unfold opStep
  rcases h with h | h <;> (simp only at h; subst h; simp [Op.operands, k, noSel, okOp]; rfl)
theorem opK_eq (s : St) (o : Oper) (q : Except Value Next → Hp → An) (n : Prop) (h : opK P s o q n) : ∃ x h1, opStep P s o = some (x, h1) ∧ q x h1 n := by
  have gen : genK P s o q n → ∃ x h1, opStep P s o = some (x, h1) ∧ q x h1 n := fun h => by
    rw [genK_eq] at h
    cases e : opStep P s o with
    | none => rw [e] at h; exact h.elim
    | some p => rw [e] at h; exact ⟨p.1, p.2, rfl, h⟩
  have mv : ∀ x, (o.op = .move x ∨ o.op = .assign x) → (bif opdOK x then evK s x fun v => q (.ok (.value v)) s.h else FF) n → ∃ x h1, opStep P s o = some (x, h1) ∧ q x h1 n := fun x hx h => by
    cases hk : opdOK x with
    | false => rw [hk] at h; exact h.elim
    | true =>
      rw [hk] at h
      dsimp only [cond] at h
      rw [evK_eq _ _ _ hk] at h
      exact ⟨_, _, opStep_move s o x hx hk, h⟩
  unfold opK at h
  cases ho : o.op with
  | move x => rw [ho] at h; exact mv x (.inl ho) h
  | assign x => rw [ho] at h; exact mv x (.inr ho) h
  | binOp op t x y yt =>
    rw [ho] at h
    dsimp only at h
    cases hx : opdOK x with
    | false => rw [hx] at h; exact h.elim
    | true =>
      cases hy : opdOK y with
      | false => rw [hx, hy] at h; exact h.elim
      | true =>
        rw [hx, hy] at h
        dsimp only [cond, Bool.and_self] at h
        rw [evK_eq _ _ _ hx, evK_eq _ _ _ hy] at h
        cases ex : s.ev x with
        | int k a => cases a with
          | negSucc a => rw [ex] at h; exact gen h
          | ofNat a => cases ey : s.ev y with
            | int k' b => cases b with
              | negSucc b => rw [ex, ey] at h; exact gen h
              | ofNat b =>
                rw [ex, ey] at h
                dsimp only at h
                cases hk : Nat.beq (kno k) (kno k') with
                | false => rw [hk] at h; exact gen h
                | true =>
                  have := kno_inj hk
                  subst this
                  rw [hk] at h
                  rcases binI_ok (P := P) t h with h | ⟨r, h1, h2, h3⟩
                  · exact gen h
                  · exact ⟨_, _, opStep_bin s o ho hx hy ex ey h2 h1, h3⟩
            | _ => rw [ex, ey] at h; exact gen h
        | _ => rw [ex] at h; exact gen h
  | _ => rw [ho] at h; exact gen h
end
end Go.Proofs.YtmjblbgalkjmiaaGreat.EX
/- The next one of a range over a map: each that may come. -/
namespace Go.Proofs.YtmjblbgalkjmiaaGreat.EX
open Go
section
variable {P : Program}
def candL (seen : List Nat) (since : Nat) (l : List MapEntry) : List (Option MapEntry) :=
  (bif ((l.filter fun e => !(seen.elem e.born)).filter fun x => Nat.ble (Nat.succ x.born) since).isEmpty then [none] else []) ++ (((l.filter fun e => !(seen.elem e.born)).filter fun x => Nat.ble (Nat.succ x.born) since) ++ ((l.filter fun e => !(seen.elem e.born)).filter fun x => Nat.ble since x.born)).map some
theorem candL_eq (seen : Array Nat) (since : Nat) (l : List MapEntry) : candL seen.toList since l = (candA seen since l).toList := by
  rw [candA_list]
  unfold candL
  have e1 : (fun e : MapEntry => !(seen.toList.elem e.born)) = fun e => !seen.contains e.born := by
    funext e
    simp
  have e2 : (fun x : MapEntry => Nat.ble (Nat.succ x.born) since) = fun x => decide (x.born < since) := by
    funext x
    by_cases h : x.born < since
    · rw [Nat.ble_eq_true_of_le h]; simp [h]
    · have : Nat.ble (Nat.succ x.born) since = false := Bool.eq_false_iff.2 fun k => h (Nat.le_of_ble_eq_true k)
      rw [this]; simp [h]
  have e3 : (fun x : MapEntry => Nat.ble since x.born) = fun x => decide (x.born ≥ since) := by
    funext x
    by_cases h : since ≤ x.born
    · rw [Nat.ble_eq_true_of_le h]; simp [h]
    · have : Nat.ble since x.born = false := Bool.eq_false_iff.2 fun k => h (Nat.le_of_ble_eq_true k)
      rw [this]; simp [h]
  rw [e1, e2, e3]
  cases ((l.filter fun e => !seen.contains e.born).filter fun x => decide (x.born < since)).isEmpty <;> simp
theorem candL_ne (seen : Array Nat) (since : Nat) (l : List MapEntry) : (candA seen since l).size ≠ 0 := by
  have : (candA seen since l).toList ≠ [] := by
    rw [candA_list]
    intro h
    rw [List.append_eq_nil_iff] at h
    obtain ⟨h1, h2⟩ := h
    rw [List.map_eq_nil_iff, List.append_eq_nil_iff] at h2
    rw [h2.1] at h1
    simp at h1
  intro h
  exact this (by rw [← List.length_eq_zero_iff, Array.length_toList, h])
def candK (l : List (Option MapEntry)) : (Option MapEntry → An) → An :=
  List.rec (motive := fun _ => (Option MapEntry → An) → An) (fun _ N => N) (fun c _ ih f N => f c (ih f N)) l
theorem candK_th {f : Option MapEntry → An} (hf : ∀ c N, f c N → N) : ∀ (l : List (Option MapEntry)) (N : Prop), candK l f N → N
  | [], _, h => h
  | c :: l, N, h => candK_th hf l N (hf c _ h)
theorem candK_all {f : Option MapEntry → An} (hf : ∀ c N, f c N → N) : ∀ (l : List (Option MapEntry)) (N : Prop), candK l f N → ∀ c ∈ l, ∃ N', f c N'
  | [], _, _, _, hc => by cases hc
  | d :: l, N, h, c, hc => by
    rcases List.mem_cons.1 hc with rfl | hc
    · exact ⟨_, h⟩
    · exact candK_all hf l N (hf d _ h) c hc
def fNs (l : List Nat) : (List Nat → An) → An :=
  List.rec (motive := fun _ => (List Nat → An) → An) (fun q => q []) (fun x _ ih q => fN x fun x => ih fun s => q (x :: s)) l
theorem fNs_eq : ∀ (l : List Nat) (q : List Nat → An), fNs l q = q l
  | [], _ => rfl
  | x :: s, q => (fN_eq x fun x => fNs s fun s => q (x :: s)).trans (fNs_eq s _)
/-- One that may come. -/
def comeK (s : St) (rb m since : Nat) (seen : List Nat) (clock : Nat) (q : Except Value Next → Hp → An) (c : Option MapEntry) : An :=
  match c with
  | none => getH s fun h => q (.ok (.value (.tuple ⟨[.bool false]⟩))) h
  | some e => getH s fun h => fV (.tuple ⟨[.bool true, e.key, e.val]⟩) fun v => fNs (seen ++ [e.born]) fun sn => setK (path rb) (some (.mapIter (some m) since ⟨sn⟩ clock)) h.t fun t => withT h t fun h => q (.ok (.value v)) h
def nextK (s : St) (it : Operand) (q : Except Value Next → Hp → An) (g : An) : An :=
  bif opdOK it then evK s it fun v => match v with
    | .pointer (some ⟨rb, 0, _⟩) => Bool.rec (motive := fun _ => An) g (getK (path rb) s.h.t fun o => match o with
      | some (.mapIter (some m) since ⟨seen⟩ last) => getK (path m) s.h.t fun o => match o with
        | some (.map ⟨l⟩ clock) => bif !seen.isEmpty && !l.isEmpty && l.all fun e => decide (e.born ≥ last) then FF else candK (candL seen since l) (comeK s rb m since seen clock q)
        | _ => FF
      | _ => g) (Nat.beq (Nat.mod rb 2) 0)
    | _ => g
  else FF
theorem next_run {r : Env} {h : Hp} {w : World} (H : HR r h w) (hT : Tidy h) {rb rb' m since last clock : Nat} {sp : Option Nat} {seen : List Nat} {l : List MapEntry} (hr : r rb rb') (g1 : h.t.get rb = some (.mapIter (some m) since ⟨seen⟩ last)) (g2 : h.t.get m = some (.map ⟨l⟩ clock))
    (hc : (!seen.isEmpty && !l.isEmpty && l.all fun e => decide (e.born ≥ last)) = false) (ty : TypeId) : ∃ c ∈ candL seen since l, match (generalizing := false) c with
      | none => (Instr.next (.pointer (some ⟨rb', 0, sp⟩)) false ty).run P w = .ok (.tuple ⟨[.bool false]⟩) w ∨ (Instr.next (.pointer (some ⟨rb', 0, sp⟩)) false ty).run P w = .ok (.tuple ⟨[.bool false]⟩) w.drew
      | some e => ∃ r1 w1 v', (Instr.next (.pointer (some ⟨rb', 0, sp⟩)) false ty).run P w = .ok (.tuple ⟨[.bool true, e.key, v']⟩) w1 ∧ VR r1 e.key e.key ∧ VR r1 e.val v' ∧ HR r1 ⟨h.t.set rb (some (.mapIter (some m) since ⟨seen ++ [e.born]⟩ clock)), h.n⟩ w1 ∧ Tidy ⟨h.t.set rb (some (.mapIter (some m) since ⟨seen ++ [e.born]⟩ clock)), h.n⟩ ∧ Fr r r1 h ⟨h.t.set rb (some (.mapIter (some m) since ⟨seen ++ [e.born]⟩ clock)), h.n⟩ w w1 := by
  obtain ⟨c1, o1, a1, a2, a3⟩ := H.live rb _ g1
  cases H.fn _ _ _ hr a1
  replace a3 := a3.obj (fun _ _ _ q => by cases q)
  simp only [OR] at a3
  obtain ⟨m', hm, rfl⟩ := a3
  obtain ⟨c2, o2, b1, b2, b3⟩ := H.live m _ g2
  cases H.fn _ _ _ hm b1
  replace b3 := b3.obj (fun _ _ _ q => by cases q)
  simp only [OR] at b3
  obtain ⟨l', he, rfl⟩ := b3
  have r1 : (getObj rb').run P w = .ok (.mapIter (some m') since ⟨seen⟩ last) w := by simp [getObj, Sem.run, a2]
  have r2 : (getObj m').run P w = .ok (.map ⟨l'⟩ clock) w := by simp [getObj, Sem.run, b2]
  have e1 : (⟨l'⟩ : Array MapEntry).isEmpty = l.isEmpty := by
    have := ER.length he
    rw [← Array.isEmpty_toList, Bool.eq_iff_iff, List.isEmpty_iff_length_eq_zero, List.isEmpty_iff_length_eq_zero, this]
  have e2 : (⟨l'⟩ : Array MapEntry).all (fun e => decide (e.born ≥ last)) = l.all (fun e => decide (e.born ≥ last)) := by
    have := ER.all (fun b => decide (b ≥ last)) he
    simpa using this
  have hcond : (!(⟨seen⟩ : Array Nat).isEmpty && !(⟨l'⟩ : Array MapEntry).isEmpty && (⟨l'⟩ : Array MapEntry).all fun e => decide (e.born ≥ last)) = false := by
    rw [e1, e2, ← Array.isEmpty_toList]
    exact hc
  have head : ∀ (R : Result Value), ((do
      let k ← choose (.mapNext (candA ⟨seen⟩ since l').size)
      match (candA ⟨seen⟩ since l')[k]? with
      | some (some e) => do
        Go.setObj rb' (Obj.mapIter (some m') since ((⟨seen⟩ : Array Nat).push e.born) clock)
        pure (Value.tuple #[Value.bool true, e.key, e.val])
      | some none => pure (Value.tuple #[Value.bool false])
      | none => Go.stuck "Next: no such candidate" : Sem Value)).run P w = R → (Instr.next (.pointer (some ⟨rb', 0, sp⟩)) false ty).run P w = R := fun R hR => by
    unfold Instr.next
    show (getObj rb' >>= _ : Sem Value).run P w = R
    rw [Sem.run_bind, r1]
    dsimp only [Result.andThen]
    show (getObj m' >>= _ : Sem Value).run P w = R
    rw [Sem.run_bind, r2]
    dsimp only [Result.andThen]
    rw [hcond]
    exact hR
  have hf := ER.filter (fun b => !(⟨seen⟩ : Array Nat).contains b) he
  obtain ⟨h1, h2⟩ := cand_alike (ER.filter (fun b => decide (b < since)) hf) (ER.filter (fun b => decide (b ≥ since)) hf)
  rw [← candA_list, ← candA_list] at h1
  have h2' : ∀ i : Nat, CandR r (candA ⟨seen⟩ since l)[i]? (candA ⟨seen⟩ since l')[i]? := fun i => by
    have := h2 i
    rw [← candA_list, ← candA_list] at this
    simpa using this
  have hsz : (candA ⟨seen⟩ since l').size = (candA ⟨seen⟩ since l).size := by simpa using h1
  have hne := candL_ne ⟨seen⟩ since l
  have pick : ∃ k w2, k < (candA ⟨seen⟩ since l).size ∧ (w2 = w ∨ w2 = w.drew) ∧ (choose (.mapNext (candA ⟨seen⟩ since l').size)).run P w = .ok k w2 := by
    rw [hsz]
    by_cases hfo : (Question.mapNext (candA ⟨seen⟩ since l).size).forced = true
    · exact ⟨0, w, by omega, .inl rfl, by simp only [choose, Sem.run, hfo, if_true]⟩
    · refine ⟨_, w.drew, Nat.mod_lt (w.tape w.drawn (Question.mapNext (candA ⟨seen⟩ since l).size)) (by omega), .inr rfl, ?_⟩
      simp only [choose, Sem.run, hfo]
      rfl
  obtain ⟨k, w2, hk, hw2, hrun⟩ := pick
  have hkl : k < (candL seen since l).length := by
    have : (candL seen since l) = (candA ⟨seen⟩ since l).toList := candL_eq ⟨seen⟩ since l
    rw [this, Array.length_toList]
    exact hk
  have hat : (candA ⟨seen⟩ since l)[k]? = some ((candL seen since l)[k]) := by
    have : (candL seen since l) = (candA ⟨seen⟩ since l).toList := candL_eq ⟨seen⟩ since l
    have h3 : (candL seen since l)[k]? = some ((candL seen since l)[k]) := List.getElem?_eq_getElem hkl
    rw [← h3, this]
    simp
  have hcr := h2' k
  rw [hat] at hcr
  refine ⟨(candL seen since l)[k], List.getElem_mem hkl, ?_⟩
  revert hcr
  generalize (candL seen since l)[k] = c
  intro hcr
  have H2 : HR r h w2 := by rcases hw2 with rfl | rfl; exact H; exact H.drew
  have F2 : ∀ {r1 : Env} {h1 : Hp} {w1 : World}, Fr r r1 h h1 w2 w1 → Fr r r1 h h1 w w1 := fun F => by
    rcases hw2 with rfl | rfl
    · exact F
    · exact ⟨F.le, F.lt, F.size, F.n, F.new, F.old, F.heap, F.os, F.tape, F.output⟩
  cases c with
  | none =>
    cases q2 : (candA ⟨seen⟩ since l')[k]? with
    | none => rw [q2] at hcr; exact hcr.elim
    | some y =>
      rw [q2] at hcr
      cases y with
      | some _ => exact hcr.elim
      | none =>
        have : (Instr.next (.pointer (some ⟨rb', 0, sp⟩)) false ty).run P w = .ok (.tuple ⟨[.bool false]⟩) w2 := head _ (by rw [Sem.run_bind, hrun]; dsimp only [Result.andThen]; rw [q2]; rfl)
        rcases hw2 with rfl | rfl
        · exact .inl this
        · exact .inr this
  | some e =>
    cases q2 : (candA ⟨seen⟩ since l')[k]? with
    | none => rw [q2] at hcr; exact hcr.elim
    | some y =>
      rw [q2] at hcr
      cases y with
      | none => exact hcr.elim
      | some e' =>
        obtain ⟨k1, k2, k3, k4⟩ := hcr
        obtain ⟨r', w', p1, p2, p3, _, p4, _⟩ := run_SR (P := P) _ _ r h w2 (SR.setO hr (show OR r (.mapIter (some m) since ⟨seen ++ [e.born]⟩ clock) (.mapIter (some m') since ⟨seen ++ [e.born]⟩ clock) from ⟨m', hm, rfl⟩)) H2 hT (.ok ()) ⟨h.t.set rb (some (.mapIter (some m) since ⟨seen ++ [e.born]⟩ clock)), h.n⟩ (by simp [Go.setObj, runX, g1])
        refine ⟨r', w', e'.val, head _ ?_, ?_, k4.mono p3.le, p1, p2, F2 p3⟩
        · rw [Sem.run_bind, hrun]
          dsimp only [Result.andThen]
          rw [q2]
          dsimp only
          rw [Sem.run_bind, k2]
          have : (⟨seen⟩ : Array Nat).push e.born = ⟨seen ++ [e.born]⟩ := by apply Array.toList_inj.1; simp
          rw [this, p4]
          dsimp only [Result.andThen]
          rw [k1]
          rfl
        · exact k3.mono p3.le
/-- An operation; of a range over a map each that may come. -/
def opD (P : Program) (s : St) (o : Oper) (q : Except Value Next → Hp → An) : An :=
  match o.op with
  | .next it str => Bool.rec (nextK s it q (genK P s o q)) (genK P s o q) str
  | _ => opK P s o q
/-- What holds of an operation that was run. -/
def OpR (P : Program) (o : Oper) (q : Except Value Next → Hp → An) (r : Env) (s : St) (a : Act) (w : World) : Prop :=
  ∃ x h1 n', q x h1 n' ∧ ∃ r1 w1, HR r1 h1 w1 ∧ Tidy h1 ∧ Fr r r1 s.h h1 w w1 ∧ match (generalizing := false) x with
    | .ok v => ∃ v', (execOp a.eval o).run P w = .ok v' w1 ∧ NR r1 v v'
    | .error v => ∃ v', (execOp a.eval o).run P w = .halt (.panic v') w1 ∧ VR r1 v v'
theorem opStep_R (hz : Zc P) {r : Env} {s : St} {a : Act} {w : World} (S : SL r s a w) (o : Oper) {q : Except Value Next → Hp → An} {n : Prop} (h : ∃ x h1, opStep P s o = some (x, h1) ∧ q x h1 n) : OpR P o q r s a w := by
  obtain ⟨x, h1, he, hx⟩ := h
  obtain ⟨r1, w1, k⟩ := opStep_sound hz S o x h1 he
  exact ⟨x, h1, n, hx, r1, w1, k⟩
theorem genK_ex {s : St} {o : Oper} {q : Except Value Next → Hp → An} {n : Prop} (h : genK P s o q n) : ∃ x h1, opStep P s o = some (x, h1) ∧ q x h1 n := by
  rw [genK_eq] at h
  cases e : opStep P s o with
  | none => rw [e] at h; exact h.elim
  | some p => rw [e] at h; exact ⟨p.1, p.2, rfl, h⟩
theorem comeK_th {s : St} {rb m since clock : Nat} {seen : List Nat} {q : Except Value Next → Hp → An} (hq : ∀ x h N, q x h N → N) (c : Option MapEntry) (N : Prop) (h : comeK s rb m since seen clock q c N) : N := by
  cases c with
  | none => exact hq _ _ _ h
  | some e =>
    simp only [comeK] at h
    rw [getH_eq, fV_eq, fNs_eq, setK_eq] at h
    exact hq _ _ _ h
theorem opK_th {s : St} {o : Oper} {q : Except Value Next → Hp → An} (hq : ∀ x h N, q x h N → N) {N : Prop} (h : opK P s o q N) : N := by
  obtain ⟨x, h1, _, hx⟩ := opK_eq s o q N h
  exact hq _ _ _ hx
theorem genK_th {s : St} {o : Oper} {q : Except Value Next → Hp → An} (hq : ∀ x h N, q x h N → N) {N : Prop} (h : genK P s o q N) : N := by
  obtain ⟨x, h1, _, hx⟩ := genK_ex h
  exact hq _ _ _ hx
/-- What nextK comes to. -/
theorem nextK_cases {s : St} {it : Operand} {q : Except Value Next → Hp → An} {g : An} {n : Prop} (h : nextK s it q g n) : g n ∨ (opdOK it = true ∧ ∃ rb sp m since seen last l clock, s.ev it = .pointer (some ⟨rb, 0, sp⟩) ∧ rb % 2 = 0 ∧ s.h.t.get rb = some (.mapIter (some m) since ⟨seen⟩ last) ∧ s.h.t.get m = some (.map ⟨l⟩ clock) ∧
    (!seen.isEmpty && !l.isEmpty && l.all fun e => decide (e.born ≥ last)) = false ∧ candK (candL seen since l) (comeK s rb m since seen clock q) n) := by
  unfold nextK at h
  cases ho : opdOK it with
  | false => rw [ho] at h; exact h.elim
  | true =>
    rw [ho] at h
    dsimp only [cond] at h
    rw [evK_eq _ _ _ ho] at h
    cases ev : s.ev it with
    | pointer p =>
      rw [ev] at h
      cases p with
      | none => exact .inl h
      | some p =>
        obtain ⟨rb, off, sp⟩ := p
        cases off with
        | succ n => exact .inl h
        | zero =>
          cases hev : Nat.beq (Nat.mod rb 2) 0 with
          | false =>
            have h : (Bool.rec (motive := fun _ => An) g _ (Nat.beq (Nat.mod rb 2) 0)) n := h
            rw [hev] at h
            exact .inl h
          | true =>
          have h : (Bool.rec (motive := fun _ => An) g (getK (path rb) s.h.t (fun o => match o with
            | some (.mapIter (some m) since ⟨seen⟩ last) => getK (path m) s.h.t fun o => match o with
              | some (.map ⟨l⟩ clock) => bif !seen.isEmpty && !l.isEmpty && l.all fun e => decide (e.born ≥ last) then FF else candK (candL seen since l) (comeK s rb m since seen clock q)
              | _ => FF
            | _ => g)) (Nat.beq (Nat.mod rb 2) 0)) n := h
          rw [hev] at h
          have h : getK (path rb) s.h.t (fun o => match o with
            | some (.mapIter (some m) since ⟨seen⟩ last) => getK (path m) s.h.t fun o => match o with
              | some (.map ⟨l⟩ clock) => bif !seen.isEmpty && !l.isEmpty && l.all fun e => decide (e.born ≥ last) then FF else candK (candL seen since l) (comeK s rb m since seen clock q)
              | _ => FF
            | _ => g) n := h
          rw [getK_eq] at h
          cases g1 : s.h.t.get rb with
          | none => rw [g1] at h; exact .inl h
          | some o =>
            rw [g1] at h
            cases o with
            | mapIter m since seen last =>
              cases m with
              | none => exact .inl h
              | some m =>
                obtain ⟨seen⟩ := seen
                dsimp only at h
                rw [getK_eq] at h
                cases g2 : s.h.t.get m with
                | none => rw [g2] at h; exact h.elim
                | some o =>
                  rw [g2] at h
                  cases o with
                  | map es clock =>
                    obtain ⟨l⟩ := es
                    dsimp only at h
                    cases hc : (!seen.isEmpty && !l.isEmpty && l.all fun e => decide (e.born ≥ last)) with
                    | true => rw [hc] at h; exact h.elim
                    | false =>
                      rw [hc] at h
                      exact .inr ⟨rfl, rb, sp, m, since, seen, last, l, clock, rfl, Nat.eq_of_beq_eq_true hev, g1, g2, hc, h⟩
                  | _ => exact h.elim
            | _ => exact .inl h
    | _ => rw [ev] at h; exact .inl h
theorem opD_cases (s : St) (o : Oper) (q : Except Value Next → Hp → An) : opD P s o q = opK P s o q ∨ ∃ it str, o.op = .next it str ∧ opD P s o q = Bool.rec (nextK s it q (genK P s o q)) (genK P s o q) str := by
  obtain ⟨dst, op, type, pos, after, guard⟩ := o
  cases op with
  | next it str => exact .inr ⟨it, str, rfl, rfl⟩
  | _ => exact .inl rfl
theorem opD_th {s : St} {o : Oper} {q : Except Value Next → Hp → An} (hq : ∀ x h N, q x h N → N) {N : Prop} (h : opD P s o q N) : N := by
  rcases opD_cases (P := P) s o q with e | ⟨it, str, _, e⟩
  · rw [e] at h
    exact opK_th hq h
  · rw [e] at h
    cases str with
    | true => exact genK_th hq h
    | false =>
      rcases nextK_cases h with h | ⟨_, rb, sp, m, since, seen, last, l, clock, _, _, _, _, _, h⟩
      · exact genK_th hq h
      · exact candK_th (fun c N h => comeK_th hq c N h) _ _ h
theorem opD_sound (hz : Zc P) {r : Env} {s : St} {a : Act} {w : World} (S : SL r s a w) (o : Oper) {q : Except Value Next → Hp → An} (hq : ∀ x h N, q x h N → N) {n : Prop} (h : opD P s o q n) : OpR P o q r s a w := by
  rcases opD_cases (P := P) s o q with eD | ⟨it, str, ho, eD⟩
  · rw [eD] at h
    exact opStep_R hz S o (opK_eq s o q n h)
  · rw [eD] at h
    clear eD
    cases str with
    | true => exact opStep_R hz S o (genK_ex h)
    | false =>
      rcases nextK_cases h with h | ⟨hok, rb, sp, m, since, seen, last, l, clock, ev, hev, g1, g2, hc, h⟩
      · exact opStep_R hz S o (genK_ex h)
      · have hv := S.ev it hok
        rw [ev] at hv
        obtain ⟨rb', hr, hv'⟩ : ∃ rb', r rb rb' ∧ a.eval it = .pointer (some ⟨rb', 0, sp⟩) := by
          obtain ⟨a', ha, e⟩ := hv
          refine ⟨a'.block, ha.choose_spec.1, ?_⟩
          rw [e, ha.even hev]
        obtain ⟨c, hmem, hcase⟩ := next_run (P := P) S.h S.tidy (sp := sp) hr g1 g2 hc o.type
        obtain ⟨N', hN⟩ := candK_all (fun c N h => comeK_th hq c N h) _ _ h c hmem
        have hex : ∀ (v' : Value) (w1 : World), (Instr.next (.pointer (some ⟨rb', 0, sp⟩)) false o.type).run P w = .ok v' w1 → (execOp a.eval o).run P w = .ok (.value v') w1 := fun v' w1 e => by
          obtain ⟨dst, op, type, pos, after, guard⟩ := o
          simp only at ho e
          subst ho
          show (Instr.next (a.eval it) false type >>= fun v => pure (Next.value v) : Sem Next).run P w = _
          rw [hv', Sem.run_bind, e]
          rfl
        cases c with
        | none =>
          have hN' : q (.ok (.value (.tuple ⟨[.bool false]⟩))) s.h N' := hN
          have hcl : VR r (.tuple ⟨[.bool false]⟩) (.tuple ⟨[.bool false]⟩) := (VR.closed 3 (.tuple #[.bool false]) (.tuple #[.bool false]) rfl).2 rfl
          rcases hcase with e | e
          · exact ⟨_, _, N', hN', r, w, S.h, S.tidy, .refl S.h, _, hex _ _ e, _, hcl, rfl⟩
          · refine ⟨_, _, N', hN', r, w.drew, S.h.drew, S.tidy, ?_, _, hex _ _ e, _, hcl, rfl⟩
            have F : Fr r r s.h s.h w w := .refl S.h
            exact ⟨F.le, F.lt, F.size, F.n, F.new, F.old, F.heap, F.os, F.tape, F.output⟩
        | some e =>
          obtain ⟨r1, w1, v', e1, k1, k2, H1, T1, F1⟩ := hcase
          simp only [comeK] at hN
          rw [getH_eq, fV_eq, fNs_eq, setK_eq] at hN
          refine ⟨_, _, N', hN, r1, w1, H1, T1, F1, _, hex _ _ e1, _, ?_, rfl⟩
          show VR r1 (.tuple ⟨[.bool true, e.key, e.val]⟩) (.tuple ⟨[.bool true, e.key, v']⟩)
          simp only [VRe]
          exact ⟨_, ⟨_, _, VR.bl r1 true, ⟨_, _, k1, ⟨_, _, k2, rfl, rfl⟩, rfl⟩, rfl⟩, rfl⟩
end
end Go.Proofs.YtmjblbgalkjmiaaGreat.EX
/- Quick ways of operations: what trees of operations come to; values and objects looked at. -/
namespace Go.Proofs.YtmjblbgalkjmiaaGreat.EX
open Go
section
variable {P : Program}
theorem T.single_set {α : Type} (u v : Option α) : ∀ (n k : Nat), k < n → (T.single u n k).set k v = T.single v n k := by
  intro n
  induction n with
  | zero => intro k h; omega
  | succ n ih =>
    intro k h
    unfold T.single
    by_cases h0 : k = 0
    · rw [if_pos h0, if_pos h0, T.set, if_pos h0]
    · rw [if_neg h0, if_neg h0]
      by_cases h1 : k % 2 = 1
      · rw [if_pos h1, if_pos h1, T.set, if_neg h0, if_pos h1, ih _ (by omega)]
      · rw [if_neg h1, if_neg h1, T.set, if_neg h0, if_neg h1, ih _ (by omega)]
theorem T.set_set {α : Type} (u v : Option α) : ∀ (t : T α) (k : Nat), (t.set k u).set k v = t.set k v := by
  intro t
  induction t with
  | leaf => intro k; exact T.single_set u v (k + 1) k (by omega)
  | inner s x y l r ihl ihr =>
    intro k
    by_cases h0 : k = 0
    · simp only [T.set, if_pos h0]
    · by_cases h1 : k % 2 = 1
      · simp only [T.set, if_neg h0, if_pos h1, ihl]
      · simp only [T.set, if_neg h0, if_neg h1, ihr]
theorem runX_bind {α β : Type} (f : α → Sem β) : ∀ (m : Sem α) (h : Hp), runX P (m >>= f) h = match runX P m h with
    | some (.ok a, h1) => runX P (f a) h1
    | some (.error e, h1) => some (.error e, h1)
    | none => none := by
  intro m
  show ∀ h, runX P (m.bind f) h = _
  induction m with
  | pure a => intro h; rfl
  | load m a k ih =>
    intro h
    simp only [Sem.bind, runX]
    cases h.t.get a.block with
    | none => rfl
    | some o =>
      cases o with
      | cells cs t z =>
        obtain ⟨cs⟩ := cs
        dsimp only
        cases a.spot.isSome with
        | true => rfl
        | false =>
          simp only [Bool.false_eq_true, if_false]
          cases cs[a.off]? with
          | none => rfl
          | some v => exact ih v h
      | _ => rfl
  | store m a v k ih =>
    intro h
    simp only [Sem.bind, runX]
    cases oneC v with
    | false => rfl
    | true =>
      simp only [if_true]
      cases h.t.get a.block with
      | none => rfl
      | some o =>
        cases o with
        | cells cs t z =>
          obtain ⟨cs⟩ := cs
          dsimp only
          cases a.spot.isSome with
          | true => rfl
          | false =>
            simp only [Bool.false_eq_true, if_false]
            by_cases hl : a.off < cs.length
            · rw [if_pos hl, if_pos hl]; exact ih _
            · rw [if_neg hl, if_neg hl]
        | _ => rfl
  | new o k ih => intro h; exact ih _ _
  | shape x k ih => intro h; rfl
  | freeze a n k ih => intro h; rfl
  | frozen a k ih =>
    intro h
    simp only [Sem.bind, runX]
    cases h.t.get a.block with
    | none => rfl
    | some o =>
      cases o with
      | cells cs t z =>
        obtain ⟨z1, z2⟩ := z
        match z1, z2 with
        | 0, 0 => exact ih _ _
        | 0, _ + 1 => rfl
        | _ + 1, _ => rfl
      | _ => rfl
  | getObj b k ih =>
    intro h
    simp only [Sem.bind, runX]
    cases h.t.get b with
    | none => rfl
    | some o => cases o <;> first | rfl | exact ih _ _
  | setObj b o k ih =>
    intro h
    simp only [Sem.bind, runX]
    cases h.t.get b with
    | none => rfl
    | some u => cases u <;> first | rfl | (cases o <;> first | rfl | exact ih _)
  | choose c k ih =>
    intro h
    simp only [Sem.bind, runX]
    cases c.forced with
    | false => rfl
    | true => exact ih _ _
  | sys c k ih => intro h; rfl
  | program k ih => intro h; exact ih _ _
  | mark m k ih => intro h; exact ih _
  | halt x => intro h; cases x <;> rfl
theorem runX_P {α : Type} : ∀ (m : Sem α) (a : α) (h : Hp), runP P m = some a → runX P m h = some (.ok a, h) := by
  intro m
  induction m with
  | pure b => intro a h e; cases e; rfl
  | program k ih => intro a h e; exact ih P a h e
  | mark m k ih => intro a h e; exact ih a h e
  | choose c k ih =>
    intro a h e
    simp only [runP] at e
    simp only [runX]
    cases hc : c.forced with
    | false => rw [hc] at e; cases e
    | true => rw [hc] at e; exact ih 0 a h e
  | _ => intro a h e; cases e
theorem runX_Pb {α β : Type} (f : α → Sem β) {m : Sem α} {a : α} (h : Hp) (e : runP P m = some a) : runX P (m >>= f) h = runX P (f a) h := by
  rw [runX_bind, runX_P m a h e]
theorem runX_ok {α β : Type} (f : α → Sem β) {m : Sem α} {a : α} {h h1 : Hp} (e : runX P m h = some (.ok a, h1)) : runX P (m >>= f) h = runX P (f a) h1 := by
  rw [runX_bind, e]
def runN (P : Program) {α : Type} : Sem α → Nat → Option Obj → Option (α × Option Obj)
  | .pure a, _, o => some (a, o)
  | .new o k, g, none => runN P (k g) g (some o)
  | .choose q k, g, o => if q.forced then runN P (k 0) g o else none
  | .program k, g, o => runN P (k P) g o
  | .mark _ k, g, o => runN P k g o
  | _, _, _ => none
theorem runN_P {α : Type} : ∀ (m : Sem α) (a : α) (g : Nat) (o : Option Obj), runP P m = some a → runN P m g o = some (a, o) := by
  intro m
  induction m with
  | pure b => intro a g o e; cases e; rfl
  | program k ih => intro a g o e; exact ih P a g o e
  | mark m k ih => intro a g o e; exact ih a g o e
  | choose c k ih =>
    intro a g o e
    simp only [runP] at e
    simp only [runN]
    cases hc : c.forced with
    | false => rw [hc] at e; cases e
    | true => rw [hc] at e; exact ih 0 a g o e
  | _ => intro a g o e; cases e
theorem runN_bind {α β : Type} (f : α → Sem β) (g : Nat) : ∀ (m : Sem α) (o : Option Obj), runN P (m >>= f) g o = match runN P m g o with
    | some (a, o1) => runN P (f a) g o1
    | none => none := by
  intro m
  show ∀ o, runN P (m.bind f) g o = _
  induction m with
  | pure a => intro o; rfl
  | program k ih => intro o; exact ih P o
  | mark m k ih => intro o; exact ih o
  | choose c k ih =>
    intro o
    simp only [Sem.bind, runN]
    cases c.forced with
    | false => rfl
    | true => exact ih 0 o
  | new x k ih =>
    intro o
    cases o with
    | none => exact ih g (some x)
    | some o => rfl
  | _ => intro o; rfl
theorem opStep_ok {s : St} {o : Oper} (h1 : statOK o = true) (h2 : okOp P s.ev o.op = true) : opStep P s o = runX P (execOp s.ev o) s.h := by
  have h1' : (o.op.operands.toList.all opdOK && noSel o.op) = true := h1
  unfold opStep
  rw [if_pos h1', if_pos h2]
/-! ### Values looked at -/
def ptrV (v : Value) : (Nat → Nat → An) → An → An :=
  Value.rec (motive_1 := fun _ => (Nat → Nat → An) → An → An) (motive_2 := fun _ => Unit) (motive_3 := fun _ => Unit) (fun _ _ g => g) (fun _ _ _ g => g) (fun _ _ _ g => g) (fun _ _ _ _ g => g) (fun _ _ g => g)
    (fun a q g => Option.rec (motive := fun _ => An) g (fun a => Addr.rec (motive := fun _ => An) (fun b o s => Option.rec (motive := fun _ => An) (q b o) (fun _ => g) s) a) a)
    (fun _ _ _ _ g => g) (fun _ _ g => g) (fun _ _ g => g) (fun _ _ _ _ _ _ g => g) (fun _ g => g) (fun _ _ _ _ g => g) (fun _ g => g) (fun _ _ _ g => g) (fun _ _ _ g => g) (fun _ _ => ()) () (fun _ _ _ _ => ()) v
theorem ptrV_ok {v : Value} {q : Nat → Nat → An} {g : An} {n : Prop} (h : ptrV v q g n) : g n ∨ ∃ b o, v = .pointer (some ⟨b, o, none⟩) ∧ q b o n := by
  cases v with
  | pointer a =>
    cases a with
    | none => exact .inl h
    | some a =>
      obtain ⟨b, o, s⟩ := a
      cases s with
      | none => exact .inr ⟨b, o, rfl, h⟩
      | some s => exact .inl h
  | _ => exact .inl h
def intV (v : Value) : (IntKind → Nat → An) → An → An :=
  Value.rec (motive_1 := fun _ => (IntKind → Nat → An) → An → An) (motive_2 := fun _ => Unit) (motive_3 := fun _ => Unit) (fun _ _ g => g) (fun k n q g => Int.rec (motive := fun _ => An) (fun m => q k m) (fun _ => g) n) (fun _ _ _ g => g) (fun _ _ _ _ g => g) (fun _ _ g => g)
    (fun _ _ g => g)
    (fun _ _ _ _ g => g) (fun _ _ g => g) (fun _ _ g => g) (fun _ _ _ _ _ _ g => g) (fun _ g => g) (fun _ _ _ _ g => g) (fun _ g => g) (fun _ _ _ g => g) (fun _ _ _ g => g) (fun _ _ => ()) () (fun _ _ _ _ => ()) v
theorem intV_ok {v : Value} {q : IntKind → Nat → An} {g : An} {n : Prop} (h : intV v q g n) : g n ∨ ∃ k m, v = .int k (.ofNat m) ∧ q k m n := by
  cases v with
  | int k m => cases m with
    | ofNat m => exact .inr ⟨k, m, rfl, h⟩
    | negSucc m => exact .inl h
  | _ => exact .inl h
def boolV (v : Value) : (Bool → An) → An → An :=
  Value.rec (motive_1 := fun _ => (Bool → An) → An → An) (motive_2 := fun _ => Unit) (motive_3 := fun _ => Unit) (fun b q _ => q b) (fun _ _ _ g => g) (fun _ _ _ g => g) (fun _ _ _ _ g => g) (fun _ _ g => g)
    (fun _ _ g => g)
    (fun _ _ _ _ g => g) (fun _ _ g => g) (fun _ _ g => g) (fun _ _ _ _ _ _ g => g) (fun _ g => g) (fun _ _ _ _ g => g) (fun _ g => g) (fun _ _ _ g => g) (fun _ _ _ g => g) (fun _ _ => ()) () (fun _ _ _ _ => ()) v
theorem boolV_ok {v : Value} {q : Bool → An} {g : An} {n : Prop} (h : boolV v q g n) : g n ∨ ∃ b, v = .bool b ∧ q b n := by
  cases v with
  | bool b => exact .inr ⟨b, rfl, h⟩
  | _ => exact .inl h
def tupV (v : Value) : (List Value → An) → An → An :=
  Value.rec (motive_1 := fun _ => (List Value → An) → An → An) (motive_2 := fun _ => Unit) (motive_3 := fun _ => Unit) (fun _ _ g => g) (fun _ _ _ g => g) (fun _ _ _ g => g) (fun _ _ _ _ g => g) (fun _ _ g => g)
    (fun _ _ g => g)
    (fun _ _ _ _ g => g) (fun _ _ g => g) (fun _ _ g => g) (fun _ _ _ _ _ _ g => g) (fun _ g => g) (fun _ _ _ _ g => g) (fun _ g => g) (fun _ _ _ g => g) (fun cs _ q _ => Array.rec (motive := fun _ => An) (fun l => q l) cs) (fun _ _ => ()) () (fun _ _ _ _ => ()) v
theorem tupV_ok {v : Value} {q : List Value → An} {g : An} {n : Prop} (h : tupV v q g n) : g n ∨ ∃ l, v = .tuple ⟨l⟩ ∧ q l n := by
  cases v with
  | tuple l => obtain ⟨l⟩ := l; exact .inr ⟨l, rfl, h⟩
  | _ => exact .inl h
/-- A slice: its base, where there is one, its length. -/
def sliV (v : Value) : (Option Addr → Nat → An) → An → An :=
  Value.rec (motive_1 := fun _ => (Option Addr → Nat → An) → An → An) (motive_2 := fun _ => Unit) (motive_3 := fun _ => Unit) (fun _ _ g => g) (fun _ _ _ g => g) (fun _ _ _ g => g) (fun _ _ _ _ g => g) (fun _ _ g => g)
    (fun _ _ g => g)
    (fun a n _ q _ => q a n) (fun _ _ g => g) (fun _ _ g => g) (fun _ _ _ _ _ _ g => g) (fun _ g => g) (fun _ _ _ _ g => g) (fun _ g => g) (fun _ _ _ g => g) (fun _ _ _ g => g) (fun _ _ => ()) () (fun _ _ _ _ => ()) v
theorem sliV_ok {v : Value} {q : Option Addr → Nat → An} {g : An} {n : Prop} (h : sliV v q g n) : g n ∨ ∃ a m c, v = .slice a m c ∧ q a m n := by
  cases v with
  | slice a m c => exact .inr ⟨a, m, c, rfl, h⟩
  | _ => exact .inl h
/-- A value's cells: of a struct or an array, else itself. -/
def cellV (v : Value) : (List Value → An) → (Unit → An) → An :=
  Value.rec (motive_1 := fun _ => (List Value → An) → (Unit → An) → An) (motive_2 := fun _ => Unit) (motive_3 := fun _ => Unit) (fun _ _ g => g ()) (fun _ _ _ g => g ()) (fun _ _ _ g => g ()) (fun _ _ _ _ g => g ()) (fun _ _ g => g ())
    (fun _ _ g => g ())
    (fun _ _ _ _ g => g ()) (fun _ _ g => g ()) (fun _ _ g => g ()) (fun _ _ _ _ _ _ g => g ()) (fun _ g => g ()) (fun _ _ _ _ g => g ()) (fun _ g => g ()) (fun cs _ q _ => Array.rec (motive := fun _ => An) (fun l => q l) cs) (fun _ _ _ _ => FF) (fun _ _ => ()) () (fun _ _ _ _ => ()) v
theorem cellV_ok {v : Value} {q : List Value → An} {g : Unit → An} {n : Prop} (h : cellV v q g n) : (∃ l, v = .agg ⟨l⟩ ∧ q l n) ∨ (oneC v = true ∧ v.cells = #[v] ∧ g () n) := by
  cases v with
  | agg l => obtain ⟨l⟩ := l; exact .inl ⟨l, rfl, h⟩
  | tuple l => exact h.elim
  | _ => exact .inr ⟨rfl, rfl, h⟩
end
end Go.Proofs.YtmjblbgalkjmiaaGreat.EX
/- Quick ways of operations, one by one. -/
namespace Go.Proofs.YtmjblbgalkjmiaaGreat.EX
open Go
def bodyQ (P : Program) (f : FuncId) : Bool :=
  match funQ P f with
  | some fn => fn.body.isSome
  | none => false
abbrev ArmT := Program → St → (Value → Hp → An) → (FuncId → Array Value → Hp → An) → An → An
def noArm : ArmT := fun _ _ _ _ g => g
def objV (o : Option Obj) : (List Value → TypeId → Nat × Nat → An) → An → An :=
  Option.rec (motive := fun _ => (List Value → TypeId → Nat × Nat → An) → An → An) (fun _ g => g) (fun o => Obj.rec (motive := fun _ => (List Value → TypeId → Nat × Nat → An) → An → An) (fun cs t z q _ => Array.rec (motive := fun _ => An) (fun l => q l t z) cs) (fun _ _ _ g => g) (fun _ _ _ g => g) (fun _ _ _ g => g) (fun _ _ _ g => g) (fun _ _ _ _ _ _ _ g => g) (fun _ _ _ g => g) (fun _ _ _ _ _ g => g) (fun _ _ g => g) (fun _ _ g => g) (fun _ _ g => g) (fun _ _ _ g => g) o) o
/-! ### Rows -/
def dropK (l : List Value) : Nat → (List Value → An) → An :=
  List.rec (motive := fun _ => Nat → (List Value → An) → An) (fun _ q => q []) (fun h t ih o q => Nat.rec (motive := fun _ => An) (q (h :: t)) (fun p _ => ih p q) o) l
def takeK (l : List Value) : Nat → (List Value → An) → An :=
  List.rec (motive := fun _ => Nat → (List Value → An) → An) (fun n q => Nat.rec (motive := fun _ => An) (q []) (fun _ _ => FF) n) (fun h _ ih n q => Nat.rec (motive := fun _ => An) (q []) (fun p _ => ih p fun s => q (h :: s)) n) l
/-- Whether a value has one cell. -/
def oneV (v : Value) : An → An :=
  Value.rec (motive_1 := fun _ => An → An) (motive_2 := fun _ => Unit) (motive_3 := fun _ => Unit) (fun _ q => q) (fun _ _ q => q) (fun _ _ q => q) (fun _ _ _ q => q) (fun _ q => q) (fun _ q => q) (fun _ _ _ q => q) (fun _ q => q) (fun _ q => q) (fun _ _ _ _ _ q => q) (fun q => q) (fun _ _ _ q => q) (fun q => q) (fun _ _ _ => FF) (fun _ _ _ => FF) (fun _ _ => ()) () (fun _ _ _ _ => ()) v
/-- So many cells laid over the first ones of a row. -/
def overK (vs : List Value) : Nat → List Value → (List Value → An) → An :=
  List.rec (motive := fun _ => Nat → List Value → (List Value → An) → An) (fun n cs q => Nat.rec (motive := fun _ => An) (q cs) (fun _ _ => FF) n)
    (fun v _ ih n cs q => Nat.rec (motive := fun _ => An) FF (fun p _ => List.rec (motive := fun _ => An) FF (fun _ t _ => oneV v (ih p t fun s => q (v :: s))) cs) n) vs
def atK (cs : List Value) : Nat → (List Value → (List Value → An) → An) → (List Value → An) → An :=
  List.rec (motive := fun _ => Nat → (List Value → (List Value → An) → An) → (List Value → An) → An) (fun o f q => Nat.rec (motive := fun _ => An) (f [] q) (fun _ _ => FF) o)
    (fun h t ih o f q => Nat.rec (motive := fun _ => An) (f (h :: t) q) (fun p _ => ih p f fun s => q (h :: s)) o) cs
/-! ### What is known of types -/
def oneT (P : Program) (t : TypeId) : Bool :=
  match undQ P t with
  | some (.struct _) | some (.array _ _) | none => false
  | some _ => true
def szT (P : Program) (t : TypeId) : Option Nat :=
  match infoQ P t with
  | some i => some i.size
  | none => none
def aggT (P : Program) (t : TypeId) : Option Nat :=
  match undQ P t with
  | some (.struct _) | some (.array _ _) => szT P t
  | _ => none
def sizeOne (P : Program) (t : TypeId) : Bool :=
  match szT P t with
  | some n => Nat.beq n 1
  | none => false
def zrT (P : Program) (t : TypeId) : Option Value :=
  match infoQ P t with
  | some i => i.zero
  | none => none
def fldT (P : Program) (s : TypeId) (f : Nat) : Option Nat :=
  match undQ P s with
  | some (.struct fs) => match fs[f]? with
    | some fl => match szT P fl.type with
      | some (_ + 1) => some fl.offset
      | _ => none
    | none => none
  | _ => none
def idxT (P : Program) (t : TypeId) : Option (Bool × Nat × Nat) :=
  match undQ P t with
  | some (.array n e) => match szT P e with
    | some z => some (true, n, z)
    | none => none
  | some (.slice e) => match szT P e with
    | some z => some (false, 0, z)
    | none => none
  | _ => none
def cvT (P : Program) (src dst : TypeId) : Option IntKind :=
  match undQ P src, undQ P dst with
  | some _, some (.int k) => some k
  | _, _ => none
def lenT (P : Program) (ts : Array TypeId) : Bool :=
  match ts[0]? with
  | some t => match undQ P t with
    | some (.slice _) => true
    | _ => false
  | none => false
/-! ### The ways -/
def armMove (x : Operand) : ArmT := fun _ s qv _ _ => evK s x fun v => getH s fun h => qv v h
def armLoad (t : TypeId) (a : Operand) : ArmT := fun P s qv _ g => evK s a fun v => ptrV v (fun b o => getH s fun h => getK (path b) h.t fun ob => objV ob (fun cs _ _ =>
  Bool.rec (motive := fun _ => An) (Option.rec (motive := fun _ => An) g (fun n => dropK cs o fun l => takeK l n fun l => qv (.agg ⟨l⟩) h) (aggT P t)) (nthK cs o fun x => Option.rec (motive := fun _ => An) g (fun x => qv x h) x) (oneT P t)) g) g
def armStore (t : TypeId) (a x : Operand) : ArmT := fun P s qv _ g => evK s a fun v => ptrV v (fun b o => evK s x fun u => getH s fun h => getK (path b) h.t fun ob => objV ob (fun cs ty z => cellV u
  (fun l => Option.rec (motive := fun _ => An) g (fun n => Nat.rec (motive := fun _ => An) g (fun _ _ => atK cs o (overK l n) fun cs => setK (path b) (some (.cells ⟨cs⟩ ty z)) h.t fun t => withT h t fun h => qv undef h) n) (szT P t))
  (fun _ => Bool.rec (motive := fun _ => An) g (lsetK cs o u fun cs => setK (path b) (some (.cells ⟨cs⟩ ty z)) h.t fun t => withT h t fun h => qv undef h) (sizeOne P t))) g) g
def armField (st : TypeId) (x : Operand) (f : Nat) : ArmT := fun P s qv _ g => Option.rec (motive := fun _ => An) g (fun off => evK s x fun v => ptrV v (fun b o => fN (Nat.add o off) fun o => getH s fun h => qv (.pointer (some ⟨b, o, none⟩)) h) g) (fldT P st f)
def armIndex (t : TypeId) (x i : Operand) : ArmT := fun P s qv _ g => Option.rec (motive := fun _ => An) g (fun p => Prod.rec (motive := fun _ => An) (fun isA p => Prod.rec (motive := fun _ => An) (fun len z => evK s x fun v => evK s i fun u => intV u (fun _ m =>
  Bool.rec (motive := fun _ => An) (sliV v (fun a len => Option.rec (motive := fun _ => An) g (fun a => Addr.rec (motive := fun _ => An) (fun b o sp => Option.rec (motive := fun _ => An) (Bool.rec (motive := fun _ => An) g (fN (Nat.add o (Nat.mul m z)) fun o => getH s fun h => qv (.pointer (some ⟨b, o, none⟩)) h) (Nat.ble (Nat.succ m) len)) (fun _ => g) sp) a) a) g)
    (ptrV v (fun b o => Bool.rec (motive := fun _ => An) g (fN (Nat.add o (Nat.mul m z)) fun o => getH s fun h => qv (.pointer (some ⟨b, o, none⟩)) h) (Nat.ble (Nat.succ m) len)) g) isA) g) p) p) (idxT P t)
def armExtract (x : Operand) (i : Nat) : ArmT := fun _ s qv _ g => evK s x fun v => tupV v (fun l => nthK l i fun x => Option.rec (motive := fun _ => An) g (fun x => getH s fun h => qv x h) x) g
def armConv (src dst : TypeId) (x : Operand) : ArmT := fun P s qv _ g => Option.rec (motive := fun _ => An) g (fun k => evK s x fun v => intV v (fun _ m => Bool.rec (motive := fun _ => An) g (getH s fun h => qv (.int k (.ofNat m)) h) (Nat.ble (Nat.succ m) (lim k))) g) (cvT P src dst)
def armNil (x : Operand) : ArmT := fun _ s qv _ g => evK s x fun v => ptrV v (fun b o => getH s fun h => qv (.pointer (some ⟨b, o, none⟩)) h) g
def armUn (op : UnOp) (_ : TypeId) (x : Operand) : ArmT := UnOp.rec (motive := fun _ => ArmT) noArm noArm (fun _ s qv _ g => evK s x fun v => boolV v (fun b => getH s fun h => Bool.rec (motive := fun _ => An) (qv (.bool true) h) (qv (.bool false) h) b) g) noArm op
def armPick (c a b : Operand) : ArmT := fun _ s qv _ g => evK s c fun v => boolV v (fun t => getH s fun h => Bool.rec (motive := fun _ => An) (evK s b fun v => qv v h) (evK s a fun v => qv v h) t) g
def newB (t : TypeId) (l : List Value) (s : St) (qv : Value → Hp → An) : An := getH s fun h => Hp.rec (motive := fun _ => An) (fun tr n => fN (Nat.mul 2 n) fun b => setK (path b) (some (.cells ⟨l⟩ t (0, 0))) tr fun tr => fN (Nat.succ n) fun n => qv (.pointer (some ⟨b, 0, none⟩)) ⟨tr, n⟩) h
def armAlloc (t : TypeId) : ArmT := fun P s qv _ g => Option.rec (motive := fun _ => An) g (fun z => cellV z (fun l => newB t l s qv) (fun _ => newB t [z] s qv)) (zrT P t)
def armBox (t : TypeId) (x : Operand) : ArmT := fun _ s qv _ _ => evK s x fun v => cellV v (fun l => newB t l s qv) (fun _ => newB t [v] s qv)
def armLen (as : Array Operand) (ts : Array TypeId) : ArmT := Array.rec (motive := fun _ => ArmT) (fun l => List.rec (motive := fun _ => ArmT) noArm (fun x _ _ => fun P s qv _ g => Bool.rec (motive := fun _ => An) g (evK s x fun v => sliV v (fun _ n => getH s fun h => qv (.int .i64 (.ofNat n)) h) g) (lenT P ts)) l) as
/-- Operands, one behind the other. -/
def evsK (s : St) (l : List Operand) : (List Value → An) → An := List.rec (motive := fun _ => (List Value → An) → An) (fun q => q []) (fun x _ ih q => evK s x fun v => ih fun vs => q (v :: vs)) l
def armFn (f : FuncId) (as : Array Operand) : ArmT := fun P s _ qc g => Bool.rec (motive := fun _ => An) g (Array.rec (motive := fun _ => An) (fun l => evsK s l fun vs => getH s fun h => qc f ⟨vs⟩ h) as) (bodyQ P f)
def binT (op : BinOp) : IntKind → Nat → Nat → (Value → An) → An → An := BinOp.rec (motive := fun _ => IntKind → Nat → Nat → (Value → An) → An → An) (fun k a b q g => fN (Nat.add a b) fun c => numK k c q g) (fun k a b q g => Bool.rec g (fN (Nat.sub a b) fun c => numK k c q g) (Nat.ble b a)) (fun k a b q g => fN (Nat.mul a b) fun c => numK k c q g) (fun _ _ _ _ g => g) (fun _ _ _ _ g => g) (fun _ _ _ _ g => g) (fun _ _ _ _ g => g) (fun _ _ _ _ g => g) (fun _ _ _ _ g => g) (fun _ _ _ _ g => g) (fun _ _ _ _ g => g) (fun _ a b q _ => bitK (Nat.beq a b) q) (fun _ a b q _ => bitK (Bool.not (Nat.beq a b)) q) (fun _ a b q _ => bitK (Nat.ble (Nat.succ a) b) q) (fun _ a b q _ => bitK (Nat.ble a b) q) (fun _ a b q _ => bitK (Nat.ble (Nat.succ b) a) q) (fun _ a b q _ => bitK (Nat.ble b a) q) op
def armBin (op : BinOp) (_ : TypeId) (x y : Operand) (_ : TypeId) : ArmT := fun _ s qv _ g => evK s x fun v => evK s y fun u => intV v (fun k a => intV u (fun k' b => Bool.rec (motive := fun _ => An) g (binT op k a b (fun r => getH s fun h => qv r h) g) (Nat.beq (kno k) (kno k'))) g) g
end Go.Proofs.YtmjblbgalkjmiaaGreat.EX
