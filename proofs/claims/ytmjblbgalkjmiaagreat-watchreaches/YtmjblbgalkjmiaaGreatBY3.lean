/- Calls, and operations in one. -/
import Derived.Test.YtmjblbgalkjmiaaGreatBY2
import Derived.Calls
import Derived.Laws.Append
import Derived.Laws.AppendOwn
import Derived.Laws.CopyRow
namespace Go.Proofs.YtmjblbgalkjmiaaGreat.EX
open Go
section
variable {P : Program}
/-- A function with a body. -/
def bodied (P : Program) (f : FuncId) : Bool :=
  match P.funcs[f]? with
  | some fn => fn.body.isSome
  | none => false
theorem bodied_of (hn : NG P) {f : FuncId} (h : bodied P f = true) : ∃ fn c, P.funcs[f]? = some fn ∧ fn.body = some c ∧ (fn.name == "runtime.NumGoroutine") = false := by
  unfold bodied at h
  split at h
  · rename_i fn hf
    obtain ⟨c, hc⟩ := Option.isSome_iff_exists.1 h
    exact ⟨fn, c, hf, hc, hn f fn hf⟩
  · cases h
/-- What is called is a function with a body. -/
def calleeOK (P : Program) : Value → Bool
  | .func (.func f) _ _ => bodied P f
  | _ => false
theorem SR.callValue (hn : NG P) {r : Env} {ev ev' : Operand → Value} (c : Call) (ty : TypeId) (x : Operand) (hc : c.callee = .value x) (hx : VR r (ev x) (ev' x)) (ha : ∀ a ∈ c.args.toList, VR r (ev a) (ev' a)) (hk : calleeOK P (ev x) = true) :
    SR P NR (do let d ← resolve ev c ty; invoke d.target d.args) (do let d ← resolve ev' c ty; invoke d.target d.args) r := by
  have hargs := AVs.map c.args ha
  unfold Go.resolve
  rw [hc]
  dsimp only
  revert hx hk
  generalize ev x = v
  generalize ev' x = v'
  intro hx hk
  cases v with
  | func fn first cap =>
    cases fn with
    | func f =>
      obtain ⟨first⟩ := first
      obtain ⟨cap⟩ := cap
      simp only [VRe] at hx
      obtain ⟨f', c', h1, h2, rfl⟩ := hx
      exact SR.callFunc f (AVs.append (AVs.append (show AVs r ⟨first⟩ ⟨f'⟩ from h1) hargs) (show AVs r ⟨cap⟩ ⟨c'⟩ from h2)) (bodied_of hn hk)
    | _ => cases hk
  | _ => cases hk
theorem SR.deferOp {r : Env} {ev ev' : Operand → Value} (c : Call) (ty : TypeId) (x : Operand) (hc : c.callee = .value x) (hx : VR r (ev x) (ev' x)) (ha : ∀ a ∈ c.args.toList, VR r (ev a) (ev' a)) (hk : calleeOK P (ev x) = true) :
    SR P NR (do pure (.defer (← resolve ev c ty))) (do pure (.defer (← resolve ev' c ty))) r := by
  have hargs := AVs.map c.args ha
  unfold Go.resolve
  rw [hc]
  dsimp only
  revert hx hk
  generalize ev x = v
  generalize ev' x = v'
  intro hx hk
  cases v with
  | func fn first cap =>
    cases fn with
    | func f =>
      obtain ⟨first⟩ := first
      obtain ⟨cap⟩ := cap
      simp only [VRe] at hx
      obtain ⟨f', c', h1, h2, rfl⟩ := hx
      exact SR.p ⟨_, ⟨_, _, h2, AVs.append (show AVs r ⟨first⟩ ⟨f'⟩ from h1) hargs, rfl⟩, rfl⟩
    | _ => cases hk
  | _ => cases hk
theorem SR.pick {r : Env} {c c' a a' b b' : Value} (hc : VR r c c') (ha : VR r a a') (hb : VR r b b') : SR P NR (do pure (.value (if ← asBool c then a else b))) (do pure (.value (if ← asBool c' then a' else b'))) r := by
  refine SR.b (Q := Eqq) ?_ fun r1 x x' l1 e => ?_
  · cases c with
    | bool x => cases hc; exact SR.p rfl
    | _ => exact SR.stuck _ _
  · cases e
    refine SR.p ?_
    cases x
    · exact ⟨b', hb.mono l1, rfl⟩
    · exact ⟨a', ha.mono l1, rfl⟩
theorem PL.map {r : Env} {ev ev' : Operand → Value} (ps : Array (Nat × Operand)) (h : ∀ p ∈ ps.toList, VR r (ev p.2) (ev' p.2)) : PL r (ps.map fun (i, x) => (i, ev x)).toList (ps.map fun (i, x) => (i, ev' x)).toList := by
  simp only [Array.toList_map]
  generalize ps.toList = l at h
  induction l with
  | nil => rfl
  | cons x s ih => exact ⟨ev' x.2, _, h x (by simp), ih fun y hy => h y (by simp [hy]), rfl⟩
theorem OV.map {r : Env} {ev ev' : Operand → Value} (x : Option Operand) (h : ∀ y, x = some y → VR r (ev y) (ev' y)) : OV r (x.map ev) (x.map ev') := by
  cases x with
  | none => trivial
  | some y => exact h y rfl
def isSl : Value → Bool
  | .slice .. => true
  | _ => false
/-- Bytes to text. -/
def convB (P : Program) (src dst : TypeId) : Bool :=
  match P.underlying src, P.underlying dst with
  | some (.slice e), some .string => match P.underlying e with
    | some (.int .u8) => true
    | _ => false
  | _, _ => false
theorem SR.convert {r : Env} {src dst : TypeId} (h : convB P src dst = true) {x x' : Value} (hx : VR r x x') (hs : isSl x = true) : SR P VR (Go.convert src dst x) (Go.convert src dst x') r := by
  unfold convB at h
  split at h
  · rename_i e h1 h2
    split at h
    · rename_i h3
      unfold Go.convert
      refine SR.known h1 (SR.known h2 ?_)
      cases x with
      | slice p n c =>
        have : ∃ p' c', x' = .slice p' n c' := by
          cases p with
          | none => exact ⟨_, _, hx⟩
          | some q => obtain ⟨a2, c', _, _, _, rfl⟩ := hx; exact ⟨_, _, rfl⟩
        obtain ⟨p', c', rfl⟩ := this
        cases p <;> cases p' <;> exact SR.known h3 (SR.bytesToString hx)
      | _ => cases hs
    · cases h
  · cases h
theorem bin_alike {r : Env} {ev ev' : Operand → Value} {x y : Operand} (hx : VR r (ev x) (ev' x)) (hy : VR r (ev y) (ev' y)) (h : nilPair (ev x) (ev y) = true) : nilPair (ev' x) (ev' y) = true := by
  unfold nilPair at h ⊢
  simp only [Bool.or_eq_true, Bool.and_eq_true] at h ⊢
  rcases h with ⟨h1, h2⟩ | ⟨h1, h2⟩
  · exact .inl ⟨refish_alike h1 hx, by rw [nilish_alike h2 hy]; exact h2⟩
  · exact .inr ⟨by rw [nilish_alike h1 hx]; exact h1, refish_alike h2 hy⟩
theorem SR.eqlOp {r : Env} {ev ev' : Operand → Value} {t : TypeId} {x y : Operand} (hx : VR r (ev x) (ev' x)) (hy : VR r (ev y) (ev' y)) (h : nilPair (ev x) (ev y) = true) :
    SR P VR (do eqGuard .eql t x y (ev x) (ev y); Go.binOp .eql t (ev x) (ev y)) (do eqGuard .eql t x y (ev' x) (ev' y); Go.binOp .eql t (ev' x) (ev' y)) r ∧ SR P VR (do eqGuard .neq t x y (ev x) (ev y); Go.binOp .neq t (ev x) (ev y)) (do eqGuard .neq t x y (ev' x) (ev' y); Go.binOp .neq t (ev' x) (ev' y)) r := by
  have h' := bin_alike hx hy h
  rw [guard_nil h, guard_nil h', guard_nil h, guard_nil h', (bin_eql h).1, (bin_eql h').1, (bin_eql h).2, (bin_eql h').2]
  have e := SR.equalNil (P := P) t hx hy h
  simp only [pure_bind]
  exact ⟨SR.b e fun r1 a b l q => by cases q; exact SR.p rfl, SR.b e fun r1 a b l q => by cases q; exact SR.p rfl⟩
/-- A slice is cleared. -/
def clrOK (x : Option Value) : Bool :=
  match x with
  | some (.slice ..) => true
  | _ => false
theorem SR.clear (hz : Zc P) {r : Env} (ts : Array TypeId) (t : TypeId) {a a' : Array Value} (h : AVs r a a') (hk : clrOK a[0]? = true) : SR P VR (Builtin.clear_ ts t a) (Builtin.clear_ ts t a') r := by
  unfold Builtin.clear_
  have h0 := VRs.at h 0
  revert h0 hk
  generalize a[0]? = x
  generalize a'[0]? = x'
  intro hk h0
  have fin : ∀ r1 : Env, SR P VR (pure (.tuple #[])) (pure (.tuple #[])) r1 := fun r1 => SR.p ((VR.closed 3 (.tuple #[]) (.tuple #[]) rfl).2 rfl)
  cases ts[0]? with
  | none => exact SR.stuck _ _
  | some ty =>
    cases x with
    | none => exact SR.stuck _ _
    | some x => cases x' with
      | none => exact h0.elim
      | some x' =>
        dsimp only
        refine SR.b (SR.underlying ty) fun r1 d d' l1 e => ?_
        cases e
        have k0 : VR r1 x x' := VR.mono l1 _ _ h0
        cases x with
        | slice b n c =>
          cases b with
          | none => cases k0; cases d <;> exact fin r1
          | some b =>
            obtain ⟨a2, c', g1, g2, g5, rfl⟩ := k0
            cases n with
            | zero => cases d <;> exact fin r1
            | succ n =>
              have hb : AR r1 b a2 := by
                rcases g5 with g5 | g5
                · omega
                · exact g5
              cases d with
              | slice el =>
                refine SR.b (SR.zeroValue hz el) fun r2 z z' l2 e => ?_
                obtain ⟨rfl, hzz⟩ := e
                exact SR.b (SR.storeCells _ _ 0 r2 (hb.mono l2) (zeros_alike z.cells (VRs.cells z z hzz) _)) fun r3 _ _ _ _ => fin r3
              | _ => exact SR.stuck _ _
        | _ => cases hk
/-- A part with room for nothing, of a row that an append made. -/
def cap0 (x : Value) (mx : Option Value) : Bool :=
  match x, mx with
  | .slice (some a) _ _, some (.int _ (.ofNat 0)) => Nat.beq (a.block % 2) 1
  | _, _ => false
/-- The operations that are alike as they are. -/
def okOp (P : Program) (ev : Operand → Value) : Op → Bool
  | .move _ | .assign _ | .pick .. | .alloc _ | .box .. | .build .. | .buildSlice .. | .load .. | .store .. | .makeInterface .. | .makeFunc .. | .makeSlice .. | .fieldAddr .. | .field .. | .indexAddr .. | .extract .. | .index .. | .range .. => true
  | .next x _ => evenP (ev x)
  | .entry x => evenP (ev x)
  | .makeMap _ none => true
  | .slice _ x lo hi mx => sliceOK (ev x) (lo.map ev) (hi.map ev) (mx.map ev) && !cap0 (ev x) (mx.map ev)
  | .nilCheck x => match ev x with
    | .pointer _ | .nilFunc | .nilIface | .func (.func _) _ _ => true
    | _ => false
  | .call { callee := .value x, .. } => calleeOK P (ev x)
  | .defer { callee := .value x, .. } => calleeOK P (ev x)
  | .call { callee := .builtin .len, .. } | .call { callee := .builtin .copy, .. } => true
  | .binOp .eql _ x y _ | .binOp .neq _ x y _ => nilPair (ev x) (ev y)
  | .typeAssert _ _ _ ok => ok
  | .convert src dst x => convB P src dst && isSl (ev x)
  | .call { callee := .builtin .cap, args := as, .. } => capKnown (as.map ev)[0]?
  | .call { callee := .builtin .clear, args := as, .. } => clrOK (as.map ev)[0]?
  | .call { callee := .builtin .append, args := as, argTypes := ts } => appB P ts (as.map ev)
  | .call { callee := .invoke x name, .. } => invB P (ev x) name
  | _ => false
theorem SR.nilPanic {α : Type} {Q : Env → α → α → Prop} {r : Env} : SR P Q (runtimePanic .nilDeref) (runtimePanic .nilDeref) r :=
  (VR.closed (r := r) 3 (Value.iface P.rt.errorString (strVal "invalid memory address or nil pointer dereference")) (Value.iface P.rt.errorString (strVal "invalid memory address or nil pointer dereference")) rfl).2 rfl
theorem SR.execOp (hz : Zc P) {r : Env} {ev ev' : Operand → Value} (o : Oper) (hev : ∀ x, VR r (ev x) (ev' x)) (hok : okOp P ev o.op = true) : SR P NR (execOp ev o) (execOp ev' o) r := by
  obtain ⟨dst, op, type, pos, after, guard⟩ := o
  unfold Go.execOp
  cases op with
  | move x => exact SR.p ⟨_, hev x, rfl⟩
  | assign x => exact SR.p ⟨_, hev x, rfl⟩
  | pick c a b => exact SR.pick (hev c) (hev a) (hev b)
  | alloc t => exact SR.v (SR.alloc hz t)
  | box t x => exact SR.v (SR.box t (hev x))
  | build t ps => exact SR.v (SR.build hz t (PL.map ps fun p _ => hev _))
  | buildSlice t n ps => exact SR.v (SR.buildSlice hz t n (PL.map ps fun p _ => hev _))
  | load t a => exact SR.v (SR.loadAt t (hev a))
  | store t a x => exact SR.u (SR.storeAt t (hev a) (hev x))
  | makeInterface t x => exact SR.v (SR.makeInterface t (hev x))
  | makeFunc fn f c => exact SR.v (SR.makeFunc fn (AVs.map f fun x _ => hev x) (AVs.map c fun x _ => hev x))
  | makeSlice t n c => exact SR.v (SR.makeSlice hz t (hev n) (hev c))
  | fieldAddr t x f => exact SR.v (SR.fieldAt t f (hev x))
  | field t x f => exact SR.v (SR.field t f (hev x))
  | indexAddr t x i => exact SR.v (SR.indexAt t (hev x) (hev i))
  | extract x i => exact SR.v (SR.extract i (hev x))
  | index t x i => exact SR.v (SR.index t (hev x) (hev i))
  | range t x => exact SR.v (SR.range t (hev x))
  | next x b => exact SR.v (SR.next b _ (hev x) hok)
  | entry x => exact SR.v (SR.entry (hev x) hok)
  | makeMap t n => cases n with
    | none => exact SR.v (SR.makeMap t)
    | some _ => cases hok
  | slice t x lo hi mx => exact SR.v (SR.sliceAt t (hev x) (OV.map lo fun y _ => hev y) (OV.map hi fun y _ => hev y) (OV.map mx fun y _ => hev y) (by simp only [okOp, Bool.and_eq_true] at hok; exact hok.1))
  | nilCheck x =>
    have h := hev x
    simp only [okOp] at hok
    dsimp only
    revert h hok
    generalize ev x = v
    generalize ev' x = v'
    intro hok h
    cases v with
    | pointer a => cases a with
      | none => cases h; exact SR.nilPanic
      | some a => have h' := h; obtain ⟨c, _, rfl⟩ := h; exact SR.p ⟨_, h', rfl⟩
    | nilFunc => cases h; exact SR.nilPanic
    | nilIface => cases h; exact SR.nilPanic
    | func fn f c => cases fn with
      | func g =>
        obtain ⟨f⟩ := f
        obtain ⟨c⟩ := c
        have h' := h
        simp only [VRe] at h
        obtain ⟨f', c', _, _, rfl⟩ := h
        exact SR.p ⟨_, h', rfl⟩
      | _ => cases hok
    | _ => cases hok
  | call c =>
    obtain ⟨callee, args, ats⟩ := c
    cases callee with
    | value x => exact SR.callValue hz.2 _ type x rfl (hev x) (fun a _ => hev a) hok
    | invoke x name => exact SR.invokeM hz.2 _ type x name rfl (hev x) (fun a _ => hev a) hok
    | builtin b =>
      cases b with
      | len => exact SR.v (SR.len ats type (AVs.map args fun x _ => hev x))
      | copy => exact SR.v (SR.copy ats type (AVs.map args fun x _ => hev x))
      | cap => exact SR.v (SR.cap ats type (AVs.map args fun x _ => hev x) hok)
      | clear => exact SR.v (SR.clear hz ats type (AVs.map args fun x _ => hev x) hok)
      | append => exact SR.v (SR.append ats type (AVs.map args fun x _ => hev x) hok)
      | _ => cases hok
  | defer c =>
    obtain ⟨callee, args, ats⟩ := c
    cases callee with
    | value x => exact SR.deferOp _ type x rfl (hev x) (fun a _ => hev a) hok
    | _ => cases hok
  | binOp op t x y _ =>
    cases op with
    | eql => exact SR.v (SR.eqlOp (hev x) (hev y) hok).1
    | neq => exact SR.v (SR.eqlOp (hev x) (hev y) hok).2
    | _ => cases hok
  | typeAssert x a b ok =>
    have : ok = true := hok
    subst this
    exact SR.v (SR.typeAssert hz a b (hev x))
  | convert src dst x =>
    simp only [okOp, Bool.and_eq_true] at hok
    exact SR.v (SR.convert hok.1 (hev x) hok.2)
  | _ => cases hok
end
end Go.Proofs.YtmjblbgalkjmiaaGreat.EX
/- Loops, round by round. -/
namespace Go.Proofs.YtmjblbgalkjmiaaGreat.EX
open Go
section
variable {P : Program} {Q : Exit → Act → World → Prop} {a : Act} {w : World}
/-- From a round's beginning on. -/
def Lp (P : Program) (c : Code) (Q : Exit → Act → World → Prop) (a : Act) (w : World) : Prop :=
  ∀ (b : Frame) (k : List Item) (cs : List Frame), ∃ e a' w', Q e a' w' ∧ Arrives P (lone (b.at a (.code c :: .inLoop c :: k)) cs w) b k cs e a' w'
theorem Lp.step {c : Code} (h : c.wp P (Exit.then (Lp P c Q) Q) a w) : Lp P c Q a w := by
  intro b k cs
  obtain ⟨e, a₁, w₁, hq, harr⟩ := h b (.inLoop c :: k) cs
  cases e with
  | normal =>
    obtain ⟨e₂, a₂, w₂, hq₂, harr₂⟩ := hq b k cs
    exact ⟨e₂, a₂, w₂, hq₂, .of_steps (Steps.trans harr (.one step_inLoop)) harr₂⟩
  | exit id => exact ⟨_, a₁, w₁, hq, .pass (x := .inLoop c) rfl (fun _ _ => .inl (by simp)) harr⟩
  | goto l => exact ⟨_, a₁, w₁, hq, .pass (x := .inLoop c) rfl (fun _ _ => .inl (by simp)) harr⟩
  | ret => exact ⟨_, a₁, w₁, hq, .pass (x := .inLoop c) rfl (fun _ _ => .inl (by simp)) harr⟩
  | panic ch => exact ⟨_, a₁, w₁, hq, .pass (x := .inLoop c) rfl (fun _ _ => .inl (by simp)) harr⟩
  | outgrown => exact ⟨_, a₁, w₁, hq, .pass (x := .inLoop c) rfl (fun _ _ => .inl (by simp)) harr⟩
theorem Lp.loop {c : Code} (h : Lp P c Q a w) : (Code.loop c).wp P Q a w := by
  intro b k cs
  obtain ⟨e, a', w', hq, harr⟩ := h b k cs
  exact ⟨e, a', w', hq, .of_steps (.one step_loop) harr⟩
end
end Go.Proofs.YtmjblbgalkjmiaaGreat.EX
/- Trees that only load: the world stays the same one. -/
namespace Go.Proofs.YtmjblbgalkjmiaaGreat.EX
open Go
section
variable {P : Program}
def runL (P : Program) {α : Type} : Sem α → Hp → Option α
  | .pure a, _ => some a
  | .load _ a k, h => match h.t.get a.block with
    | some (.cells ⟨cs⟩ _ _) => if a.spot.isSome then none else match cs[a.off]? with
      | some v => runL P (k v) h
      | none => none
    | _ => none
  | .program k, h => runL P (k P) h
  | .mark _ k, h => runL P k h
  | .choose q k, h => if q.forced then runL P (k 0) h else none
  | _, _ => none
theorem run_SRL {α : Type} {Q : Env → α → α → Prop} : ∀ (s s' : Sem α) (r : Env) (h : Hp) (w : World), SR P Q s s' r → HR r h w → ∀ x, runL P s h = some x → ∃ x', s'.run P w = .ok x' w ∧ Q r x x' := by
  intro s
  induction s with
  | pure a =>
    intro s' r h w hs H x e
    cases s' <;> simp only [SR] at hs
    cases e
    exact ⟨_, rfl, hs⟩
  | load m a k ih =>
    intro s' r h w hs H x e
    cases s' <;> simp only [SR] at hs
    rename_i m' a' k'
    obtain ⟨rfl, ha, hk⟩ := hs
    simp only [runL] at e
    split at e
    · rename_i cs t f hb
      split at e
      · cases e
      · rename_i hsp
        split at e
        · rename_i v hv
          obtain ⟨pre, cs', rest, z, k2, k4, kz, k5, k6, k7⟩ := H.at ha hb
          obtain ⟨v', hv', hvr⟩ := VRs.get? k4 hv
          have hcell : w.cell? a' = some v' := by
            simp only [World.cell?, k2]
            simp only [Bool.not_eq_true] at hsp
            rw [k6, hsp, k5]
            simp only [Bool.false_eq_true, if_false, List.getElem?_toArray]
            rw [row_at, List.getElem?_append_left (List.getElem?_eq_some_iff.1 hv').1, hv']
          obtain ⟨x', q1, q2⟩ := ih v _ r h w (hk v v' hvr) H x e
          refine ⟨x', ?_, q2⟩
          simp only [Sem.run, hcell]
          exact q1
        · cases e
    · cases e
  | program k ih =>
    intro s' r h w hs H x e
    cases s' <;> simp only [SR] at hs
    exact ih _ _ r h w hs H x e
  | mark m k ih =>
    intro s' r h w hs H x e
    cases s' <;> simp only [SR] at hs
    exact ih _ r h w hs H x e
  | choose c k ih =>
    intro s' r h w hs H x e
    cases s' <;> simp only [SR] at hs
    obtain ⟨rfl, hk⟩ := hs
    simp only [runL] at e
    split at e
    · rename_i hf
      obtain ⟨x', q1, q2⟩ := ih _ _ r h w (hk hf) H x e
      refine ⟨x', ?_, q2⟩
      simp only [Sem.run, hf, if_true]
      exact q1
    · cases e
  | _ => intro s' r h w hs H x e; cases e
end
end Go.Proofs.YtmjblbgalkjmiaaGreat.EX
/- Appends beyond what is there. -/
namespace Go.Proofs.YtmjblbgalkjmiaaGreat.EX
open Go
section
variable {P : Program}
/-- What an append does, where there is no room: in words of what its parts answer. -/
theorem run_moves {ts : Array TypeId} {ty st xt e : TypeId} {xd : TypeDesc} {args : Array Value} {base : Option Addr} {n c m : Nat} {x : Value} {i : TypeInfo} {z : Value} {old new : Array Value} (w : World)
    (e1 : ts[0]? = some st) (e2 : ts[1]? = some xt) (e3 : args[0]? = some (.slice base n c)) (e4 : args[1]? = some x) (ht : P.underlying st = some (.slice e)) (hx : P.underlying xt = some xd) (hni : ∀ k, xd ≠ .int k) (hi : P.info? e = some i) (hz : i.zero = some z)
    (hlen : Builtin.lenOf x = pure m) (ho : (Builtin.firstCells i.size n (.slice base n c)).run P w.drew = .ok old w.drew) (hn : (Builtin.firstCells i.size m x).run P w.drew = .ok new w.drew)
    (hg : c < n + m) (h63 : ((n + m : Nat) : Int) ≤ 9223372036854775807) (hfit : Builtin.nextslicecap (n + m) c * i.bytes ≤ 281474976710656) :
    (Builtin.append_ ts ty args).run P w = .ok (.slice (some ⟨w.heap.size, 0, none⟩) (n + m) (grownCap w (n + m) c e)) (w.drew.alloc (.cells (old ++ new ++ Builtin.zeroCells z.cells (grownCap w (n + m) c e - (n + m))) e)) := by
  have hle : ¬ (n + m ≤ c) := by omega
  have h63' : ¬ (9223372036854775807 < ((n : Int) + (m : Int))) := by omega
  have h48' : ¬ (281474976710656 < Builtin.nextslicecap (n + m) c * i.bytes) := by omega
  simp [Builtin.append_, e1, e2, e3, e4, run_underlying ht, run_underlying hx, sizeOf, typeInfo, zeroValue, hi, hz, hlen, hle, h63', h48', Question.forced, ho, hn, newRow, grownCap]
/-- The same, for what is made at once. -/
theorem run_moves_make {ts : Array TypeId} {ty st xt e : TypeId} {k k' : IntKind} {args : Array Value} {base : Option Addr} {n c m : Nat} {i : TypeInfo} {z : Value} {old : Array Value} (w : World)
    (e1 : ts[0]? = some st) (e2 : ts[1]? = some xt) (e3 : args[0]? = some (.slice base n c)) (e4 : args[1]? = some (.int k' (m : Int))) (ht : P.underlying st = some (.slice e)) (hx : P.underlying xt = some (.int k)) (hi : P.info? e = some i) (hz : i.zero = some z)
    (ho : (Builtin.firstCells i.size n (.slice base n c)).run P w.drew = .ok old w.drew) (h0 : 0 < m * i.size) (hm : m < 1099511627776) (hmb : m * i.bytes ≤ 281474976710656)
    (hg : c < n + m) (h63 : ((n + m : Nat) : Int) ≤ 9223372036854775807) (hfit : Builtin.nextslicecap (n + m) c * i.bytes ≤ 281474976710656) :
    (Builtin.append_ ts ty args).run P w = .ok (.slice (some ⟨w.heap.size, 0, none⟩) (n + m) (grownCap w (n + m) c e)) (w.drew.alloc (.cells (old ++ Builtin.zeroCells z.cells m ++ Builtin.zeroCells z.cells (grownCap w (n + m) c e - (n + m))) e)) := by
  have hle : ¬ (n + m ≤ c) := by omega
  have h63' : ¬ (9223372036854775807 < ((n : Int) + (m : Int))) := by omega
  have h48' : ¬ (281474976710656 < Builtin.nextslicecap (n + m) c * i.bytes) := by omega
  have hneg : ¬ ((m : Int) < 0) := by omega
  have h48a : ¬ (281474976710656 < (m : Int) * (i.bytes : Int)) := by
    rw [← Int.natCast_mul]
    omega
  have hw : IntKind.i64.wrap (m : Int) = (m : Int) := by
    simp [IntKind.wrap, IntKind.bits, IntKind.signed]
    omega
  have hms : ¬ (m * i.size = 0) := by omega
  simp [Builtin.append_, e1, e2, e3, e4, run_underlying ht, run_underlying hx, sizeOf, typeInfo, zeroValue, hi, hz, asInt, asIntOf, hw, hneg, h48a, hle, h63', h48', Question.forced, ho, newRow, grownCap]
  exact fun h => absurd h hms
/-- What an append does, where there is room. -/
theorem run_stays {ts : Array TypeId} {ty st xt e : TypeId} {xd : TypeDesc} {args : Array Value} {g o n c m : Nat} {x : Value} {i : TypeInfo} {new cur : Array Value} {t : TypeId} (w : World)
    (e1 : ts[0]? = some st) (e2 : ts[1]? = some xt) (e3 : args[0]? = some (.slice (some ⟨g, o, none⟩) n c)) (e4 : args[1]? = some x) (ht : P.underlying st = some (.slice e)) (hx : P.underlying xt = some xd) (hni : ∀ k, xd ≠ .int k) (hi : P.info? e = some i)
    (hlen : Builtin.lenOf x = pure m) (hn : (Builtin.firstCells i.size m x).run P w = .ok new w) (hle : n + m ≤ c) (hg : w.heap[g]? = some (.cells cur t (0, 0))) (hfit : o + n * i.size + new.toList.length ≤ cur.size) (h1 : ∀ u ∈ new.toList, u.oneCell' = true) :
    (Builtin.append_ ts ty args).run P w = .ok (.slice (some ⟨g, o, none⟩) (n + m) c) (w.setRow g (cur.toList.take (o + n * i.size) ++ new.toList ++ cur.toList.drop (o + n * i.size + new.toList.length)).toArray) := by
  have hst := run_storeCells_at P g (o + n * i.size) t new.toList 0 cur w hg (by simpa using hfit) h1
  simp only [Nat.add_zero] at hst
  have hadd : (⟨g, o, none⟩ : Addr).add (n * i.size) = ⟨g, o + n * i.size, none⟩ := by
    unfold Addr.add
    split
    · rename_i h; rw [h]; rfl
    · rfl
  simp [Builtin.append_, e1, e2, e3, e4, run_underlying ht, run_underlying hx, sizeOf, typeInfo, hi, hlen, hle, hn, hadd, hst]
end
end Go.Proofs.YtmjblbgalkjmiaaGreat.EX
/- A block that an append makes: heaps. -/
namespace Go.Proofs.YtmjblbgalkjmiaaGreat.EX
open Go
def GrowE (r : Env) (n C X k c0 d z : Nat) : Env := fun b c => r b c ∨ (b = 2 * n + 1 ∧ c = C) ∨ (b = 2 * n + 2 ∧ c = X) ∨ (b = 2 * n + 4 ∧ c = X + 1 + k) ∨ (b = 2 * n + 6 ∧ c = X + 1 + c0) ∨ (b = 2 * n + 8 ∧ c = X + 1 + d) ∨ (b = 2 * n + 10 ∧ c = X + 1 + z)
theorem GrowE.gh (r : Env) (n C X k c0 d z : Nat) : Gh (GrowE r n C X k c0 d z) (2 * n + 1) k c0 d z :=
  ⟨X, .inr (.inr (.inl ⟨rfl, rfl⟩)), .inr (.inr (.inr (.inl ⟨rfl, rfl⟩))), .inr (.inr (.inr (.inr (.inl ⟨rfl, rfl⟩)))), .inr (.inr (.inr (.inr (.inr (.inl ⟨rfl, rfl⟩))))), .inr (.inr (.inr (.inr (.inr (.inr ⟨rfl, rfl⟩)))))⟩
def dropT (d : Option Nat) (t : T Obj) : T Obj :=
  match d with
  | some b => t.set b none
  | none => t
theorem dropT_get (d : Option Nat) (t : T Obj) (b : Nat) : (dropT d t).get b = if some b = d then none else t.get b := by
  cases d with
  | none => simp [dropT]
  | some x =>
    simp only [dropT, T.get_set]
    by_cases e : b = x
    · subst e; simp
    · rw [if_neg e, if_neg (by simpa using e)]
theorem HR.grow {r : Env} {h : Hp} {w w2 : World} (H : HR r h w) (hT : Tidy h) (d : Option Nat) {cs : List Value} {e : TypeId} {cw : Array Value} {zw : Nat × Nat} {C k c0 d0 z : Nat} (hor : OD r d0 (.cells ⟨cs⟩ e (0, 0)) (.cells cw e zw))
    (hsz : w.heap.size ≤ w2.heap.size) (hkeep : ∀ x c1, (h.t.get x).isSome → some x ≠ d → r x c1 → w2.heap[c1]? = w.heap[c1]? ∧ c1 ≠ C) (hC : w2.heap[C]? = some (.cells cw e zw)) (hnew : C < w.heap.size → ∃ b0, (h.t.get b0).isSome ∧ r b0 C)
    (hfr : ∀ c, c < w.heap.size → (∀ b, (h.t.get b).isSome → ¬ r b c) → w2.heap[c]? = w.heap[c]?) (hcap : cs.length = c0 * z ∧ d0 + k * z ≤ cw.size) (hos : w2.os = w.os) (htp : w2.tape = w.tape) (hout : w2.output = w.output) :
    HR (GrowE r h.n C (w.heap.size + 1) k c0 d0 z) ⟨(dropT d h.t).set (2 * h.n + 1) (some (.cells ⟨cs⟩ e (0, 0))), h.n + 6⟩ w2 ∧ Tidy ⟨(dropT d h.t).set (2 * h.n + 1) (some (.cells ⟨cs⟩ e (0, 0))), h.n + 6⟩ ∧
      Fr r (GrowE r h.n C (w.heap.size + 1) k c0 d0 z) h ⟨(dropT d h.t).set (2 * h.n + 1) (some (.cells ⟨cs⟩ e (0, 0))), h.n + 6⟩ w w2 := by
  have hle : Le r (GrowE r h.n C (w.heap.size + 1) k c0 d0 z) := fun _ _ h => .inl h
  have old : ∀ x y, x < 2 * h.n → GrowE r h.n C (w.heap.size + 1) k c0 d0 z x y → r x y := fun x y hx q => q.elim id fun q => by omega
  have one : ∀ y, GrowE r h.n C (w.heap.size + 1) k c0 d0 z (2 * h.n + 1) y → y = C := fun y q => by
    rcases q with q | q
    · have := H.lt _ _ q; omega
    · omega
  have new : ∀ x y, 2 * h.n ≤ x → GrowE r h.n C (w.heap.size + 1) k c0 d0 z x y → (x = 2 * h.n + 1 ∧ y = C) ∨ (x = 2 * h.n + 2 ∧ y = w.heap.size + 1) ∨ (x = 2 * h.n + 4 ∧ y = w.heap.size + 1 + 1 + k) ∨ (x = 2 * h.n + 6 ∧ y = w.heap.size + 1 + 1 + c0) ∨ (x = 2 * h.n + 8 ∧ y = w.heap.size + 1 + 1 + d0) ∨ (x = 2 * h.n + 10 ∧ y = w.heap.size + 1 + 1 + z) := fun x y hx q => by
    rcases q with q | q
    · have := H.lt _ _ q; omega
    · exact q
  have ghs : ∀ kk cc dd zz, Gh (GrowE r h.n C (w.heap.size + 1) k c0 d0 z) (2 * h.n + 1) kk cc dd zz → kk = k ∧ cc = c0 ∧ dd = d0 ∧ zz = z := fun kk cc dd zz q => by
    obtain ⟨X, q1, q2, q3, q4, q5⟩ := q
    have q1 := new _ _ (by omega) q1
    have q2 := new _ _ (by omega) q2
    have q3 := new _ _ (by omega) q3
    have q4 := new _ _ (by omega) q4
    have q5 := new _ _ (by omega) q5
    have e1 : X = w.heap.size + 1 := by omega
    refine ⟨by omega, by omega, by omega, by omega⟩
  have get1 : ∀ x, ((dropT d h.t).set (2 * h.n + 1) (some (.cells ⟨cs⟩ e (0, 0)))).get x = if x = 2 * h.n + 1 then some (.cells ⟨cs⟩ e (0, 0)) else if some x = d then none else h.t.get x := fun x => by rw [T.get_set, dropT_get]
  have live1 : ∀ x u, x ≠ 2 * h.n + 1 → ((dropT d h.t).set (2 * h.n + 1) (some (.cells ⟨cs⟩ e (0, 0)))).get x = some u → h.t.get x = some u ∧ some x ≠ d ∧ x < 2 * h.n := fun x u hx hu => by
    rw [get1, if_neg hx] at hu
    by_cases hd : some x = d
    · rw [if_pos hd] at hu; cases hu
    · rw [if_neg hd] at hu
      refine ⟨hu, hd, ?_⟩
      obtain ⟨c, _, q, _⟩ := H.live x u hu
      exact H.lt x c q
  refine ⟨⟨fun x u hx => ?_, fun x y z k1 k2 => ?_, fun x y z hx hy k1 k2 => ?_, fun x y q => ?_, fun x y q ho1 => ?_, fun x cx kk cc dd zz cs1 t z1 ho1 h1 h2 h5 => ?_⟩, fun b hb => ?_, ⟨hle, fun x y q => H.lt x y q, hsz, by simp, fun x y q hq => ?_, fun x hlt hx => ?_, hfr, hos, htp, hout⟩⟩
  · by_cases hx1 : x = 2 * h.n + 1
    · rw [get1, if_pos hx1] at hx
      cases hx
      exact ⟨C, _, .inr (.inl ⟨hx1, rfl⟩), hC, d0, .inr ⟨by omega, k, c0, z, by rw [hx1]; exact GrowE.gh ..⟩, hor.mono hle⟩
    · obtain ⟨q1, q2, q3⟩ := live1 x u hx1 hx
      obtain ⟨c1, o1, g1, g2, g3⟩ := H.live x u q1
      obtain ⟨g4, _⟩ := hkeep x c1 (by rw [q1]; rfl) q2 g1
      exact ⟨c1, o1, .inl g1, by rw [g4]; exact g2, g3.mono hle⟩
  · rcases k1 with k1 | k1
    · have h1 := H.lt _ _ k1
      exact H.fn _ _ _ k1 (old _ _ h1 k2)
    · rcases k2 with k2 | k2
      · have := H.lt _ _ k2; omega
      · omega
  · obtain ⟨u, hu⟩ := Option.isSome_iff_exists.1 hx
    obtain ⟨v, hv⟩ := Option.isSome_iff_exists.1 hy
    by_cases hx1 : x = 2 * h.n + 1
    · by_cases hy1 : y = 2 * h.n + 1
      · omega
      · exfalso
        obtain ⟨q1, q2, q3⟩ := live1 y v hy1 hv
        have g := old _ _ q3 k2
        subst hx1
        have := one _ k1
        exact (hkeep y z (by rw [q1]; rfl) q2 g).2 this
    · obtain ⟨q1, q2, q3⟩ := live1 x u hx1 hu
      have g := old _ _ q3 k1
      by_cases hy1 : y = 2 * h.n + 1
      · exfalso
        subst hy1
        have := one _ k2
        exact (hkeep x z (by rw [q1]; rfl) q2 g).2 this
      · obtain ⟨p1, p2, p3⟩ := live1 y v hy1 hv
        exact H.inj x y z (by rw [q1]; rfl) (by rw [p1]; rfl) g (old _ _ p3 k2)
  · show x < 2 * (h.n + 6)
    rcases q with q | q
    · have := H.lt _ _ q; omega
    · omega
  · show x + 11 ≤ 2 * (h.n + 6)
    rcases q with q | q
    · have := H.odd _ _ q ho1; omega
    · omega
  · by_cases hx1 : x = 2 * h.n + 1
    · rw [get1, if_pos hx1] at h5
      cases h5
      subst hx1
      have e1 := one _ h1
      obtain ⟨rfl, rfl, rfl, rfl⟩ := ghs _ _ _ _ h2
      exact ⟨hcap.1, cw, zw, by rw [e1]; exact hC, hcap.2⟩
    · obtain ⟨q1, q2, q3⟩ := live1 x _ hx1 h5
      have g := old _ _ q3 h1
      have hb := H.odd _ _ g ho1
      obtain ⟨g0, cs', z', g1, g2⟩ := H.caps x cx kk cc dd zz cs1 t z1 ho1 g (h2.old old (by omega)) q1
      obtain ⟨g4, _⟩ := hkeep x cx (by rw [q1]; rfl) q2 g
      exact ⟨g0, cs', z', by rw [g4]; exact g1, g2⟩
  · simp only at hb
    rw [get1, if_neg (by omega)]
    have := hT b (by omega)
    rw [this]
    split <;> rfl
  · rcases q with q | q
    · exact .inl q
    · right
      have hx : 2 * h.n ≤ x := by omega
      refine ⟨hx, ?_⟩
      have hc : y < w.heap.size := hq.elim id fun q2 => by omega
      have : y = C := by omega
      rw [this] at hc ⊢
      exact hnew hc
  · simp only at hx
    rw [get1, if_neg (by omega)] at hx
    by_cases hd : some x = d
    · rw [if_pos hd] at hx; cases hx
    · rwa [if_neg hd] at hx
/-- What is known of the slice that is answered. -/
theorem VR.grow (r : Env) (n C X k c0 m c' d z : Nat) (h0 : 0 < m) (h1 : m ≤ c') (h2 : c' ≤ k) (h3 : c0 = m) : VR (GrowE r n C X k c0 d z) (.slice (some ⟨2 * n + 1, 0, none⟩) m m) (.slice (some ⟨C, d, none⟩) m c') := by
  have g := GrowE.gh r n C X k c0 d z
  refine (VRe _).2.2.2.2.2.2.2.2.1 _ _ _ _ |>.2 ⟨⟨C, d, none⟩, c', .inr (.inl ⟨rfl, rfl⟩), ⟨fun e => by simp only at e; omega, h1, fun _ => .inr ⟨k, c0, d, z, 0, g, fun q => by omega, fun _ => by simp, by simp, rfl, by omega, by omega⟩⟩, .inr ⟨d, .inr (.inl ⟨rfl, rfl⟩), .inr ⟨by simp only; omega, k, c0, z, g⟩, by simp, rfl⟩, rfl⟩
end Go.Proofs.YtmjblbgalkjmiaaGreat.EX
/- Appends without room. -/
namespace Go.Proofs.YtmjblbgalkjmiaaGreat.EX
open Go
section
variable {P : Program}
/-- A part that goes to the end of what a row's append left room for. -/
def fitB (c o z len : Nat) : Bool := bif Nat.beq c 0 then Nat.beq o z else Nat.beq len (o + c * z)
/-- What is there, and the block that is given up. -/
def appO (P : Program) (e : TypeId) (base : Option Addr) (n c : Nat) (i : TypeInfo) (h : Hp) : Option (List Value × Option Nat) :=
  match base with
  | none => some ([], none)
  | some a => bif Nat.beq (a.block % 2) 0 then (runL P (Builtin.firstCells i.size n (.slice (some a) n c)) h).map fun l => (l.toList, none)
    else bif a.spot.isNone && Nat.ble n c then match h.t.get a.block with
      | some (.cells ⟨cs⟩ t (0, 0)) => bif Nat.beq t e && fitB c a.off i.size cs.length then some ((cs.drop a.off).take (n * i.size), some a.block) else none
      | _ => none
    else none
/-- What is appended; whether it is made at once. -/
def appN (P : Program) (xd : TypeDesc) (x : Value) (i : TypeInfo) (z : Value) (h : Hp) : Option (Nat × List Value × Bool) :=
  match xd with
  | .int _ => match x with
    | .int _ (.ofNat m) => bif Nat.ble (m + 1) 1099511627776 && Nat.ble 1 (m * i.size) && Nat.ble (m * i.bytes) 281474976710656 then some (m, (Builtin.zeroCells z.cells m).toList, true) else none
    | _ => none
  | _ => match lenV x with
    | some m => (runL P (Builtin.firstCells i.size m x) h).bind fun l => bif l.toList.all oneC then some (m, l.toList, false) else none
    | none => none
def appP (P : Program) (ts : Array TypeId) (args : Array Value) (h : Hp) : Option (Value × Obj × Option Nat) :=
  match ts[0]?, ts[1]?, args[0]?, args[1]? with
  | some st, some xt, some s, some x => match s with
    | .slice base n c => match P.underlying st with
      | some (.slice e) => match P.underlying xt, P.info? e with
        | some xd, some i => match i.zero with
          | some z => match appN P xd x i z h with
            | some (m, new, mk) => match appO P e base n c i h with
              | some (old, d) => bif Nat.ble (c + 1) (n + m) && Nat.ble (2 * (n + m) * (i.bytes + 1)) 281474976710656 && Nat.beq z.cells.size i.size && Nat.beq old.length (n * i.size) && Nat.beq new.length (m * i.size) && (!mk || d.isNone) then
                  some (.slice (some ⟨2 * h.n + 1, 0, none⟩) (n + m) (n + m), .cells ⟨old ++ new⟩ e (0, 0), d) else none
              | none => none
            | none => none
          | none => none
        | _, _ => none
      | _ => none
    | _ => none
  | _, _, _, _ => none
def appX (P : Program) (ts : Array TypeId) (args : Array Value) (h : Hp) : Option (Value × Hp) :=
  match appP P ts args h with
  | some (v, o, d) => some (v, ⟨(dropT d h.t).set (2 * h.n + 1) (some o), h.n + 6⟩)
  | none => none
/-- An append. -/
def appOp : Op → Option (Array TypeId × Array Operand)
  | .call { callee := .builtin .append, args := as, argTypes := ts } => some (ts, as)
  | _ => none
theorem oneC_cell (v : Value) : oneC v = v.oneCell' := by cases v <;> rfl
theorem HR.drew {r : Env} {h : Hp} {w : World} (H : HR r h w) : HR r h w.drew := ⟨H.live, H.fn, H.inj, H.lt, H.odd, H.caps⟩
/-- The world moves. -/
theorem app_moves (hz : Zc P) {r : Env} {h : Hp} {w : World} (H : HR r h w) (hT : Tidy h) {ts : Array TypeId} {ty st xt e : TypeId} {xd : TypeDesc} {args' : Array Value} {base' : Option Addr} {n m c' : Nat} {x x' : Value} {i : TypeInfo} {z : Value} {old new : List Value} {old' : Array Value} {mk : Bool} {d : Option Nat}
    (e1 : ts[0]? = some st) (e2 : ts[1]? = some xt) (e3 : args'[0]? = some (.slice base' n c')) (e4 : args'[1]? = some x') (ht : P.underlying st = some (.slice e)) (hx : P.underlying xt = some xd) (hi : P.info? e = some i) (hzz : i.zero = some z)
    (hN : appN P xd x i z h = some (m, new, mk)) (hxx : VR r x x') (hO : (Builtin.firstCells i.size n (.slice base' n c')).run P w.drew = .ok old' w.drew) (hoo : VRs r old old'.toList)
    (hg : c' < n + m) (hfit : 2 * (n + m) * (i.bytes + 1) ≤ 281474976710656) (hzs : z.cells.size = i.size) (hol : old.length = n * i.size) (hnl : new.length = m * i.size) :
    ∃ r' w' v', (Builtin.append_ ts ty args').run P w = .ok v' w' ∧ VR r' (.slice (some ⟨2 * h.n + 1, 0, none⟩) (n + m) (n + m)) v' ∧ HR r' ⟨(dropT d h.t).set (2 * h.n + 1) (some (.cells ⟨old ++ new⟩ e (0, 0))), h.n + 6⟩ w' ∧ Tidy ⟨(dropT d h.t).set (2 * h.n + 1) (some (.cells ⟨old ++ new⟩ e (0, 0))), h.n + 6⟩ ∧
      Fr r r' h ⟨(dropT d h.t).set (2 * h.n + 1) (some (.cells ⟨old ++ new⟩ e (0, 0))), h.n + 6⟩ w w' := by
  have hb1 : 2 * (n + m) ≤ 2 * (n + m) * (i.bytes + 1) := Nat.le_mul_of_pos_right _ (Nat.succ_pos _)
  have hb2 : 2 * (n + m) * i.bytes ≤ 2 * (n + m) * (i.bytes + 1) := Nat.mul_le_mul_left _ (Nat.le_succ _)
  have h63 : ((n + m : Nat) : Int) ≤ 9223372036854775807 := by omega
  have hnx : Builtin.nextslicecap (n + m) c' * i.bytes ≤ 281474976710656 := Nat.le_trans (Nat.le_trans (Nat.mul_le_mul_right _ (nextslicecap_le hg)) hb2) hfit
  have key : ∃ new' : Array Value, VRs r new new'.toList ∧ (Builtin.append_ ts ty args').run P w = .ok (.slice (some ⟨w.heap.size, 0, none⟩) (n + m) (grownCap w (n + m) c' e)) (w.drew.alloc (.cells (old' ++ new' ++ Builtin.zeroCells z.cells (grownCap w (n + m) c' e - (n + m))) e)) := by
    unfold appN at hN
    split at hN
    · rename_i kk
      split at hN
      · rename_i k2 m2
        cases hc : (Nat.ble (m2 + 1) 1099511627776 && Nat.ble 1 (m2 * i.size) && Nat.ble (m2 * i.bytes) 281474976710656) with
        | false => rw [hc] at hN; cases hN
        | true =>
          rw [hc] at hN
          cases hN
          simp only [Bool.and_eq_true] at hc
          obtain ⟨⟨g1, g2⟩, g3⟩ := hc
          have g1 := Nat.le_of_ble_eq_true g1
          have g2 := Nat.le_of_ble_eq_true g2
          have g3 := Nat.le_of_ble_eq_true g3
          have hx' : x' = .int k2 (Int.ofNat m) := hxx
          subst hx'
          have hzc := hz.1 e i z hi hzz
          have hcl : VR r z z := (VR.closed 64 z z hzc).2 rfl
          exact ⟨Builtin.zeroCells z.cells m, zeros_alike z.cells (VRs.cells z z hcl) _, run_moves_make w e1 e2 e3 e4 ht hx hi hzz hO (by omega) (by omega) g3 hg h63 hnx⟩
      · cases hN
    · rename_i hni
      split at hN
      · rename_i m2 hm
        cases e5 : runL P (Builtin.firstCells i.size m2 x) h with
        | none => rw [e5] at hN; cases hN
        | some l =>
          rw [e5] at hN
          simp only [Option.bind] at hN
          cases e6 : l.toList.all oneC with
          | false => rw [e6] at hN; cases hN
          | true =>
            rw [e6] at hN
            cases hN
            have hlk : lenOK m x = true := by
              cases x with
              | slice q k c => cases hm; simp [lenOK]
              | _ => rfl
            obtain ⟨new', q1, q2⟩ := run_SRL _ _ r h w.drew (SR.firstCells (P := P) i.size m hxx hlk) H.drew _ e5
            have hlen : Builtin.lenOf x' = pure m := by
              cases x with
              | slice q k c =>
                cases hm
                have : ∃ q' c', x' = .slice q' m c' := by
                  cases q with
                  | none => exact ⟨_, _, hxx⟩
                  | some q => obtain ⟨a2, c', _, _, _, rfl⟩ := hxx; exact ⟨_, _, rfl⟩
                obtain ⟨q', c', rfl⟩ := this
                rfl
              | string b =>
                cases hm
                cases hxx
                rfl
              | _ => cases hm
            exact ⟨new', q2, run_moves w e1 e2 e3 e4 ht hx (fun k q => hni k q) hi hzz hlen hO q1 hg h63 hnx⟩
      · cases hN
  obtain ⟨new', hnn, hrun⟩ := key
  have hge := grownCap_ge w (n + m) c' e
  have hol' := VRs.length hoo
  have hnl' := VRs.length hnn
  obtain ⟨G1, G2, G3⟩ := H.grow (w2 := w.drew.alloc (.cells (old' ++ new' ++ Builtin.zeroCells z.cells (grownCap w (n + m) c' e - (n + m))) e)) hT d (cs := old ++ new) (e := e) (cw := old' ++ new' ++ Builtin.zeroCells z.cells (grownCap w (n + m) c' e - (n + m))) (zw := (0, 0)) (C := w.heap.size) (k := grownCap w (n + m) c' e) (c0 := n + m) (d0 := 0) (z := i.size)
    (by
      refine OD.of ?_
      simp only [OR]
      refine ⟨old'.toList ++ new'.toList, (Builtin.zeroCells z.cells (grownCap w (n + m) c' e - (n + m))).toList, (0, 0), VRs.append hoo hnn, .inl ⟨rfl, rfl⟩, ?_⟩
      congr 1
      apply Array.toList_inj.1
      simp) (by show w.heap.size ≤ (w.heap.push _).size; simp) (fun x c1 hl _ hr => by
        have := H.size hl hr
        exact ⟨by show (w.heap.push _)[c1]? = w.heap[c1]?; simp [Array.getElem?_push, Nat.ne_of_lt this], Nat.ne_of_lt this⟩) (by show (w.heap.push _)[w.heap.size]? = _; simp) (fun hlt => absurd hlt (Nat.lt_irrefl _)) (fun c hc _ => by show (w.heap.push _)[c]? = w.heap[c]?; simp [Array.getElem?_push, Nat.ne_of_lt hc]) (by
      simp only [List.length_append, Array.size_append, size_zeroCells, hol, hnl, hzs]
      have s1 : old'.size = n * i.size := by rw [← hol, ← hol']; simp
      have s2 : new'.size = m * i.size := by rw [← hnl, ← hnl']; simp
      rw [s1, s2, ← Nat.add_mul, ← Nat.add_mul, show n + m + (grownCap w (n + m) c' e - (n + m)) = grownCap w (n + m) c' e by omega, Nat.zero_add]
      exact ⟨rfl, Nat.le_refl _⟩) rfl rfl rfl
  exact ⟨_, _, _, hrun, VR.grow r h.n w.heap.size (w.heap.size + 1) (grownCap w (n + m) c' e) (n + m) (n + m) (grownCap w (n + m) c' e) 0 i.size (by omega) hge (Nat.le_refl _) rfl, G1, G2, G3⟩
end
end Go.Proofs.YtmjblbgalkjmiaaGreat.EX
/- Appends without room, where the world has some; the whole. -/
namespace Go.Proofs.YtmjblbgalkjmiaaGreat.EX
open Go
section
variable {P : Program}
theorem heap_setRow (w : World) (g : Nat) (cs : Array Value) (c : Nat) : (w.setRow g cs).heap[c]? = if c = g then (w.heap[g]?).map (fun o => match o with | .cells _ e z => .cells cs e z | o => o) else w.heap[c]? := by
  unfold World.setRow
  simp only [Array.getElem?_modify]
  by_cases h : c = g
  · subst h; simp; rfl
  · rw [if_neg h, if_neg (Ne.symm h)]
theorem app_new {r : Env} {h : Hp} {w : World} (H : HR r h w) {xd : TypeDesc} {x x' : Value} {i : TypeInfo} {z : Value} {m : Nat} {new : List Value} (hN : appN P xd x i z h = some (m, new, false)) (hxx : VR r x x') :
    (∀ k, xd ≠ .int k) ∧ Builtin.lenOf x' = pure m ∧ ∃ new' : Array Value, VRs r new new'.toList ∧ (Builtin.firstCells i.size m x').run P w = .ok new' w ∧ ∀ u ∈ new'.toList, u.oneCell' = true := by
  unfold appN at hN
  split at hN
  · split at hN
    · rename_i m2
      cases hc : (Nat.ble (m2 + 1) 1099511627776 && Nat.ble 1 (m2 * i.size) && Nat.ble (m2 * i.bytes) 281474976710656) with
      | false => rw [hc] at hN; cases hN
      | true => rw [hc] at hN; cases hN
    · cases hN
  · rename_i hni
    split at hN
    · rename_i m2 hm
      cases e5 : runL P (Builtin.firstCells i.size m2 x) h with
      | none => rw [e5] at hN; cases hN
      | some l =>
        rw [e5] at hN
        simp only [Option.bind] at hN
        cases e6 : l.toList.all oneC with
        | false => rw [e6] at hN; cases hN
        | true =>
          rw [e6] at hN
          cases hN
          have hlk : lenOK m x = true := by
            cases x with
            | slice q k c => cases hm; simp [lenOK]
            | _ => rfl
          obtain ⟨new', q1, q2⟩ := run_SRL _ _ r h w (SR.firstCells (P := P) i.size m hxx hlk) H _ e5
          have hlen : Builtin.lenOf x' = pure m := by
            cases x with
            | slice q k c =>
              cases hm
              have : ∃ q' c', x' = .slice q' m c' := by
                cases q with
                | none => exact ⟨_, _, hxx⟩
                | some q => obtain ⟨a2, c', _, _, _, rfl⟩ := hxx; exact ⟨_, _, rfl⟩
              obtain ⟨q', c', rfl⟩ := this
              rfl
            | string b =>
              cases hm
              cases hxx
              rfl
            | _ => cases hm
          refine ⟨fun k q => hni k q, hlen, new', q2, q1, ?_⟩
          have one : ∀ (a b : List Value), VRs r a b → a.all oneC = true → ∀ u ∈ b, u.oneCell' = true := by
            intro a
            induction a with
            | nil => intro b hb _ u hu; cases hb; cases hu
            | cons y s ih =>
              intro b hb ha u hu
              obtain ⟨y', s', g1, g2, rfl⟩ := hb
              simp only [List.all_cons, Bool.and_eq_true] at ha
              rcases List.mem_cons.1 hu with e | e
              · subst e; rw [← oneC_cell]; exact VR.oneC _ _ g1 ha.1
              · exact ih s' g2 ha.2 u e
          exact one _ _ q2 e6
    · cases hN
theorem app_stays {r : Env} {h : Hp} {w : World} (H : HR r h w) (hT : Tidy h) {ts : Array TypeId} {ty st xt e : TypeId} {xd : TypeDesc} {args' : Array Value} {b o g n m c c' k c0 d l : Nat} {x x' : Value} {i : TypeInfo} {z : Value} {new cs : List Value}
    (e1 : ts[0]? = some st) (e2 : ts[1]? = some xt) (e3 : args'[0]? = some (.slice (some ⟨g, d + l * i.size, none⟩) n c')) (e4 : args'[1]? = some x') (ht : P.underlying st = some (.slice e)) (hx : P.underlying xt = some xd) (hi : P.info? e = some i)
    (hN : appN P xd x i z h = some (m, new, false)) (hxx : VR r x x') (hb : b % 2 = 1) (hr : r b g) (hlive : h.t.get b = some (.cells ⟨cs⟩ e (0, 0))) (hgh : Gh r b k c0 d i.size) (hnc : n ≤ c) (ho : 0 < c → o = l * i.size) (hlc : l + c = c0) (hlk : l + c' ≤ k)
    (hg1 : c < n + m) (hg2 : n + m ≤ c') (hnl : new.length = m * i.size) :
    ∃ r' w' v', (Builtin.append_ ts ty args').run P w = .ok v' w' ∧ VR r' (.slice (some ⟨2 * h.n + 1, 0, none⟩) (n + m) (n + m)) v' ∧ HR r' ⟨(dropT (some b) h.t).set (2 * h.n + 1) (some (.cells ⟨(cs.drop o).take (n * i.size) ++ new⟩ e (0, 0))), h.n + 6⟩ w' ∧ Tidy ⟨(dropT (some b) h.t).set (2 * h.n + 1) (some (.cells ⟨(cs.drop o).take (n * i.size) ++ new⟩ e (0, 0))), h.n + 6⟩ ∧
      Fr r r' h ⟨(dropT (some b) h.t).set (2 * h.n + 1) (some (.cells ⟨(cs.drop o).take (n * i.size) ++ new⟩ e (0, 0))), h.n + 6⟩ w w' := by
  obtain ⟨hni, hlen, new', hnn, hrn, hone⟩ := app_new H hN hxx
  obtain ⟨hcl, cw, zw, hcw, hkw⟩ := H.caps b g k c0 d i.size cs e (0, 0) hb hr hgh hlive
  obtain ⟨g2, o2, q1, q2, d2, q3a, q3⟩ := H.live b _ hlive
  cases H.fn _ _ _ hr q1
  rw [hcw] at q2
  cases q2
  simp only [OD] at q3
  obtain ⟨pre, cs', rest, zz, q0, q5, q4, q6⟩ := q3
  have hd2 : d2 = d := Sh.fn H.fn (.inr ⟨hb, k, c0, i.size, hgh⟩) q3a
  have q4 : zz = (0, 0) := by
    rcases q4 with q4 | q4
    · exact q4.2
    · cases q4.1
  subst q4
  cases q6
  have hl := VRs.length q5
  have hnl' := VRs.length hnn
  have hsz : (pre ++ (cs' ++ rest)).toArray.size = (pre ++ (cs' ++ rest)).length := rfl
  have hkw : d + k * i.size ≤ (pre ++ (cs' ++ rest)).length := hkw
  have hkl : d + l * i.size + c' * i.size ≤ (pre ++ (cs' ++ rest)).length := by
    have : (l + c') * i.size ≤ k * i.size := Nat.mul_le_mul_right _ hlk
    rw [Nat.add_mul] at this
    omega
  have hnm : n * i.size + m * i.size ≤ c' * i.size := by
    rw [← Nat.add_mul]
    exact Nat.mul_le_mul_right _ hg2
  have hfit : d + l * i.size + n * i.size + new'.toList.length ≤ (pre ++ (cs' ++ rest)).length := by
    rw [hnl', hnl]
    omega
  have hrun := run_stays (ty := ty) w e1 e2 e3 e4 ht hx hni hi hlen hrn hg2 hcw hfit hone
  have hgs := H.size (by rw [hlive]; rfl) hr
  have htk : ((pre ++ (cs' ++ rest)).take (d + l * i.size + n * i.size)) = (pre ++ (cs' ++ rest)).take (d + l * i.size) ++ (cs'.drop o).take (n * i.size) := by
    rw [List.take_add]
    congr 1
    by_cases hc0 : c = 0
    · have : n = 0 := by omega
      subst this
      simp
    · have ho := ho (by omega)
      subst ho
      have hll : l * i.size + n * i.size ≤ cs'.length := by
        rw [hl, hcl, ← hlc, Nat.add_mul]
        exact Nat.add_le_add_left (Nat.mul_le_mul_right _ hnc) _
      rw [← hd2, ← q0, Nat.add_comm, Nat.add_comm, List.drop_append, List.drop_eq_nil_of_le (by omega), List.nil_append, Nat.add_sub_cancel_left, List.drop_append_of_le_length (by omega), List.take_append_of_le_length (by rw [List.length_drop]; omega)]
  have hlenw : ((pre ++ (cs' ++ rest)).take (d + l * i.size + n * i.size) ++ new'.toList ++ (pre ++ (cs' ++ rest)).drop (d + l * i.size + n * i.size + new'.toList.length)).length = (pre ++ (cs' ++ rest)).length := by
    simp only [List.length_append, List.length_take, List.length_drop] at hfit ⊢
    omega
  have hto : ((cs.drop o).take (n * i.size)).length = n * i.size := by
    by_cases hc0 : c = 0
    · have : n = 0 := by omega
      subst this
      simp
    · have ho := ho (by omega)
      subst ho
      rw [List.length_take, List.length_drop, hcl, ← hlc, Nat.add_mul, Nat.add_sub_cancel_left]
      exact Nat.min_eq_left (Nat.mul_le_mul_right _ hnc)
  obtain ⟨G1, G2, G3⟩ := H.grow (w2 := w.setRow g ((pre ++ (cs' ++ rest)).take (d + l * i.size + n * i.size) ++ new'.toList ++ (pre ++ (cs' ++ rest)).drop (d + l * i.size + n * i.size + new'.toList.length)).toArray) hT (some b) (cs := (cs.drop o).take (n * i.size) ++ new) (e := e) (cw := ((pre ++ (cs' ++ rest)).take (d + l * i.size + n * i.size) ++ new'.toList ++ (pre ++ (cs' ++ rest)).drop (d + l * i.size + n * i.size + new'.toList.length)).toArray) (zw := (0, 0)) (C := g) (k := k - l) (c0 := n + m) (d0 := d + l * i.size) (z := i.size)
    (by
      simp only [OD]
      refine ⟨(pre ++ (cs' ++ rest)).take (d + l * i.size), (cs'.drop o).take (n * i.size) ++ new'.toList, (pre ++ (cs' ++ rest)).drop (d + l * i.size + n * i.size + new'.toList.length), (0, 0), by rw [List.length_take]; omega, VRs.append (VRs.take _ (VRs.drop _ q5)) hnn, .inl ⟨rfl, rfl⟩, ?_⟩
      rw [htk]
      simp only [List.append_assoc]) (by simp [World.setRow]) (fun x c1 hl1 hd hr1 => by
        have : c1 ≠ g := fun q => hd (by rw [H.inj x b g hl1 (by rw [hlive]; rfl) (q ▸ hr1) hr])
        rw [heap_setRow, if_neg this]
        exact ⟨rfl, this⟩) (by rw [heap_setRow, if_pos rfl, hcw]; rfl) (fun _ => ⟨b, by rw [hlive]; rfl, hr⟩) (fun c1 _ hno => by
        have : c1 ≠ g := fun q => hno b (by rw [hlive]; rfl) (q ▸ hr)
        rw [heap_setRow, if_neg this]) (by
      refine ⟨by rw [List.length_append, hto, hnl, Nat.add_mul], ?_⟩
      rw [List.size_toArray, hlenw, Nat.sub_mul]
      have : l * i.size ≤ k * i.size := Nat.mul_le_mul_right _ (by omega)
      omega) rfl rfl rfl
  exact ⟨_, _, _, hrun, VR.grow r h.n g (w.heap.size + 1) (k - l) (n + m) (n + m) c' (d + l * i.size) i.size (by omega) hg2 (by omega) rfl, G1, G2, G3⟩
/-- An append without room: every world alike does it. -/
theorem appP_sound (hz : Zc P) {r : Env} {h : Hp} {w : World} (H : HR r h w) (hT : Tidy h) {ts : Array TypeId} (ty : TypeId) {args args' : Array Value} (ha : AVs r args args') {v : Value} {ob : Obj} {dd : Option Nat} (he : appP P ts args h = some (v, ob, dd)) :
    ∃ r' w' v', (Builtin.append_ ts ty args').run P w = .ok v' w' ∧ VR r' v v' ∧ HR r' ⟨(dropT dd h.t).set (2 * h.n + 1) (some ob), h.n + 6⟩ w' ∧ Tidy ⟨(dropT dd h.t).set (2 * h.n + 1) (some ob), h.n + 6⟩ ∧ Fr r r' h ⟨(dropT dd h.t).set (2 * h.n + 1) (some ob), h.n + 6⟩ w w' := by
  unfold appP at he
  have a0 := VRs.at ha 0
  have a1 := VRs.at ha 1
  cases e1 : ts[0]? with
  | none => rw [e1] at he; cases he
  | some st =>
  cases e2 : ts[1]? with
  | none => rw [e1, e2] at he; cases he
  | some xt =>
  cases f3 : args[0]? with
  | none => rw [e1, e2, f3] at he; cases he
  | some s =>
  cases f4 : args[1]? with
  | none => rw [e1, e2, f3, f4] at he; cases he
  | some x =>
  rw [e1, e2, f3, f4] at he
  rw [f3] at a0
  rw [f4] at a1
  cases e3 : args'[0]? with
  | none => rw [e3] at a0; exact a0.elim
  | some s' =>
  cases e4 : args'[1]? with
  | none => rw [e4] at a1; exact a1.elim
  | some x' =>
  rw [e3] at a0
  rw [e4] at a1
  have hss : VR r s s' := a0
  have hxx : VR r x x' := a1
  dsimp only at he
  cases s with
  | slice base n c =>
    dsimp only at he
    split at he
    · rename_i e ht
      split at he
      · rename_i xd i hx hi
        split at he
        · rename_i z hzz
          split at he
          · rename_i m new mk hN
            split at he
            · rename_i old d hO
              cases hc : (Nat.ble (c + 1) (n + m) && Nat.ble (2 * (n + m) * (i.bytes + 1)) 281474976710656 && Nat.beq z.cells.size i.size && Nat.beq old.length (n * i.size) && Nat.beq new.length (m * i.size) && (!mk || d.isNone)) with
              | false => rw [hc] at he; cases he
              | true =>
                rw [hc] at he
                simp only [cond, Option.some.injEq, Prod.mk.injEq] at he
                obtain ⟨he1, he2, he3⟩ := he
                subst he1 he2 he3
                simp only [Bool.and_eq_true] at hc
                obtain ⟨⟨⟨⟨⟨b1, b2⟩, b3⟩, b4⟩, b5⟩, b6⟩ := hc
                have b1 := Nat.le_of_ble_eq_true b1
                have b2 := Nat.le_of_ble_eq_true b2
                have b3 := Nat.eq_of_beq_eq_true b3
                have b4 := Nat.eq_of_beq_eq_true b4
                have b5 := Nat.eq_of_beq_eq_true b5
                unfold appO at hO
                cases base with
                | none =>
                  simp only [Option.some.injEq, Prod.mk.injEq] at hO
                  obtain ⟨rfl, rfl⟩ := hO
                  have : s' = .slice none n c := hss
                  subst this
                  exact app_moves hz H hT e1 e2 e3 e4 ht hx hi hzz hN hxx (old' := #[]) rfl rfl (by omega) b2 b3 b4 b5
                | some a =>
                  dsimp only at hO
                  obtain ⟨a2, c', g1, g3, g5, rfl⟩ := hss
                  cases hev : Nat.beq (a.block % 2) 0 with
                  | true =>
                    rw [hev] at hO
                    simp only [cond] at hO
                    cases e5 : runL P (Builtin.firstCells i.size n (.slice (some a) n c)) h with
                    | none => rw [e5] at hO; cases hO
                    | some l =>
                      rw [e5] at hO
                      simp only [Option.map_some, Option.some.injEq, Prod.mk.injEq] at hO
                      obtain ⟨rfl, rfl⟩ := hO
                      have hcc : c' = c := g3.1 (Nat.eq_of_beq_eq_true hev)
                      subst hcc
                      obtain ⟨old', q1, q2⟩ := run_SRL _ _ r h w.drew (SR.firstCells (P := P) i.size n (show VR r (.slice (some a) n c') (.slice (some a2) n c') from ⟨a2, c', g1, g3, g5, rfl⟩) (by simp [lenOK])) H.drew _ e5
                      exact app_moves hz H hT e1 e2 e3 e4 ht hx hi hzz hN hxx q1 q2 (by omega) b2 b3 b4 b5
                  | false =>
                    rw [hev] at hO
                    simp only [cond] at hO
                    have hodd : a.block % 2 = 1 := by
                      have : a.block % 2 ≠ 0 := fun q => by rw [q] at hev; cases hev
                      omega
                    cases hk : (a.spot.isNone && Nat.ble n c) with
                    | false => rw [hk] at hO; cases hO
                    | true =>
                      rw [hk] at hO
                      simp only at hO
                      simp only [Bool.and_eq_true] at hk
                      obtain ⟨k2, k4⟩ := hk
                      have k4 := Nat.le_of_ble_eq_true k4
                      obtain ⟨ab, ao, asp⟩ := a
                      simp only at k2 hodd
                      have : asp = none := by cases asp with | none => rfl | some _ => cases k2
                      subst this
                      split at hO
                      · rename_i cs t hlive
                        cases hl : (Nat.beq t e && fitB c ao i.size cs.length) with
                        | false => rw [hl] at hO; cases hO
                        | true =>
                          rw [hl] at hO
                          simp only [Option.some.injEq, Prod.mk.injEq] at hO
                          obtain ⟨rfl, rfl⟩ := hO
                          simp only [Bool.and_eq_true] at hl
                          have l1 := Nat.eq_of_beq_eq_true hl.1
                          have l2 := hl.2
                          unfold fitB at l2
                          subst l1
                          have hmk : mk = false := by simpa using b6
                          subst hmk
                          obtain ⟨a2b, a2o, a2s⟩ := a2
                          simp only at g1
                          by_cases hmv : c' < n + m
                          · -- the world moves
                            have hold : ∃ old' : Array Value, (Builtin.firstCells i.size n (.slice (some ⟨a2b, a2o, a2s⟩) n c')).run P w.drew = .ok old' w.drew ∧ VRs r ((cs.drop ao).take (n * i.size)) old'.toList := by
                              rcases g5 with g5 | g5
                              · obtain ⟨rfl, rfl⟩ := g5
                                refine ⟨#[], ?_, by simp [VRs]⟩
                                show (loadCells _ (0 * i.size)).run P w.drew = _
                                rw [Nat.zero_mul]
                                rfl
                              · obtain ⟨pre, cs', rest, zw, q2, q5, _, k5, k6, _⟩ := H.at g5 hlive
                                simp only at k5 k6
                                subst k5 k6
                                have hlen : ((cs.drop ao).take (n * i.size)).length = n * i.size := b4
                                have hle : ao + n * i.size ≤ cs'.length ∨ n * i.size = 0 := by
                                  rw [List.length_take, List.length_drop] at hlen
                                  rw [VRs.length q5]
                                  omega
                                have hrow : (loadCells ⟨a2b, ao + pre.length, none⟩ ((cs'.drop ao).take (n * i.size)).length).run P w.drew = .ok ((cs'.drop ao).take (n * i.size)).toArray w.drew := run_loadCells_list w.drew ⟨a2b, ao + pre.length, none⟩ ((cs'.drop ao).take (n * i.size)) fun j u hu => by
                                  have hj : cs'[ao + j]? = some u := by
                                    rw [List.getElem?_take] at hu
                                    split at hu
                                    · rwa [List.getElem?_drop] at hu
                                    · cases hu
                                  have hadd : (⟨a2b, ao + pre.length, none⟩ : Addr).add j = ⟨a2b, ao + pre.length + j, none⟩ := by unfold Addr.add; split <;> simp_all
                                  rw [hadd]
                                  have hjl : ao + j < cs'.length := (List.getElem?_eq_some_iff.1 hj).1
                                  have hdh : w.drew.heap[a2b]? = some (.cells ⟨pre ++ (cs' ++ rest)⟩ t zw) := q2
                                  simp only [World.cell?, hdh, Option.isSome_none, Bool.false_eq_true, if_false, List.getElem?_toArray]
                                  rw [show ao + pre.length + j = ao + j + pre.length by omega, row_at, List.getElem?_append_left hjl, hj]
                                have hl2 : ((cs'.drop ao).take (n * i.size)).length = n * i.size := by
                                  rw [List.length_take, List.length_drop]
                                  omega
                                rw [hl2] at hrow
                                exact ⟨_, hrow, VRs.take _ (VRs.drop _ q5)⟩
                            obtain ⟨old', hold1, hold2⟩ := hold
                            exact app_moves hz H hT e1 e2 e3 e4 ht hx hi hzz hN hxx (old' := old') hold1 hold2 hmv b2 b3 b4 b5
                          · rcases g3.2.2 hodd with q | ⟨k, c0, d, zz, l, q1, q2, q3, q4, q5, q6, q7⟩
                            · omega
                            · have hzc : zz = i.size := by
                                by_cases hc0 : c = 0
                                · subst hc0
                                  have := Nat.eq_of_beq_eq_true l2
                                  have q2 := q2 rfl
                                  simp only at q2
                                  omega
                                · have : Nat.beq c 0 = false := Bool.eq_false_iff.2 fun e => hc0 (Nat.eq_of_beq_eq_true e)
                                  rw [this] at l2
                                  have l2 := Nat.eq_of_beq_eq_true l2
                                  have q3 := q3 (by omega)
                                  simp only at q3
                                  obtain ⟨hcl, _⟩ := H.caps ab a2b k c0 d zz cs t (0, 0) hodd g1 q1 hlive
                                  rw [hcl, ← q6, Nat.add_mul, q3] at l2
                                  exact Nat.eq_of_mul_eq_mul_left (by omega) (Nat.add_left_cancel l2)
                              subst hzc
                              simp only at q4 q5
                              subst q4 q5
                              exact app_stays H hT e1 e2 e3 e4 ht hx hi hN hxx hodd g1 hlive q1 k4 q3 q6 q7 (by omega) (by omega) b5
                      · cases hO
            · cases he
          · cases he
        · cases he
      · cases he
    · cases he
  | _ => cases he
/-- The same, as an operation. -/
theorem appX_sound (hz : Zc P) {r : Env} {h : Hp} {w : World} (H : HR r h w) (hT : Tidy h) {ev ev' : Operand → Value} {o : Oper} {ts : Array TypeId} {as : Array Operand} (ho : appOp o.op = some (ts, as)) (ha : ∀ x ∈ as.toList, VR r (ev x) (ev' x)) {v : Value} {h1 : Hp} (he : appX P ts (as.map ev) h = some (v, h1)) :
    ∃ r' w', HR r' h1 w' ∧ Tidy h1 ∧ Fr r r' h h1 w w' ∧ ∃ v', (execOp ev' o).run P w = .ok (.value v') w' ∧ VR r' v v' := by
  unfold appX at he
  cases e : appP P ts (as.map ev) h with
  | none => rw [e] at he; cases he
  | some q =>
    obtain ⟨u, ob, d⟩ := q
    rw [e] at he
    cases he
    obtain ⟨r', w', v', q1, q2, q3, q4, q5⟩ := appP_sound hz H hT o.type (AVs.map as ha) e
    refine ⟨r', w', q3, q4, q5, v', ?_, q2⟩
    obtain ⟨dst, op, type, pos, after, guard⟩ := o
    simp only at ho q1
    cases op with
    | call c =>
      obtain ⟨callee, args, ats⟩ := c
      cases callee with
      | builtin b =>
        cases b with
        | append =>
          cases ho
          show (Sem.bind (Builtin.append_ ts type (as.map ev')) fun v => pure (Next.value v)).run P w = _
          rw [show (Sem.bind (Builtin.append_ ts type (as.map ev')) fun v => pure (Next.value v)) = (Builtin.append_ ts type (as.map ev') >>= fun v => pure (Next.value v)) from rfl, Sem.run_bind, q1]
          rfl
        | _ => cases ho
      | _ => cases ho
    | _ => cases ho
theorem appOp_mem {op : Op} {ts : Array TypeId} {as : Array Operand} (h : appOp op = some (ts, as)) : ∀ x ∈ as.toList, x ∈ op.operands := fun x hx => by
  cases op with
  | call c =>
    obtain ⟨callee, args, ats⟩ := c
    cases callee with
    | builtin b =>
      cases b with
      | append => cases h; simpa [Op.operands, Call.operands] using hx
      | _ => cases h
    | _ => cases h
  | _ => cases h
end
end Go.Proofs.YtmjblbgalkjmiaaGreat.EX
