/- The executor in continuations is right. -/
import Derived.Test.YtmjblbgalkjmiaaGreatBY8
import Derived.Recover
namespace Go.Proofs.YtmjblbgalkjmiaaGreat.EX
open Go
section
variable {P : Program}
/-- What goes on with what is handed on, holds only if that does. -/
def ThV (q : Value → Hp → An) : Prop := ∀ v h N, q v h N → N
def Th1 (q : St → An) : Prop := ∀ s N, q s N → N
def Th2 (q : Exit → St → An) : Prop := ∀ e s N, q e s N → N
def CallTh (call : FuncId → Array Value → Hp → (Value → Hp → An) → An) : Prop := ∀ f args h q N, ThV q → call f args h q N → N
def RunTh (run : Code → St → (Exit → St → An) → An) : Prop := ∀ c s q N, Th2 q → run c s q N → N
/-- A call that was run. -/
def CallK (P : Program) (call : FuncId → Array Value → Hp → (Value → Hp → An) → An) : Prop :=
  ∀ f args h q n, ThV q → call f args h q n → ∀ (r : Env) (w : World) (args' : Array Value), HR r h w → Tidy h → AVs r args args' →
    Calls P f args' w fun e w' => ∃ v h2 n', q v h2 n' ∧ ∃ r' v', e = .returned v' ∧ VR r' v v' ∧ HR r' h2 w' ∧ Tidy h2 ∧ Fr r r' h h2 w w'
theorem put_h {s s2 : St} {d : Option Tmp} {v : Value} (h : s.put d v = some s2) : s2.h = s.h := by
  unfold St.put at h
  split at h
  · cases h; rfl
  · split at h
    · cases h; rfl
    · cases h
theorem putK_some {s : St} {d : Option Tmp} {v : Value} {q : St → An} {n : Prop} (h : putK s d v q n) : ∃ s2, s.put d v = some s2 ∧ q s2 n := by
  rw [putK_eq] at h
  cases e : s.put d v with
  | none => rw [e] at h; exact h.elim
  | some s2 => rw [e] at h; exact ⟨s2, rfl, h⟩
theorem dfR_ex {r : Env} {d d' : Deferred} (h : DfR r d d') : ∃ g cap args cap' args', d = ⟨.fn (.func g) cap, args⟩ ∧ d' = ⟨.fn (.func g) cap', args'⟩ ∧ AVs r cap cap' ∧ AVs r args args' := by
  obtain ⟨t, args⟩ := d
  cases t with
  | fn f cap =>
    cases f with
    | func g => obtain ⟨cap', args', h1, h2, h3⟩ := h; exact ⟨g, cap, args, cap', args', rfl, h3, h1, h2⟩
    | _ => exact h.elim
  | _ => exact h.elim
theorem defer_ds {s : St} {v : Value} {h1 : Hp} {d : Option Tmp} {q : St → An} {n : Prop} (h : Option.rec (motive := fun _ => An) (fV v fun v => withD s (some v) h1 fun s => putK s d undef q) (fun _ => FF) s.ds n) : s.ds = none ∧ putK ⟨s.tm, s.nt, some v, h1⟩ d undef q n := by
  cases e : s.ds with
  | none =>
    rw [e] at h
    have h' : fV v (fun v => withD s (some v) h1 fun s => putK s d undef q) n := h
    rw [fV_eq] at h'
    exact ⟨rfl, h'⟩
  | some u => rw [e] at h; exact h.elim
theorem putK_th {s : St} {d : Option Tmp} {v : Value} {q : St → An} (hq : Th1 q) {n : Prop} (h : putK s d v q n) : n := by
  obtain ⟨s2, _, h⟩ := putK_some h
  exact hq _ _ h
theorem resD_val {call : FuncId → Array Value → Hp → (Value → Hp → An) → An} {s : St} {d : Option Tmp} {q : St → An} {v : Value} {h1 : Hp} {n : Prop} (h : resD call s d q (.ok (.value v)) h1 n) : putK ⟨s.tm, s.nt, s.ds, h1⟩ d v q n := h
theorem resD_skip {call : FuncId → Array Value → Hp → (Value → Hp → An) → An} {s : St} {d : Option Tmp} {q : St → An} {h1 : Hp} {n : Prop} (h : resD call s d q (.ok .skip) h1 n) : putK ⟨s.tm, s.nt, s.ds, h1⟩ d undef q n := h
theorem resD_th {call : FuncId → Array Value → Hp → (Value → Hp → An) → An} (hct : CallTh call) {s : St} {d : Option Tmp} {q : St → An} (hq : Th1 q) (x : Except Value Next) (h1 : Hp) (n : Prop) (h : resD call s d q x h1 n) : n := by
  cases x with
  | error v => exact h.elim
  | ok x =>
    cases x with
    | value v => exact putK_th hq h
    | skip => exact putK_th hq h
    | enter f args => exact hct _ _ _ _ _ (fun v h2 N h => putK_th hq h) h
    | defer d =>
      obtain ⟨t, args⟩ := d
      cases t with
      | fn f cap =>
        cases f with
        | func g => exact putK_th hq (defer_ds h).2
        | _ => exact h.elim
      | _ => exact h.elim
    | _ => exact h.elim
theorem arm_cases (hz : Zc P) {call : FuncId → Array Value → Hp → (Value → Hp → An) → An} {o : Oper} {s : St} {q : St → An} {n : Prop} (h : Bool.rec (motive := fun _ => An) (opD P s o (resD call s o.dst q)) (armT o.op P s (fun v h => withH s h fun s => putK s o.dst v q) (fun f args h => call f args h fun v h2 => withH s h2 fun s => putK s o.dst v q) (opD P s o (resD call s o.dst q))) (statOK o) n) :
    opD P s o (resD call s o.dst q) n ∨ ∃ x h1, opStep P s o = some (x, h1) ∧ resD call s o.dst q x h1 n := by
  cases hst : statOK o with
  | false => rw [hst] at h; exact .inl h
  | true =>
    rw [hst] at h
    rcases armT_ok hz hst h with h | ⟨x, h1, e, h⟩
    · exact .inl h
    · refine .inr ⟨.ok x, h1, e, ?_⟩
      rcases h with ⟨v, rfl, h⟩ | ⟨rfl, h⟩ | ⟨f, args, rfl, h⟩ <;> exact h
theorem armC_ex (hz : Zc P) {call : FuncId → Array Value → Hp → (Value → Hp → An) → An} {o : Oper} {s : St} {q : St → An} {n : Prop} (h : Bool.rec (motive := fun _ => An) (opK P s o (resC call s o.dst q)) (armT o.op P s (fun v h => withH s h fun s => putK s o.dst v q) (fun f args h => call f args h fun v h2 => withH s h2 fun s => putK s o.dst v q) (opK P s o (resC call s o.dst q))) (statOK o) n) :
    ∃ x h1, opStep P s o = some (x, h1) ∧ resC call s o.dst q x h1 n := by
  cases hst : statOK o with
  | false => rw [hst] at h; exact opK_eq s o _ n h
  | true =>
    rw [hst] at h
    rcases armT_ok hz hst h with h | ⟨x, h1, e, h⟩
    · exact opK_eq s o _ n h
    · refine ⟨.ok x, h1, e, ?_⟩
      rcases h with ⟨v, rfl, h⟩ | ⟨rfl, h⟩ | ⟨f, args, rfl, h⟩ <;> exact h
theorem oneD_th (hz : Zc P) {call : FuncId → Array Value → Hp → (Value → Hp → An) → An} (hct : CallTh call) {all : List Oper} {o : Oper} {s : St} {q : St → An} (hq : Th1 q) {n : Prop} (h : oneD P call all o s q n) : n := by
  unfold oneD at h
  rw [wantK_eq] at h
  cases hw : Region.wanted o (yieldT s all) with
  | false => rw [hw] at h; exact putK_th hq h
  | true =>
    rw [hw] at h
    rcases arm_cases hz h with h | ⟨x, h1, _, h⟩
    · exact opD_th (resD_th hct hq) h
    · exact resD_th hct hq x h1 n h
theorem oneK_th (hz : Zc P) {call : FuncId → Array Value → Hp → (Value → Hp → An) → An} (hct : CallTh call) {all : List Oper} {o : Oper} {s : St} {q : St → An} (hq : Th1 q) {n : Prop} (h : oneK P call all o s q n) : n := by
  unfold oneK at h
  rw [wantK_eq] at h
  cases hw : Region.wanted o (yieldT s all) with
  | false => rw [hw] at h; exact putK_th hq h
  | true =>
    rw [hw] at h
    obtain ⟨x, h1, _, h⟩ := armC_ex hz h
    cases x with
    | error v => exact h.elim
    | ok x =>
      cases x with
      | value v => exact putK_th hq h
      | skip => exact putK_th hq h
      | enter f args => exact hct _ _ _ _ _ (fun v h2 N h => putK_th hq h) h
      | _ => exact h.elim
theorem opsK_th (hz : Zc P) {call : FuncId → Array Value → Hp → (Value → Hp → An) → An} (hct : CallTh call) {all : List Oper} {q : St → An} (hq : Th1 q) : ∀ (l : List Oper) (s : St) (n : Prop), opsK P call all l s q n → n
  | [], s, n, h => hq s n h
  | o :: l, s, n, h => by
    have h' : oneD P call all o s (fun s1 => opsK P call all l s1 q) n := h
    exact oneD_th hz hct (fun s1 N h => opsK_th hz hct hq l s1 N h) h'
theorem noCall_th : CallTh noCall := fun _ _ _ _ _ _ h => h.elim
theorem resK_th {s : St} {l : List ResultVar} {q : List Value → An} (hq : ∀ vs N, q vs N → N) {n : Prop} (h : resK P s l q n) : n := by
  obtain ⟨vs, _, h⟩ := resK_eq s l q n h
  exact hq _ _ h
theorem lateK_th (hz : Zc P) {run : Code → St → (Exit → St → An) → An} (hrt : RunTh run) : ∀ (c : Code) (s : St) (q : Exit → St → An) (n : Prop), Th2 q → lateK P run c s q n → n := by
  intro c
  induction c with
  | seq x y ihx ihy =>
    intro s q n hq h
    refine ihx s _ n (fun e s1 N h => ?_) h
    cases e with
    | normal => exact ihy s1 q N hq h
    | _ => exact hq _ _ _ h
  | cond x t f iht ihf =>
    intro s q n hq h
    have h' : (bif opdOK x then evK s x fun v => match v with
      | .bool b => Bool.rec (lateK P run f s q) (lateK P run t s q) b
      | _ => FF
      else FF) n := h
    cases ho : opdOK x with
    | false => rw [ho] at h'; exact h'.elim
    | true =>
      rw [ho] at h'
      dsimp only [cond] at h'
      rw [evK_eq _ _ _ ho] at h'
      cases hb : s.ev x with
      | bool b =>
        rw [hb] at h'
        cases b with
        | true => exact iht s q n hq h'
        | false => exact ihf s q n hq h'
      | _ => rw [hb] at h'; exact h'.elim
  | region id ops d =>
    intro s q n hq h
    cases d with
    | true => exact hrt _ s q n hq h
    | false => exact opsK_th hz noCall_th (q := fun s1 => q .normal s1) (fun s1 N h => hq _ _ _ h) _ s n h
  | _ => intro s q n hq h; exact hrt _ s q n hq h
theorem endK_th (hz : Zc P) {run : Code → St → (Exit → St → An) → An} (hrt : RunTh run) {s : St} {q : Hp → An} (hq : ∀ h N, q h N → N) {n : Prop} (h : endK P run s q n) : n := by
  unfold endK at h
  cases hds : s.ds with
  | none => rw [hds] at h; exact hq _ _ h
  | some v =>
    rw [hds] at h
    cases v with
    | func fn first cap =>
      obtain ⟨first⟩ := first
      obtain ⟨cap⟩ := cap
      cases fn with
      | func g =>
        dsimp only at h
        rw [funQ_eq] at h
        cases hf : P.funcs[g]? with
        | none => rw [hf] at h; exact h.elim
        | some fn2 =>
          rw [hf] at h
          dsimp only at h
          cases hb : fn2.body with
          | none => rw [hb] at h; exact h.elim
          | some c2 =>
            rw [hb] at h
            dsimp only at h
            have hn := hz.2 g fn2 hf
            · rw [initK_eq, fN_eq] at h
              refine lateK_th hz hrt c2 _ _ n (fun e s1 N h => ?_) h
              cases hd : s1.ds with
              | some u => rw [hd] at h; exact h.elim
              | none =>
                rw [hd] at h
                cases e with
                | normal => exact resK_th (fun _ N h => hq _ _ h) h
                | ret => exact resK_th (fun _ N h => hq _ _ h) h
                | _ => exact h.elim
      | _ => exact h.elim
    | _ => exact h.elim
theorem late_th {q : Hp → An} (hq : ∀ h N, q h N → N) (l : List ResultVar) : Th2 (fun e s1 => Option.rec (motive := fun _ => An) (match e with
    | .normal | .ret => resK P s1 l fun _ => q s1.h
    | _ => FF) (fun _ => FF) s1.ds) := fun e s1 N h => by
  dsimp only at h
  cases hd : s1.ds with
  | some u => rw [hd] at h; exact h.elim
  | none =>
    rw [hd] at h
    cases e with
    | normal => exact resK_th (fun _ N h => hq _ _ h) h
    | ret => exact resK_th (fun _ N h => hq _ _ h) h
    | _ => exact h.elim
theorem ends_th (hz : Zc P) {run : Code → St → (Exit → St → An) → An} (hrt : RunTh run) {q : Value → Hp → An} (hq : ThV q) (l : List ResultVar) : Th2 (fun e s1 => match e with
    | .normal | .ret => endK P run s1 fun h2 => resK P ⟨s1.tm, s1.nt, none, h2⟩ l fun vs => resVK vs fun v => q v h2
    | _ => FF) := fun e s1 N h => by
  have key : endK P run s1 (fun h2 => resK P ⟨s1.tm, s1.nt, none, h2⟩ l fun vs => resVK vs fun v => q v h2) N → N := fun h =>
    endK_th hz hrt (fun h2 N h => resK_th (fun vs N h => by rw [resVK_eq] at h; exact hq _ _ _ h) h) h
  cases e with
  | normal => exact key h
  | ret => exact key h
  | _ => exact h.elim
theorem callK_th (hz : Zc P) {run : Code → St → (Exit → St → An) → An} (hrt : RunTh run) : CallTh (callK P run) := by
  intro f args h q n hq hcl
  unfold callK at hcl
  rw [funQ_eq] at hcl
  cases hf : P.funcs[f]? with
  | none => rw [hf] at hcl; exact hcl.elim
  | some fn =>
    rw [hf] at hcl
    dsimp only at hcl
    cases hb : fn.body with
    | none => rw [hb] at hcl; exact hcl.elim
    | some c =>
      rw [hb] at hcl
      dsimp only at hcl
      rw [initK_eq, fN_eq] at hcl
      refine hrt c _ _ n (fun e s1 N h => ?_) hcl
      have key : endK P run s1 (fun h2 => resK P ⟨s1.tm, s1.nt, none, h2⟩ fn.results.toList fun vs => resVK vs fun v => q v h2) N → N := fun h =>
        endK_th hz hrt (fun h2 N h => resK_th (fun vs N h => by rw [resVK_eq] at h; exact hq _ _ _ h) h) h
      cases e with
      | normal => exact key h
      | ret => exact key h
      | _ => exact h.elim
theorem opsK_sound (hz : Zc P) {call : FuncId → Array Value → Hp → (Value → Hp → An) → An} (hc : CallK P call) (hct : CallTh call) (ops : Array Oper) {Q : Exit → Act → World → Prop} {r0 : Env} {h0 : Hp} {w0 : World} (q : St → An) (hq : Th1 q)
    (hQ : ∀ s1 n' r' a' w', q s1 n' → SL r' s1 a' w' → Fr r0 r' h0 s1.h w0 w' → Q .normal a' w') :
    ∀ (l : List Oper) (s : St) (r : Env) (a : Act) (w : World) (n : Prop), SL r s a w → Fr r0 r h0 s.h w0 w → opsK P call ops.toList l s q n → wpList P ops Q l a w := by
  intro l
  induction l with
  | nil => intro s r a w n S F e; exact hQ s n r a w e S F
  | cons o rest ih =>
    intro s r a w n S F e
    have e' : oneD P call ops.toList o s (fun s1 => opsK P call ops.toList rest s1 q) n := e
    unfold oneD at e'
    rw [wantK_eq] at e'
    unfold wpList
    have hy : (yielded ops a.tmps) = yieldT s ops.toList := funext fun j => yieldT_eq S ops j
    rw [hy]
    cases hw : Region.wanted o (yieldT s ops.toList) with
    | true =>
      rw [hw] at e'
      dsimp only [cond] at e'
      rw [if_pos rfl]
      left
      unfold Oper.wp
      obtain ⟨x, h1, n, hx, r1, w1, H1, T1, F1, hres⟩ := (arm_cases hz e').elim (opD_sound hz S o (resD_th hct fun s1 N h => opsK_th hz hct hq rest s1 N h)) (opStep_R hz S o)
      cases x with
      | error v => exact hx.elim
      | ok x =>
        obtain ⟨n', hn, hnr⟩ := hres
        rw [hn]
        cases x with
        | value v =>
          obtain ⟨v', hv, rfl⟩ := hnr
          obtain ⟨s2, hp, hq2⟩ := putK_some (resD_val hx)
          show wpList P ops Q rest (a.put o.dst v') w1
          exact ih s2 r1 _ w1 n (SL.put (S.later F1.le H1 T1) o.dst hv hp) (by rw [put_h hp]; exact F.trans F1) hq2
        | skip =>
          have hnr' : n' = .skip := hnr
          subst hnr'
          obtain ⟨s2, hp, hq2⟩ := putK_some (resD_skip hx)
          show wpList P ops Q rest (a.put o.dst undef) w1
          exact ih s2 r1 _ w1 n (SL.put (S.later F1.le H1 T1) o.dst ((VR.closed 3 undef undef rfl).2 rfl) hp) (by rw [put_h hp]; exact F.trans F1) hq2
        | enter f args =>
          obtain ⟨args', ha, rfl⟩ := hnr
          refine (hc f args h1 _ n (fun v h2 N h => putK_th (fun s1 N h => opsK_th hz hct hq rest s1 N h) h) hx r1 w1 args' H1 T1 ha).mono fun e' w2 k => ?_
          obtain ⟨v, h2, n2, hk, r2, v', rfl, hv, H2, T2, F2⟩ := k
          obtain ⟨s2, hp, hq2⟩ := putK_some hk
          show wpList P ops Q rest (a.put o.dst v') w2
          exact ih s2 r2 _ w2 n2 (SL.put (S.later (F1.le.trans F2.le) H2 T2) o.dst hv hp) (by rw [put_h hp]; exact F.trans (F1.trans F2)) hq2
        | defer d =>
          obtain ⟨d', hd, rfl⟩ := hnr
          obtain ⟨g, cap, args, cap', args', rfl, rfl, hc', ha'⟩ := dfR_ex hd
          obtain ⟨hds, hx⟩ := defer_ds hx
          obtain ⟨s2, hp, hq2⟩ := putK_some hx
          have S1 := S.later F1.le H1 T1
          have hds' : a.defers = [] := by have := S1.defers; simp only [hds] at this; exact this
          have S3 : SL r1 ⟨s.tm, s.nt, some (.func (.func g) args cap), h1⟩ { a with defers := [⟨.fn (.func g) cap', args'⟩] } w1 := ⟨⟨g, args, cap, args', cap', rfl, rfl, ha', hc'⟩, S1.size, S1.tm, H1, T1⟩
          show wpList P ops Q rest ({ a with defers := _ :: a.defers }.put o.dst undef) w1
          rw [hds']
          exact ih s2 r1 _ w1 n (SL.put S3 o.dst ((VR.closed 3 undef undef rfl).2 rfl) hp) (by rw [put_h hp]; exact F.trans F1) hq2
        | _ => exact hx.elim
    | false =>
      rw [hw] at e'
      dsimp only [cond] at e'
      rw [if_neg (by decide)]
      obtain ⟨s2, hp, hq2⟩ := putK_some e'
      exact ih s2 r _ w n (SL.put S o.dst ((VR.closed 3 undef undef rfl).2 rfl) hp) (by rw [put_h hp]; exact F) hq2
/-- What holds behind: of some outcome that was gone on with. -/
def PostK (r : Env) (h : Hp) (w : World) (q : Exit → St → An) : Exit → Act → World → Prop := fun e' a' w' => ∃ s1 n', q e' s1 n' ∧ ∃ r', SL r' s1 a' w' ∧ Fr r r' h s1.h w w'
theorem PostK.at {r r1 : Env} {h h1 : Hp} {w w1 : World} {q : Exit → St → An} (F : Fr r r1 h h1 w w1) {e' : Exit} {a' : Act} {w' : World} (k : PostK r1 h1 w1 q e' a' w') : PostK r h w q e' a' w' := by
  obtain ⟨s1, n', hq, r', S', F'⟩ := k
  exact ⟨s1, n', hq, r', S', F.trans F'⟩
theorem strip_dst (o : Oper) : (stripO o).dst = o.dst ∧ (stripO o).guard = o.guard := by
  unfold stripO
  split <;> exact ⟨rfl, rfl⟩
theorem strip_yield (s : St) (l : List Oper) : yieldT s (l.map stripO) = yieldT s l := by
  funext j
  unfold yieldT
  rw [List.getElem?_map]
  cases l[j]? with
  | none => rfl
  | some o => simp only [Option.map, Option.bind, (strip_dst o).1]
/-- recover, or an operation as it was. -/
theorem strip_cases (o : Oper) : stripO o = o ∨ (stripO o = { o with op := .move (.const .nilIface) } ∧ ∀ (ev : Operand → Value) (w : World), (execOp ev o).run P w = .ok .recover w) := by
  obtain ⟨dst, op, type, pos, after, guard⟩ := o
  cases op with
  | call c =>
    obtain ⟨callee, args, ats⟩ := c
    cases callee with
    | builtin b => cases b <;> first | exact .inl rfl | exact .inr ⟨rfl, fun _ _ => rfl⟩
    | _ => exact .inl rfl
  | _ => exact .inl rfl
theorem not_recover {ev : Operand → Value} {o : Oper} {w w1 : World} {n : Next} (h : (execOp ev o).run P w = .ok n w1) (hn : n ≠ .recover) : ∀ w', (execOp ev o).run P w ≠ .ok .recover w' := fun w' e => by
  rw [h] at e
  cases e
  exact hn rfl
theorem opsS_sound (hz : Zc P) (ops : Array Oper) {c0 : Frame} {cs : List Frame} (hm : c0.mode = .returning) {Q : Exit → Act → List Frame → World → Prop} {r0 : Env} {h0 : Hp} {w0 : World} (q : St → An) (hq : Th1 q)
    (hQ : ∀ s1 n' r' a' w', q s1 n' → SL r' s1 a' w' → Fr r0 r' h0 s1.h w0 w' → Q .normal a' (c0 :: cs) w') :
    ∀ (l : List Oper) (k : Nat), (∀ j, l[j]? = ops[k + j]?) → ∀ (s : St) (r : Env) (a : Act) (w : World) (n : Prop), SL r s a w → Fr r0 r h0 s.h w0 w → opsK P noCall (ops.toList.map stripO) (l.map stripO) s q n → wpOpsS P ops Q (List.range' k l.length) a (c0 :: cs) w := by
  intro l
  induction l with
  | nil => intro k _ s r a w n S F e; exact hQ s n r a w e S F
  | cons o rest ih =>
    intro k hk s r a w n S F e
    have e' : oneD P noCall (ops.toList.map stripO) (stripO o) s (fun s1 => opsK P noCall (ops.toList.map stripO) (rest.map stripO) s1 q) n := e
    unfold oneD at e'
    rw [wantK_eq, strip_yield] at e'
    have h0' : ops[k]? = some o := by simpa using (hk 0).symm
    have hk' : ∀ j, rest[j]? = ops[k + 1 + j]? := fun j => by have := hk (j + 1); simpa [Nat.add_assoc, Nat.add_comm 1 j] using this
    rw [List.length_cons, List.range'_succ]
    unfold wpOpsS
    rw [h0']
    dsimp only
    have hy : (yielded ops a.tmps) = yieldT s ops.toList := funext fun j => yieldT_eq S ops j
    rw [hy]
    have hw' : Region.wanted (stripO o) (yieldT s ops.toList) = Region.wanted o (yieldT s ops.toList) := by
      unfold Region.wanted
      rw [(strip_dst o).2]
    rw [hw'] at e'
    cases hw : Region.wanted o (yieldT s ops.toList) with
    | true =>
      rw [hw] at e'
      dsimp only [cond] at e'
      rw [if_pos rfl]
      obtain ⟨x, h1, n, hx, r1, w1, H1, T1, F1, hres⟩ := (arm_cases hz e').elim (opD_sound hz S (stripO o) (resD_th noCall_th fun s1 N h => opsK_th hz noCall_th hq (rest.map stripO) s1 N h)) (opStep_R hz S (stripO o))
      rw [(strip_dst o).1] at hx
      cases x with
      | error v => exact hx.elim
      | ok x =>
        obtain ⟨n', hn, hnr⟩ := hres
        rcases strip_cases (P := P) o with hs | ⟨hs, hrec⟩
        · rw [hs] at hn
          have plain : ∀ (next : Prop), (∀ w', (execOp a.eval o).run P w ≠ .ok .recover w') → o.upon P a (fun a' w' => wpOpsS P ops Q (List.range' (k + 1) rest.length) a' (c0 :: cs) w') (fun e a' w' => Q e a' (c0 :: cs) w') ((execOp a.eval o).run P w) →
              (match (execOp a.eval o).run P w with
                | .ok .recover w' => match recoverD (c0 :: cs) with
                  | some (v, cs') => wpOpsS P ops Q (List.range' (k + 1) rest.length) (a.put o.dst v) cs' w'
                  | none => wpOpsS P ops Q (List.range' (k + 1) rest.length) (a.put o.dst .nilIface) (c0 :: cs) w'
                | r => o.upon P a (fun a' w' => wpOpsS P ops Q (List.range' (k + 1) rest.length) a' (c0 :: cs) w') (fun e a' w' => Q e a' (c0 :: cs) w') r) := fun _ h1 h2 => by
            split
            · rename_i w' h3; exact absurd h3 (h1 w')
            · exact h2
          cases x with
          | value v =>
            obtain ⟨v', hv, rfl⟩ := hnr
            obtain ⟨s2, hp, hq2⟩ := putK_some (resD_val hx)
            refine plain True (not_recover hn (by simp)) ?_
            rw [hn]
            show wpOpsS P ops Q (List.range' (k + 1) rest.length) (a.put o.dst v') (c0 :: cs) w1
            exact ih (k + 1) hk' s2 r1 _ w1 n (SL.put (S.later F1.le H1 T1) o.dst hv hp) (by rw [put_h hp]; exact F.trans F1) hq2
          | skip =>
            have hnr' : n' = .skip := hnr
            subst hnr'
            obtain ⟨s2, hp, hq2⟩ := putK_some (resD_skip hx)
            refine plain True (not_recover hn (by simp)) ?_
            rw [hn]
            show wpOpsS P ops Q (List.range' (k + 1) rest.length) (a.put o.dst undef) (c0 :: cs) w1
            exact ih (k + 1) hk' s2 r1 _ w1 n (SL.put (S.later F1.le H1 T1) o.dst ((VR.closed 3 undef undef rfl).2 rfl) hp) (by rw [put_h hp]; exact F.trans F1) hq2
          | defer d =>
            obtain ⟨d', hd, rfl⟩ := hnr
            obtain ⟨g, cap, args, cap', args', rfl, rfl, hc', ha'⟩ := dfR_ex hd
            obtain ⟨hds, hx⟩ := defer_ds hx
            obtain ⟨s2, hp, hq2⟩ := putK_some hx
            have S1 := S.later F1.le H1 T1
            have hds' : a.defers = [] := by have := S1.defers; simp only [hds] at this; exact this
            have S3 : SL r1 ⟨s.tm, s.nt, some (.func (.func g) args cap), h1⟩ { a with defers := [⟨.fn (.func g) cap', args'⟩] } w1 := ⟨⟨g, args, cap, args', cap', rfl, rfl, ha', hc'⟩, S1.size, S1.tm, H1, T1⟩
            refine plain True (not_recover hn (by simp)) ?_
            rw [hn]
            show wpOpsS P ops Q (List.range' (k + 1) rest.length) ({ a with defers := _ :: a.defers }.put o.dst undef) (c0 :: cs) w1
            rw [hds']
            exact ih (k + 1) hk' s2 r1 _ w1 n (SL.put S3 o.dst ((VR.closed 3 undef undef rfl).2 rfl) hp) (by rw [put_h hp]; exact F.trans F1) hq2
          | _ => exact hx.elim
        · rw [hs] at hn
          have hn' : (execOp a.eval { o with op := .move (.const .nilIface) }).run P w = .ok (.value .nilIface) w := rfl
          rw [hn'] at hn
          cases hn
          rw [hrec]
          dsimp only
          have hrd : recoverD (c0 :: cs) = none := by simp only [recoverD, hm]
          rw [hrd]
          cases x with
          | value v =>
            obtain ⟨v', hv, e3⟩ := hnr
            cases e3
            obtain ⟨s2, hp, hq2⟩ := putK_some (resD_val hx)
            exact ih (k + 1) hk' s2 r1 _ w n (SL.put (S.later F1.le H1 T1) o.dst hv hp) (by rw [put_h hp]; exact F.trans F1) hq2
          | skip => cases hnr
          | enter => exact hx.elim
          | defer d => obtain ⟨_, _, e3⟩ := hnr; cases e3
          | _ => exact hx.elim
    | false =>
      rw [hw] at e'
      dsimp only [cond] at e'
      rw [if_neg (by decide)]
      rw [(strip_dst o).1] at e'
      obtain ⟨s2, hp, hq2⟩ := putK_some e'
      exact ih (k + 1) hk' s2 r _ w n (SL.put S o.dst ((VR.closed 3 undef undef rfl).2 rfl) hp) (by rw [put_h hp]; exact F) hq2
theorem lateK_sound (hz : Zc P) (run : Code → St → (Exit → St → An) → An) (hrt : RunTh run) (hrun : ∀ c s q n, Th2 q → run c s q n → ∀ r a w, SL r s a w → c.wp P (PostK r s.h w q) a w) {c0 : Frame} {cs : List Frame} (hm : c0.mode = .returning) :
    ∀ (c : Code) (s : St) (q : Exit → St → An) (n : Prop), Th2 q → lateK P run c s q n → ∀ r a w, SL r s a w → c.wpS P (fun e a' cs' w' => cs' = c0 :: cs ∧ PostK r s.h w q e a' w') a (c0 :: cs) w := by
  have other : ∀ (c : Code) (s : St) (q : Exit → St → An) (n : Prop), Th2 q → run c s q n → ∀ r a w, SL r s a w → c.wpS P (fun e a' cs' w' => cs' = c0 :: cs ∧ PostK r s.h w q e a' w') a (c0 :: cs) w := fun c s q n hq h r a w S => wpS_of_wp (wp_mono (hrun c s q n hq h r a w S) fun e a' w' k => ⟨rfl, k⟩)
  have mono : ∀ {c : Code} {Q Q' : Exit → Act → List Frame → World → Prop} {a : Act} {cs : List Frame} {w : World}, c.wpS P Q a cs w → (∀ e a' cs' w', Q e a' cs' w' → Q' e a' cs' w') → c.wpS P Q' a cs w := fun h k b kk hb hr => by
    obtain ⟨e, a', cs', w', h1, h2⟩ := h b kk hb hr
    exact ⟨e, a', cs', w', k _ _ _ _ h1, h2⟩
  intro c
  induction c with
  | seq x y ihx ihy =>
    intro s q n hq h r a w S
    refine wpS_seq (mono (ihx s _ n (fun e s1 N h => by
      cases e with
      | normal => exact lateK_th hz hrt y s1 q N hq h
      | _ => exact hq _ _ _ h) h r a w S) fun e' a' cs' w' k => ?_)
    obtain ⟨rfl, s2, N2, hk, r', S', F'⟩ := k
    cases e' with
    | normal => exact mono (ihy s2 q N2 hq hk r' a' w' S') fun _ _ _ _ q => ⟨q.1, PostK.at F' q.2⟩
    | _ => exact ⟨rfl, s2, N2, hk, r', S', F'⟩
  | cond x t f iht ihf =>
    intro s q n hq h r a w S
    have h' : (bif opdOK x then evK s x fun v => match v with
      | .bool b => Bool.rec (lateK P run f s q) (lateK P run t s q) b
      | _ => FF
      else FF) n := h
    cases ho : opdOK x with
    | false => rw [ho] at h'; exact h'.elim
    | true =>
      rw [ho] at h'
      dsimp only [cond] at h'
      rw [evK_eq _ _ _ ho] at h'
      have hv := S.ev x ho
      cases hb : s.ev x with
      | bool b =>
        rw [hb] at h' hv
        cases b with
        | true => exact wpS_cond (t := true) hv (iht s q n hq h' r a w S)
        | false => exact wpS_cond (t := false) hv (ihf s q n hq h' r a w S)
      | _ => rw [hb] at h'; exact h'.elim
  | region id ops d =>
    intro s q n hq h r a w S
    cases d with
    | true => exact other _ s q n hq h r a w S
    | false =>
      refine wpS_region ?_
      have e1 : List.range ops.size = List.range' 0 ops.toList.length := by simp [List.range_eq_range']
      rw [e1]
      exact opsS_sound hz ops hm (fun s1 => q .normal s1) (fun s1 N h => hq _ _ _ h) (fun s1 n' r' a' w' hq S' F' => ⟨rfl, s1, n', hq, r', S', F'⟩) ops.toList 0 (fun j => by simp) s r a w n S (.refl S.h) h
  | _ => intro s q n hq h r a w S; exact other _ s q n hq h r a w S
theorem settled_mode {c0 : Frame} (h : c0.mode = .returning) : ({ c0 with mode := .returning } : Frame) = c0 := by
  obtain ⟨fn, tmps, todo, ds, mode, kind, ro⟩ := c0
  simp only at h
  subst h
  rfl
theorem endK_sound (hz : Zc P) (run : Code → St → (Exit → St → An) → An) (hrt : RunTh run) (hrun : ∀ c s q n, Th2 q → run c s q n → ∀ r a w, SL r s a w → c.wp P (PostK r s.h w q) a w) (fn : Func) {R : Ending → World → Prop} {s : St} {q : Value → Hp → An} (hq : ThV q) {n : Prop} {r : Env} {a : Act} {w : World} (S : SL r s a w)
    (h : endK P run s (fun h2 => resK P ⟨s.tm, s.nt, none, h2⟩ fn.results.toList fun vs => resVK vs fun v => q v h2) n)
    (hR : ∀ r' v v' h2 w' n', q v h2 n' → VR r' v v' → HR r' h2 w' → Tidy h2 → Fr r r' s.h h2 w w' → R (.returned v') w') : Leaves P fn a.tmps R a.defers .returning w := by
  have fin : ∀ (r' : Env) (h2 : Hp) (w' : World) (n' : Prop), HR r' h2 w' → Tidy h2 → Fr r r' s.h h2 w w' → resK P ⟨s.tm, s.nt, none, h2⟩ fn.results.toList (fun vs => resVK vs fun v => q v h2) n' → Leaves P fn a.tmps R [] .returning w' := fun r' h2 w' n' H T F hk => by
    obtain ⟨vs, h1, h3⟩ := resK_eq _ _ _ _ hk
    rw [resVK_eq] at h3
    have S2 : SL r' ⟨s.tm, s.nt, none, h2⟩ { a with defers := [] } w' := ⟨rfl, S.size, fun t => (S.tm t).mono F.le, H, T⟩
    obtain ⟨v', hres, hval⟩ := results_run S2 fn vs h1
    exact ⟨v', hres, hR r' _ v' h2 w' n' h3 hval H T F⟩
  unfold endK at h
  cases hds : s.ds with
  | none =>
    rw [hds] at h
    have e : a.defers = [] := by have := S.defers; rw [hds] at this; exact this
    rw [e]
    exact fin r s.h w n S.h S.tidy (.refl S.h) h
  | some v =>
    rw [hds] at h
    have hd := S.defers
    rw [hds] at hd
    obtain ⟨g, first, cap, first', cap', rfl, e, h1, h2⟩ := hd
    obtain ⟨first⟩ := first
    obtain ⟨cap⟩ := cap
    dsimp only at h
    rw [funQ_eq] at h
    rw [e]
    cases hf : P.funcs[g]? with
    | none => rw [hf] at h; exact h.elim
    | some fn2 =>
      rw [hf] at h
      dsimp only at h
      cases hb : fn2.body with
      | none => rw [hb] at h; exact h.elim
      | some c2 =>
        rw [hb] at h
        dsimp only at h
        have hn := hz.2 g fn2 hf
        · rw [initK_eq, fN_eq] at h
          have hargs : AVs r ⟨first ++ cap⟩ (first' ++ cap') := by
            have := AVs.append h1 h2
            simpa using this
          have hi : (invoke (.fn (.func g) cap') first').run P w = .ok (.enter g (first' ++ cap')) w := by
            show (callFunc g (first' ++ cap')).run P w = _
            unfold callFunc
            rw [Sem.run_bind]
            show (match P.funcs[g]? with | none => _ | some fn => _ : Sem Next).run P w = _
            rw [hf]
            dsimp only
            rw [hn, hb]
            rfl
          refine leaves_cons (by simp) hi (callsD_of_wpS hf hb fun c₀ cs hu => ?_)
          have hl := lateK_sound hz run hrt hrun (cs := cs) hu c2 _ _ n (late_th (q := fun h2 => resK P ⟨s.tm, s.nt, none, h2⟩ fn.results.toList fun vs => resVK vs fun v => q v h2) (fun h2 N h => resK_th (fun vs N h => by rw [resVK_eq] at h; exact hq _ _ _ h) h) _) h r _ w (SL.init S.h S.tidy hargs fn2.ntmps)
          intro b kk hbk hbr
          obtain ⟨e', a', cs', w', ⟨hcs, s2, n2, hq, r', S2, F2⟩, harr⟩ := hl b kk hbk hbr
          refine ⟨e', a', cs', w', ?_, harr⟩
          have hds2 : s2.ds = none := by
            cases e2 : s2.ds with
            | none => rfl
            | some u => rw [e2] at hq; exact hq.elim
          rw [hds2] at hq
          dsimp only at hq
          have hda : a'.defers = [] := by have := S2.defers; rw [hds2] at this; exact this
          have key : resK P s2 fn2.results.toList (fun _ => resK P ⟨s.tm, s.nt, none, s2.h⟩ fn.results.toList fun vs => resVK vs fun v => q v s2.h) n2 → bodyPostS P fn2 c₀ cs (fun e u' w' => match e with
              | .returned _ => Leaves P fn a.tmps R [] (settle u') w'
              | .panicked chain => Leaves P fn a.tmps R [] (raised u' chain) w'
              | .outgrown => R .outgrown w') .normal a' cs' w' := fun hk => by
            obtain ⟨vs, h3, h4⟩ := resK_eq _ _ _ _ hk
            obtain ⟨v', hres, _⟩ := results_run S2 fn2 vs h3
            refine ⟨hda, .returning, ?_, v', hres, ?_⟩
            · rw [hcs, settled_mode hu]
            · exact fin r' s2.h w' n2 S2.h S2.tidy F2 h4
          cases e' with
          | normal => exact key hq
          | ret => exact key hq
          | _ => exact hq.elim
theorem callK_sound (hz : Zc P) (run : Code → St → (Exit → St → An) → An) (hrt : RunTh run) (hrun : ∀ c s q n, Th2 q → run c s q n → ∀ r a w, SL r s a w → c.wp P (PostK r s.h w q) a w) : CallK P (callK P run) := by
  intro f args h q n hq hcl r w args' H hT ha
  unfold callK at hcl
  rw [funQ_eq] at hcl
  cases hf : P.funcs[f]? with
  | none => rw [hf] at hcl; exact hcl.elim
  | some fn =>
    rw [hf] at hcl
    dsimp only at hcl
    cases hb : fn.body with
    | none => rw [hb] at hcl; exact hcl.elim
    | some c =>
      rw [hb] at hcl
      dsimp only at hcl
      rw [initK_eq, fN_eq] at hcl
      refine calls_of_wp_defers hf hb (wp_mono (hrun c _ _ n (ends_th hz hrt hq _) hcl r _ w (SL.init H hT ha fn.ntmps)) fun e' a' w' k => ?_)
      obtain ⟨s1, n', hk, r', S', F'⟩ := k
      have key : endK P run s1 (fun h2 => resK P ⟨s1.tm, s1.nt, none, h2⟩ fn.results.toList fun vs => resVK vs fun v => q v h2) n' → Leaves P fn a'.tmps (fun e w' => ∃ v h2 n', q v h2 n' ∧ ∃ r' v', e = .returned v' ∧ VR r' v v' ∧ HR r' h2 w' ∧ Tidy h2 ∧ Fr r r' h h2 w w') a'.defers .returning w' := fun hk =>
        endK_sound hz run hrt hrun fn hq S' hk fun r2 v v' h2 w2 n2 hq hv H2 T2 F2 => ⟨v, h2, n2, hq, r2, v', rfl, hv, H2, T2, F'.trans F2⟩
      cases e' with
      | normal => exact key hk
      | ret => exact key hk
      | _ => exact hk.elim
end
end Go.Proofs.YtmjblbgalkjmiaaGreat.EX
/- Regions in whatever order: heaps as functions; trees that make one block and look at nothing. -/
namespace Go.Proofs.YtmjblbgalkjmiaaGreat.EX
open Go
/-- A heap (a function) and a world alike. -/
structure KR (r : Env) (K : Nat → Option Obj) (w : World) : Prop where
  live : ∀ b o, K b = some o → ∃ c o', r b c ∧ w.heap[c]? = some o' ∧ OB r b o o'
  fn : ∀ b c c', r b c → r b c' → c = c'
  inj : ∀ b b' c, (K b).isSome → (K b').isSome → r b c → r b' c → b = b'
  caps : ∀ b c k c0 d e cs t z, b % 2 = 1 → r b c → Gh r b k c0 d e → K b = some (.cells ⟨cs⟩ t z) → cs.length = c0 * e ∧ ∃ cs' z', w.heap[c]? = some (.cells cs' t z') ∧ d + k * e ≤ cs'.size
theorem KR.size {r : Env} {K : Nat → Option Obj} {w : World} (k : KR r K w) {b c : Nat} (hb : (K b).isSome) (hr : r b c) : c < w.heap.size := by
  obtain ⟨o, ho⟩ := Option.isSome_iff_exists.1 hb
  obtain ⟨c1, o1, k1, k2, _⟩ := k.live b o ho
  cases k.fn _ _ _ hr k1
  exact (Array.getElem?_eq_some_iff.1 k2).1
theorem KR.sub {r : Env} {K : Nat → Option Obj} {w : World} (k : KR r K w) (h : Hp) (hs : ∀ b o, h.t.get b = some o → K b = some o) (hl : ∀ b c, r b c → b < 2 * h.n) (ho : ∀ b c, r b c → b % 2 = 1 → b + 11 ≤ 2 * h.n) : HR r h w :=
  ⟨fun b o e => k.live b o (hs b o e), k.fn, fun b b' c e e' => by
    obtain ⟨o, ho⟩ := Option.isSome_iff_exists.1 e
    obtain ⟨o', ho'⟩ := Option.isSome_iff_exists.1 e'
    exact k.inj b b' c (by rw [hs b o ho]; rfl) (by rw [hs b' o' ho']; rfl), hl, ho, fun b c q c0 d e cs t z h1 h2 h3 h6 => k.caps b c q c0 d e cs t z h1 h2 h3 (hs _ _ h6)⟩
/-- Trees that look at nothing and make one block at most, whose number is given. -/
def NewE (r : Env) (g : Nat) (w : World) : Env := fun b c => r b c ∨ (b = g ∧ c = w.heap.size)
/-- Behind the block's making. -/
theorem runN_some {P : Program} {α : Type} {Q : Env → α → α → Prop} : ∀ (s s' : Sem α) (r : Env) (g : Nat) (o : Obj) (w : World), SR P Q s s' r → ∀ x o1, runN P s g (some o) = some (x, o1) → o1 = some o ∧ ∃ x', s'.run P w = .ok x' w ∧ Q r x x' := by
  intro s
  induction s with
  | pure a =>
    intro s' r g o w hs x o1 e
    cases s' <;> simp only [SR] at hs
    cases e
    exact ⟨rfl, _, rfl, hs⟩
  | choose c k ih =>
    intro s' r g o w hs x o1 e
    cases s' <;> simp only [SR] at hs
    obtain ⟨rfl, hk⟩ := hs
    simp only [runN] at e
    split at e
    · rename_i hf
      obtain ⟨h1, x', h2, h3⟩ := ih _ _ r g o w (hk hf) x o1 e
      exact ⟨h1, x', by simp only [Sem.run, hf, if_true]; exact h2, h3⟩
    · cases e
  | program k ih =>
    intro s' r g o w hs x o1 e
    cases s' <;> simp only [SR] at hs
    exact ih _ _ r g o w hs x o1 e
  | mark m k ih =>
    intro s' r g o w hs x o1 e
    cases s' <;> simp only [SR] at hs
    exact ih _ r g o w hs x o1 e
  | _ => intro s' r g o w hs x o1 e; cases e
theorem runN_none {P : Program} {α : Type} {Q : Env → α → α → Prop} {g : Nat} (hg : g % 2 = 0) : ∀ (s s' : Sem α) (r : Env) (w : World), SR P Q s s' r → ∀ x o1, runN P s g none = some (x, o1) →
    match o1 with
    | none => ∃ x', s'.run P w = .ok x' w ∧ Q r x x'
    | some o => ∃ x' o', s'.run P w = .ok x' { w with heap := w.heap.push o' } ∧ OR r o o' ∧ Q (NewE r g w) x x' := by
  intro s
  induction s with
  | pure a =>
    intro s' r w hs x o1 e
    cases s' <;> simp only [SR] at hs
    cases e
    exact ⟨_, rfl, hs⟩
  | new o k ih =>
    intro s' r w hs x o1 e
    cases s' <;> simp only [SR] at hs
    rename_i o' k'
    obtain ⟨ho, hk⟩ := hs
    simp only [runN] at e
    obtain ⟨rfl, x', h2, h3⟩ := runN_some _ _ (NewE r g w) g o { w with heap := w.heap.push o' } (hk _ g w.heap.size (fun _ _ h => .inl h) (.inr ⟨rfl, rfl⟩) (.even hg)) x o1 e
    exact ⟨x', o', h2, ho, h3⟩
  | choose c k ih =>
    intro s' r w hs x o1 e
    cases s' <;> simp only [SR] at hs
    obtain ⟨rfl, hk⟩ := hs
    simp only [runN] at e
    split at e
    · rename_i hf
      have := ih _ _ r w (hk hf) x o1 e
      simp only [Sem.run, hf, if_true]
      exact this
    · cases e
  | program k ih =>
    intro s' r w hs x o1 e
    cases s' <;> simp only [SR] at hs
    exact ih _ _ r w hs x o1 e
  | mark m k ih =>
    intro s' r w hs x o1 e
    cases s' <;> simp only [SR] at hs
    exact ih _ r w hs x o1 e
  | _ => intro s' r w hs x o1 e; cases e
/-- One block more. -/
theorem KR.new {r : Env} {K : Nat → Option Obj} {w : World} (k : KR r K w) {g : Nat} (hg : ∀ c, ¬ r g c) (hge : g % 2 = 0) (hgo : ∀ b c, r b c → b % 2 = 1 → b + 1 ≠ g ∧ b + 3 ≠ g ∧ b + 5 ≠ g ∧ b + 7 ≠ g ∧ b + 9 ≠ g) {o o' : Obj} (ho : OR r o o') :
    KR (NewE r g w) (fun b => if b = g then some o else K b) { w with heap := w.heap.push o' } := by
  have hle : Le r (NewE r g w) := fun _ _ h => .inl h
  have old : ∀ b c, b ≠ g → NewE r g w b c → r b c := fun b c hb h => h.elim id fun e => absurd e.1 hb
  refine ⟨fun b u e => ?_, fun b c c' h h' => ?_, fun b b' c e e' h h' => ?_, fun b c q c0 d e cs t z h1 h2 h3 h6 => ?_⟩
  · by_cases eb : b = g
    · subst eb
      rw [if_pos rfl] at e
      cases e
      exact ⟨w.heap.size, o', .inr ⟨rfl, rfl⟩, by simp, .of hge (OR.mono hle _ _ ho)⟩
    · rw [if_neg eb] at e
      obtain ⟨c, u', h1, h2, h3⟩ := k.live b u e
      exact ⟨c, u', .inl h1, by have := k.size (by rw [e]; rfl) h1; simp [Array.getElem?_push, h2, Nat.ne_of_lt this], h3.mono hle⟩
  · rcases h with h | ⟨h, h1⟩ <;> rcases h' with h' | ⟨h', h2⟩
    · exact k.fn b c c' h h'
    · subst h'; exact absurd h (hg c)
    · subst h; exact absurd h' (hg c')
    · rw [h1, h2]
  · rcases h with h | ⟨h, h1⟩ <;> rcases h' with h' | ⟨h', h2⟩
    · have n1 : b ≠ g := fun q => hg c (q ▸ h)
      have n2 : b' ≠ g := fun q => hg c (q ▸ h')
      rw [if_neg n1] at e
      rw [if_neg n2] at e'
      exact k.inj b b' c e e' h h'
    · have n1 : b ≠ g := fun q => hg c (q ▸ h)
      rw [if_neg n1] at e
      have := k.size e h; omega
    · have n2 : b' ≠ g := fun q => hg c (q ▸ h')
      rw [if_neg n2] at e'
      have := k.size e' h'; omega
    · rw [h, h']
  · have n1 : b ≠ g := by omega
    have h2' := old b c n1 h2
    obtain ⟨n2, n3, n4, n5, n6⟩ := hgo b c h2' h1
    rw [if_neg n1] at h6
    obtain ⟨X, x1, x2, x3, x4, x5⟩ := h3
    obtain ⟨q0, cs', z', q1, q2⟩ := k.caps b c q c0 d e cs t z h1 h2' ⟨X, old _ _ n2 x1, old _ _ n3 x2, old _ _ n4 x3, old _ _ n5 x4, old _ _ n6 x5⟩ h6
    have := k.size (by rw [h6]; rfl) h2'
    exact ⟨q0, cs', z', by simp [Array.getElem?_push, q1, Nat.ne_of_lt this], q2⟩
/-- A run on a part of a heap: the rest stays. -/
theorem KR.upd {r r' : Env} {K : Nat → Option Obj} {h h1 : Hp} {w w1 : World} (k : KR r K w) (hs : ∀ b o, h.t.get b = some o → K b = some o) (hodd : ∀ b c, r b c → b % 2 = 1 → b + 11 ≤ 2 * h.n) (H1 : HR r' h1 w1) (F : Fr r r' h h1 w w1) :
    KR r' (fun b => if (h.t.get b).isSome || decide (2 * h.n ≤ b) then h1.t.get b else K b) w1 := by
  have lo : ∀ b, ((h.t.get b).isSome || decide (2 * h.n ≤ b)) = false → h.t.get b = none ∧ b < 2 * h.n := fun b e => by
    simp only [Bool.or_eq_false_iff, decide_eq_false_iff_not] at e
    refine ⟨?_, by omega⟩
    cases q : h.t.get b with
    | none => rfl
    | some _ => rw [q] at e; cases e.1
  have back : ∀ b c, b < 2 * h.n → r' b c → r b c := fun b c hb hr => (F.new b c hr (.inr hb)).elim id fun q => absurd q.1 (by omega)
  have other : ∀ b o, ((h.t.get b).isSome || decide (2 * h.n ≤ b)) = false → K b = some o → ∀ c, r b c → ∀ b', (h.t.get b').isSome → ¬ r b' c := fun b o e hk c hr b' hb' hr' => by
    obtain ⟨o', ho'⟩ := Option.isSome_iff_exists.1 hb'
    have := k.inj b b' c (by rw [hk]; rfl) (by rw [hs b' o' ho']; rfl) hr hr'
    subst this
    rw [(lo b e).1] at hb'
    cases hb'
  refine ⟨fun b o e => ?_, H1.fn, fun b b' c e e' h2 h3 => ?_, fun b c q c0 d e' cs t z g1 g2 g3 g6 => ?_⟩
  · cases q : ((h.t.get b).isSome || decide (2 * h.n ≤ b)) with
    | true => rw [q] at e; exact H1.live b o e
    | false =>
      rw [q] at e
      simp only [Bool.false_eq_true, if_false] at e
      obtain ⟨c, o', h2, h3, h4⟩ := k.live b o e
      exact ⟨c, o', F.le _ _ h2, by rw [F.heap c (k.size (by rw [e]; rfl) h2) (other b o q e c h2)]; exact h3, h4.mono F.le⟩
  · cases q : ((h.t.get b).isSome || decide (2 * h.n ≤ b)) with
    | true =>
      rw [q] at e
      simp only [if_true] at e
      cases q' : ((h.t.get b').isSome || decide (2 * h.n ≤ b')) with
      | true =>
        rw [q'] at e'
        simp only [if_true] at e'
        exact H1.inj b b' c e e' h2 h3
      | false =>
        rw [q'] at e'
        simp only [Bool.false_eq_true, if_false] at e'
        exfalso
        obtain ⟨o', ho'⟩ := Option.isSome_iff_exists.1 e'
        have hr' := back b' c (lo b' q').2 h3
        have hcs := k.size e' hr'
        rcases F.new b c h2 (.inl hcs) with hr | ⟨_, b0, hl, hr0⟩
        case inr => exact other b' o' q' ho' c hr' b0 hl hr0
        have hb : (h.t.get b).isSome := by
          have hbl : b < 2 * h.n := F.lt b c hr
          exact F.old b hbl e
        exact other b' o' q' ho' c hr' b hb hr
    | false =>
      rw [q] at e
      simp only [Bool.false_eq_true, if_false] at e
      obtain ⟨o, ho⟩ := Option.isSome_iff_exists.1 e
      have hr := back b c (lo b q).2 h2
      have hcs := k.size e hr
      rcases F.new b' c h3 (.inl hcs) with hr' | ⟨_, b0, hl, hr0⟩
      case inr => exact absurd hr0 (other b o q ho c hr b0 hl)
      cases q' : ((h.t.get b').isSome || decide (2 * h.n ≤ b')) with
      | true =>
        rw [q'] at e'
        simp only [if_true] at e'
        exfalso
        have hb : (h.t.get b').isSome := F.old b' (F.lt b' c hr') e'
        exact other b o q ho c hr b' hb hr'
      | false =>
        rw [q'] at e'
        simp only [Bool.false_eq_true, if_false] at e'
        exact k.inj b b' c e e' hr hr'
  · cases e : ((h.t.get b).isSome || decide (2 * h.n ≤ b)) with
    | true => rw [e] at g6; exact H1.caps b c q c0 d e' cs t z g1 g2 g3 g6
    | false =>
      rw [e] at g6
      simp only [Bool.false_eq_true, if_false] at g6
      have hr := back b c (lo b e).2 g2
      have hb := hodd b c hr g1
      obtain ⟨q0, cs', z', q1, q2⟩ := k.caps b c q c0 d e' cs t z g1 hr (g3.old back (by omega)) g6
      exact ⟨q0, cs', z', by rw [F.heap c (k.size (by rw [g6]; rfl) hr) (other b _ e g6 c hr)]; exact q1, q2⟩
end Go.Proofs.YtmjblbgalkjmiaaGreat.EX
/- Operations of a region in whatever order: those that look at nothing, those that only read. -/
namespace Go.Proofs.YtmjblbgalkjmiaaGreat.EX
open Go
section
variable {P : Program}
def valN : Option (Next × Option Obj) → Option (Value × Option Obj)
  | some (.value v, o) => some (v, o)
  | _ => none
def valL : Option Next → Option Value
  | some (.value v) => some v
  | _ => none
def clo (P : Program) (ev : Operand → Value) (o : Oper) : Option Value :=
  if o.op.operands.toList.all fun x => closed 64 (ev x) then
    match runP P (execOp ev o) with
    | some (.value v) => if closed 64 v then some v else none
    | _ => none
  else none
/-- What looks at nothing. -/
def evC (P : Program) (ev : Operand → Value) (o : Oper) (g : Nat) : Option (Value × Option Obj) :=
  if okOp P ev o.op then valN (runN P (execOp ev o) g none) else (clo P ev o).map fun v => (v, none)
/-- What reads. -/
def evL (P : Program) (ev : Operand → Value) (o : Oper) (h : Hp) : Option Value :=
  match o.op with
  | .lookup t x k ok => lookP P t (ev x) (ev k) ok h
  | .slice t x (some lo) hi none => match cutP P t (ev x) (ev lo) (hi.map ev) h with
    | some v => some v
    | none => clo P ev o
  | _ => clo P ev o
def evR (P : Program) (ev : Operand → Value) (o : Oper) (h : Hp) : Option Value :=
  if okOp P ev o.op then valL (runL P (execOp ev o) h) else evL P ev o h
theorem evL_cases (P : Program) (ev : Operand → Value) (o : Oper) (h : Hp) : evL P ev o h = clo P ev o ∨ (∃ t x k ok, o.op = .lookup t x k ok ∧ evL P ev o h = lookP P t (ev x) (ev k) ok h) ∨ ∃ v, cutX P o.op ev h = some v ∧ evL P ev o h = some v := by
  obtain ⟨dst, op, type, pos, after, guard⟩ := o
  cases op with
  | lookup t x k ok => exact .inr (.inl ⟨t, x, k, ok, rfl, rfl⟩)
  | slice t x lo hi mx =>
    cases lo with
    | none => exact .inl rfl
    | some lo => cases mx with
      | none =>
        cases e : cutP P t (ev x) (ev lo) (hi.map ev) h with
        | none => exact .inl (by simp only [evL, e])
        | some v => exact .inr (.inr ⟨v, e, by simp only [evL, e]⟩)
      | some _ => exact .inl rfl
  | _ => exact .inl rfl
theorem noSel_of {o : Oper} (h : noSel o.op = true) : ∀ cs b, o.op ≠ .select cs b := fun cs b q => by rw [q] at h; cases h
theorem clo_congr {ev ev' : Operand → Value} (o : Oper) (hs : noSel o.op = true) (h : ∀ x ∈ o.op.operands, ev x = ev' x) : clo P ev o = clo P ev' o := by
  unfold clo
  have c3 : (o.op.operands.toList.all fun x => closed 64 (ev x)) = o.op.operands.toList.all fun x => closed 64 (ev' x) := by
    rw [Bool.eq_iff_iff, List.all_eq_true, List.all_eq_true]
    constructor
    · intro k x hx; rw [← h x (by simpa using hx)]; exact k x hx
    · intro k x hx; rw [h x (by simpa using hx)]; exact k x hx
  rw [c3, execOp_congr o (noSel_of hs) h]
theorem evC_congr {ev ev' : Operand → Value} (o : Oper) (g : Nat) (hs : noSel o.op = true) (h : ∀ x ∈ o.op.operands, ev x = ev' x) : evC P ev o g = evC P ev' o g := by
  unfold evC
  rw [okOp_congr o.op h, execOp_congr o (noSel_of hs) h, clo_congr o hs h]
theorem evR_congr {ev ev' : Operand → Value} (o : Oper) (g : Hp) (hs : noSel o.op = true) (h : ∀ x ∈ o.op.operands, ev x = ev' x) : evR P ev o g = evR P ev' o g := by
  have e : evL P ev o g = evL P ev' o g := by
    obtain ⟨dst, op, type, pos, after, guard⟩ := o
    cases op with
    | lookup t x k ok =>
      show lookP P t (ev x) (ev k) ok g = lookP P t (ev' x) (ev' k) ok g
      rw [h x (by simp [Op.operands]), h k (by simp [Op.operands])]
    | slice t x lo hi mx =>
      cases lo with
      | none => exact clo_congr (P := P) _ hs h
      | some lo => cases mx with
        | none =>
          have h1 : cutP P t (ev x) (ev lo) (hi.map ev) g = cutP P t (ev' x) (ev' lo) (hi.map ev') g := cutX_congr (P := P) (.slice t x (some lo) hi none) g h
          have h2 := clo_congr (P := P) ⟨dst, .slice t x (some lo) hi none, type, pos, after, guard⟩ hs h
          simp only [evL, h1, h2]
        | some _ => exact clo_congr (P := P) _ hs h
    | _ => exact clo_congr (P := P) _ hs h
  unfold evR
  rw [okOp_congr o.op h, execOp_congr o (noSel_of hs) h, e]
theorem SR_on (hz : Zc P) {r : Env} {ev ev' : Operand → Value} (o : Oper) (hs : statOK o = true) (ha : ∀ x, opdOK x = true → x ∈ o.op.operands → VR r (ev x) (ev' x)) (hok : okOp P ev o.op = true) : SR P NR (execOp ev o) (execOp ev' o) r := by
  unfold statOK at hs
  simp only [Bool.and_eq_true] at hs
  have hops : ∀ x ∈ o.op.operands, opdOK x = true := fun x hx => List.all_eq_true.1 hs.1 x (by simpa using hx)
  classical
  have c1 : execOp ev o = execOp (fun x => if x ∈ o.op.operands then ev x else undef) o := execOp_congr o (noSel_of hs.2) fun x hx => by simp [hx]
  have c2 : execOp ev' o = execOp (fun x => if x ∈ o.op.operands then ev' x else undef) o := execOp_congr o (noSel_of hs.2) fun x hx => by simp [hx]
  rw [c1, c2]
  refine SR.execOp hz o (fun x => ?_) ?_
  · by_cases h : x ∈ o.op.operands
    · rw [if_pos h, if_pos h]; exact ha x (hops x h) h
    · rw [if_neg h, if_neg h]; exact (VR.closed 3 undef undef rfl).2 rfl
  · rw [← okOp_congr o.op (ev := ev) fun x hx => by simp [hx]]
    exact hok
theorem clo_sound {r : Env} {ev ev' : Operand → Value} (o : Oper) (hs : statOK o = true) (ha : ∀ x, opdOK x = true → x ∈ o.op.operands → VR r (ev x) (ev' x)) {v : Value} (h : clo P ev o = some v) : VR r v v ∧ ∀ w, (execOp ev' o).run P w = .ok (.value v) w := by
  unfold statOK at hs
  simp only [Bool.and_eq_true] at hs
  have hops : ∀ x ∈ o.op.operands, opdOK x = true := fun x hx => List.all_eq_true.1 hs.1 x (by simpa using hx)
  unfold clo at h
  split at h
  · rename_i hcl
    split at h
    · rename_i u hu
      split at h
      · rename_i hc
        cases h
        refine ⟨(VR.closed 64 v v hc).2 rfl, fun w => ?_⟩
        have c : execOp ev' o = execOp ev o := execOp_congr o (noSel_of hs.2) fun x hx => (VR.closed 64 _ _ (List.all_eq_true.1 hcl x (by simpa using hx))).1 (ha x (hops x hx) hx)
        rw [c]
        exact run_runP _ _ hu w
      · cases h
    · cases h
  · cases h
theorem evC_sound (hz : Zc P) {r : Env} {ev ev' : Operand → Value} (o : Oper) (hs : statOK o = true) (ha : ∀ x, opdOK x = true → x ∈ o.op.operands → VR r (ev x) (ev' x)) {g : Nat} (hg : g % 2 = 0) {v : Value} {ob : Option Obj} (h : evC P ev o g = some (v, ob)) (w : World) :
    match ob with
    | none => ∃ v', (execOp ev' o).run P w = .ok (.value v') w ∧ VR r v v'
    | some x => ∃ v' x', (execOp ev' o).run P w = .ok (.value v') { w with heap := w.heap.push x' } ∧ OR r x x' ∧ VR (NewE r g w) v v' := by
  unfold evC at h
  split at h
  · rename_i hok
    have S := SR_on hz o hs ha hok
    cases e : runN P (execOp ev o) g none with
    | none => rw [e] at h; cases h
    | some p =>
      obtain ⟨n, ob'⟩ := p
      rw [e] at h
      cases n with
      | value u =>
        cases h
        have := runN_none hg _ _ r w S _ _ e
        cases ob with
        | none =>
          obtain ⟨x', h1, h2⟩ := this
          obtain ⟨v', hv, rfl⟩ := h2
          exact ⟨v', h1, hv⟩
        | some x =>
          obtain ⟨x', o', h1, h2, h3⟩ := this
          obtain ⟨v', hv, rfl⟩ := h3
          exact ⟨v', o', h1, h2, hv⟩
      | _ => cases h
  · cases e : clo P ev o with
    | none => rw [e] at h; cases h
    | some u =>
      rw [e] at h
      cases h
      obtain ⟨h1, h2⟩ := clo_sound o hs ha e
      exact ⟨v, h2 w, h1⟩
theorem evR_sound (hz : Zc P) {r : Env} {ev ev' : Operand → Value} (o : Oper) (hs : statOK o = true) (ha : ∀ x, opdOK x = true → x ∈ o.op.operands → VR r (ev x) (ev' x)) {h : Hp} {v : Value} (he : evR P ev o h = some v) {w : World} (H : HR r h w) :
    ∃ v', (execOp ev' o).run P w = .ok (.value v') w ∧ VR r v v' := by
  unfold evR at he
  split at he
  · rename_i hok
    have S := SR_on hz o hs ha hok
    cases e : runL P (execOp ev o) h with
    | none => rw [e] at he; cases he
    | some n =>
      rw [e] at he
      cases n with
      | value u =>
        cases he
        obtain ⟨x', h1, h2⟩ := run_SRL _ _ r h w S H _ e
        obtain ⟨v', hv, rfl⟩ := h2
        exact ⟨v', h1, hv⟩
      | _ => cases he
  · rcases evL_cases P ev o h with e | ⟨t, x, k, ok, ho, e⟩ | ⟨u, hc, e⟩
    · rw [e] at he
      obtain ⟨h1, h2⟩ := clo_sound o hs ha he
      exact ⟨v, h2 w, h1⟩
    · rw [e] at he
      have hops : ∀ x ∈ o.op.operands, opdOK x = true := fun x hx => by
        have hs' : (o.op.operands.toList.all opdOK && noSel o.op) = true := hs
        simp only [Bool.and_eq_true] at hs'
        exact List.all_eq_true.1 hs'.1 x (by simpa using hx)
      have hx : x ∈ o.op.operands := by rw [ho]; simp [Op.operands]
      have hk : k ∈ o.op.operands := by rw [ho]; simp [Op.operands]
      obtain ⟨v', h1, h2⟩ := lookP_sound H (ha x (hops x hx) hx) (ha k (hops k hk) hk) he
      refine ⟨v', ?_, h2⟩
      obtain ⟨dst, op, type, pos, after, guard⟩ := o
      simp only at ho
      subst ho
      show (Instr.lookup t (ev' x) (ev' k) ok >>= fun v => pure (Next.value v) : Sem Next).run P w = _
      rw [Sem.run_bind, h1]
      rfl
    · rw [e] at he
      have hops : ∀ x ∈ o.op.operands, opdOK x = true := fun x hx => by
        have hs' : (o.op.operands.toList.all opdOK && noSel o.op) = true := hs
        simp only [Bool.and_eq_true] at hs'
        exact List.all_eq_true.1 hs'.1 x (by simpa using hx)
      cases he
      exact cutX_sound H (fun x hx => ha x (hops x hx) hx) hc
end
end Go.Proofs.YtmjblbgalkjmiaaGreat.EX
/- Quick ways of operations in regions in whatever order. -/
namespace Go.Proofs.YtmjblbgalkjmiaaGreat.EX
open Go
abbrev ArmN := Program → St → Nat → (Value → Obj → An) → An → An
def noArmN : ArmN := fun _ _ _ _ g => g
def newN (t : TypeId) (l : List Value) (b : Nat) (qv : Value → Obj → An) : An := fN b fun b => qv (.pointer (some ⟨b, 0, none⟩)) (.cells ⟨l⟩ t (0, 0))
def allocN (t : TypeId) : ArmN := fun P _ b qv g => Option.rec (motive := fun _ => An) g (fun z => cellV z (fun l => newN t l b qv) (fun _ => newN t [z] b qv)) (zrT P t)
def boxN (t : TypeId) (x : Operand) : ArmN := fun _ s b qv _ => evK s x fun v => cellV v (fun l => newN t l b qv) (fun _ => newN t [v] b qv)
def sliN (e : TypeId) (l : List Value) (a b blk : Nat) (qv : Value → Obj → An) : An := fN blk fun blk => qv (.slice (some ⟨blk, 0, none⟩) a b) (.cells ⟨l⟩ e (0, 0))
def makeN (t : TypeId) (l c : Operand) : ArmN := fun P s blk qv g => makeG t l c P s (fun e row a b => sliN e row a b blk qv) g
def buildSN (t : TypeId) (len : Nat) (ps : Array (Nat × Operand)) : ArmN := fun P s blk qv g => buildG t len ps P s (fun e row a b => sliN e row a b blk qv) g
def armN (o : Op) : ArmN := Op.rec (motive := fun _ => ArmN) (fun _ => noArmN) (fun _ => noArmN) (fun _ _ _ => noArmN) (allocN) (boxN) (fun _ _ => noArmN) (buildSN) (fun _ _ _ _ => noArmN) (fun _ _ => noArmN) (fun _ _ _ => noArmN) (fun _ => noArmN) (fun _ => noArmN) (fun _ => noArmN) (fun _ _ _ _ _ => noArmN) (fun _ _ _ => noArmN) (fun _ _ _ => noArmN) (fun _ _ => noArmN) (fun _ _ => noArmN) (fun _ _ _ => noArmN) (fun _ _ => noArmN) (fun _ _ => noArmN) (makeN) (fun _ _ _ _ _ => noArmN) (fun _ _ _ => noArmN) (fun _ _ _ => noArmN) (fun _ _ _ => noArmN) (fun _ _ _ => noArmN) (fun _ _ _ _ => noArmN) (fun _ _ _ _ => noArmN) (fun _ _ _ => noArmN) (fun _ _ _ _ => noArmN) (fun _ _ => noArmN) (fun _ _ => noArmN) (fun _ => noArmN) (fun _ _ _ _ => noArmN) (fun _ _ => noArmN) (fun _ => noArmN) (fun _ => noArmN) (fun _ => noArmN) (fun _ => noArmN) (fun _ _ => noArmN) (fun _ _ _ => noArmN) (fun _ _ => noArmN) o
def isLoad (o : Op) : Bool :=
  match o with
  | .load .. => true
  | _ => false
section
variable {P : Program}
theorem runL_P {α : Type} : ∀ (m : Sem α) (a : α) (h : Hp), runP P m = some a → runL P m h = some a := by
  intro m
  induction m with
  | pure b => intro a h e; cases e; rfl
  | program k ih => intro a h e; exact ih P a h e
  | mark m k ih => intro a h e; exact ih a h e
  | choose c k ih =>
    intro a h e
    simp only [runP] at e
    simp only [runL]
    cases hc : c.forced with
    | false => rw [hc] at e; cases e
    | true => rw [hc] at e; exact ih 0 a h e
  | _ => intro a h e; cases e
theorem clo_pv {ev : Operand → Value} {o : Oper} {v : Value} (h1 : ∀ x ∈ o.op.operands.toList, closed 64 (ev x) = true) (h2 : runP P (execOp ev o) = some (.value v)) (h3 : closed 64 v = true) : clo P ev o = some v := by
  unfold clo
  rw [if_pos (List.all_eq_true.2 h1), h2]
  dsimp only
  rw [if_pos h3]
theorem evC_pv {ev : Operand → Value} {o : Oper} {v : Value} (g : Nat) (h : PV P ev o v) : evC P ev o g = some (v, none) := by
  unfold evC
  rcases h with ⟨h1, h2⟩ | ⟨h1, h2, h3, h4⟩
  · rw [if_pos h1, runN_P _ _ g none h2]
    rfl
  · rw [if_neg (by rw [h1]; decide), clo_pv h2 h3 h4]
    rfl
theorem cutX_open {ev : Operand → Value} {op : Op} {h : Hp} {v : Value} (e : cutX P op ev h = some v) : ∃ x ∈ op.operands, closed 64 (ev x) = false := by
  cases op with
  | slice t x lo hi mx =>
    cases lo with
    | none => cases e
    | some lo => cases mx with
      | some _ => cases e
      | none =>
        refine ⟨x, by simp [Op.operands], ?_⟩
        simp only [cutX] at e
        unfold cutP at e
        split at e
        · rename_i hx _; rw [hx]; rfl
        · cases e
  | _ => cases e
theorem evR_pv {ev : Operand → Value} {o : Oper} {v : Value} (h : Hp) (k : PV P ev o v) (hl : mapOp o.op = false) : evR P ev o h = some v := by
  unfold evR
  rcases k with ⟨h1, h2⟩ | ⟨h1, h2, h3, h4⟩
  · rw [if_pos h1, runL_P _ _ h h2]
    rfl
  · rw [if_neg (by rw [h1]; decide)]
    rcases evL_cases P ev o h with e | ⟨t, x, k, ok, ho, e⟩ | ⟨u, hc, e⟩
    · rw [e, clo_pv h2 h3 h4]
    · rw [ho] at hl; cases hl
    · obtain ⟨x, hx, hn⟩ := cutX_open hc
      rw [h2 x (by simpa using hx)] at hn
      cases hn
variable {s : St} {g : An} {n : Prop}
theorem newN_run {t : TypeId} {l : List Value} {b : Nat} {qv : Value → Obj → An} (h : newN t l b qv n) : qv (.pointer (some ⟨b, 0, none⟩)) (.cells ⟨l⟩ t (0, 0)) n := by
  unfold newN at h
  rw [fN_eq] at h
  exact h
theorem sliN_run {e : TypeId} {l : List Value} {a b blk : Nat} {qv : Value → Obj → An} (h : sliN e l a b blk qv n) : qv (.slice (some ⟨blk, 0, none⟩) a b) (.cells ⟨l⟩ e (0, 0)) n := by
  unfold sliN at h
  rw [fN_eq] at h
  exact h
theorem evC_tree {ev : Operand → Value} {o : Oper} (hok : okOp P ev o.op = true) {m : Sem Value} (hm : execOp ev o = (m >>= fun v => pure (.value v))) {v : Value} {ob : Obj} {b : Nat} (e : runN P m b none = some (v, some ob)) : evC P ev o b = some (v, some ob) := by
  unfold evC
  rw [if_pos hok, hm, runN_bind, e]
  rfl
theorem armN_ok {o : Oper} (hst : statOK o = true) {b : Nat} {qv : Value → Obj → An} (h : armN o.op P s b qv g n) : g n ∨ ∃ v ob, evC P s.ev o b = some (v, some ob) ∧ qv v ob n := by
  obtain ⟨dst, op, type, pos, after, guard⟩ := o
  cases op with
  | alloc t =>
    have h : allocN t P s b qv g n := h
    unfold allocN at h
    cases hz : zrT P t with
    | none => rw [hz] at h; exact .inl h
    | some z =>
      rw [hz] at h
      dsimp only at h
      have hz' : runP P (zeroValue t) = some z := by
        unfold zeroValue
        rw [runP_bind, runP_info]
        unfold zrT at hz; (try simp only [infoQ_eq] at hz)
        cases e : P.info? t with
        | none => rw [e] at hz; cases hz
        | some i =>
          rw [e] at hz
          have hz : i.zero = some z := hz
          simp only [Option.bind]
          rw [hz]
          rfl
      have hr : ∀ l : List Value, z.cells = ⟨l⟩ → evC P s.ev ⟨dst, .alloc t, type, pos, after, guard⟩ b = some (.pointer (some ⟨b, 0, none⟩), some (.cells ⟨l⟩ t (0, 0))) := fun l hl => by
        unfold evC
        rw [if_pos (show okOp P s.ev (.alloc t) = true from rfl)]
        show valN (runN P (Instr.alloc t true (.tuple #[]) >>= fun v => pure (Next.value v)) b none) = _
        have e1 : runN P (Instr.alloc t true (.tuple #[])) b none = some (.pointer (some ⟨b, 0, none⟩), some (.cells ⟨l⟩ t (0, 0))) := by
          unfold Instr.alloc
          rw [runN_bind, runN_P _ _ b none hz']
          show runN P (newVar t z >>= fun a => pure (Value.pointer (some a))) b none = _
          unfold newVar
          rw [hl]
          rfl
        rw [runN_bind, e1]
        rfl
      rcases cellV_ok h with ⟨l, ev, h⟩ | ⟨_, h2, h⟩
      · exact .inr ⟨_, _, hr l (by rw [ev]; rfl), newN_run h⟩
      · exact .inr ⟨_, _, hr [z] h2, newN_run h⟩
  | box t x =>
    have hx : opdOK x = true := stat_op hst x (by simp [Op.operands])
    have h : boxN t x P s b qv g n := h
    unfold boxN at h
    rw [evK_eq _ _ _ hx] at h
    have hr : ∀ l : List Value, (s.ev x).cells = ⟨l⟩ → evC P s.ev ⟨dst, .box t x, type, pos, after, guard⟩ b = some (.pointer (some ⟨b, 0, none⟩), some (.cells ⟨l⟩ t (0, 0))) := fun l hl => by
      unfold evC
      rw [if_pos (show okOp P s.ev (.box t x) = true from rfl)]
      show valN (runN P (Instr.box t (s.ev x) >>= fun v => pure (Next.value v)) b none) = _
      have e1 : runN P (Instr.box t (s.ev x)) b none = some (.pointer (some ⟨b, 0, none⟩), some (.cells ⟨l⟩ t (0, 0))) := by
        unfold Instr.box newVar
        rw [hl]
        rfl
      rw [runN_bind, e1]
      rfl
    rcases cellV_ok h with ⟨l, ev, h⟩ | ⟨_, h2, h⟩
    · exact .inr ⟨_, _, hr l (by rw [ev]; rfl), newN_run h⟩
    · exact .inr ⟨_, _, hr [s.ev x] h2, newN_run h⟩
  | makeSlice t l c =>
    have hl : opdOK l = true := stat_op hst l (by simp [Op.operands])
    have hc : opdOK c = true := stat_op hst c (by simp [Op.operands])
    rcases makeG_ok hl hc (show makeG t l c P s (fun e row a b' => sliN e row a b' b qv) g n from h) with h | ⟨e, row, a, b', h1, h⟩
    · exact .inl h
    · exact .inr ⟨_, _, evC_tree (o := ⟨dst, .makeSlice t l c, type, pos, after, guard⟩) rfl rfl (sim_newN h1 b), sliN_run h⟩
  | buildSlice t len ps =>
    have hops : ∀ p ∈ ps.toList, opdOK p.2 = true := fun p hp => stat_op hst p.2 (by simp [Op.operands]; exact ⟨p.1, by simpa using hp⟩)
    rcases buildG_ok hops (show buildG t len ps P s (fun e row a b' => sliN e row a b' b qv) g n from h) with h | ⟨e, row, h1, h⟩
    · exact .inl h
    · exact .inr ⟨_, _, evC_tree (o := ⟨dst, .buildSlice t len ps, type, pos, after, guard⟩) rfl rfl (sim_newN h1 b), sliN_run h⟩
  | _ => exact .inl h
theorem armLoad_R {o : Oper} (hl : isLoad o.op = true) (hst : statOK o = true) {qv : Value → Hp → An} {qc : FuncId → Array Value → Hp → An} (h : armT o.op P s qv qc g n) : g n ∨ ∃ v, evR P s.ev o s.h = some v ∧ qv v s.h n := by
  obtain ⟨dst, op, type, pos, after, guard⟩ := o
  cases op with
  | load t a =>
    have ha : opdOK a = true := stat_op hst a (by simp [Op.operands])
    have h : armLoad t a P s qv qc g n := h
    have hm : ∀ v, runL P (Instr.loadAt t (s.ev a)) s.h = some v → evR P s.ev ⟨dst, .load t a, type, pos, after, guard⟩ s.h = some v := fun v e => by
      unfold evR
      rw [if_pos (show okOp P s.ev (.load t a) = true from rfl)]
      show valL (runL P ((Instr.loadAt t (s.ev a)).bind fun v => pure (Next.value v)) s.h) = _
      rw [runL_bind, e]
      rfl
    unfold armLoad at h
    rw [evK_eq _ _ _ ha] at h
    rcases ptrV_ok h with h | ⟨b, off, ev, h⟩
    · exact .inl h
    · rw [getH_eq, getK_eq] at h
      rcases objV_ok h with h | ⟨cs, ty, z, hg, h⟩
      · exact .inl h
      · cases ht : oneT P t with
        | true =>
          rw [ht] at h
          have h : nthK cs off (fun x => Option.rec (motive := fun _ => An) g (fun x => qv x s.h) x) n := h
          rw [nthK_eq] at h
          cases hx : cs[off]? with
          | none => rw [hx] at h; exact .inl h
          | some x =>
            rw [hx] at h
            exact .inr ⟨x, hm x (by rw [ev]; exact loadL_one ht hg hx), h⟩
        | false =>
          rw [ht] at h
          cases ha2 : aggT P t with
          | none => rw [ha2] at h; exact .inl h
          | some m =>
            rw [ha2] at h
            have h : dropK cs off (fun l => takeK l m fun l => qv (.agg ⟨l⟩) s.h) n := h
            rw [dropK_eq] at h
            obtain ⟨hl, h⟩ := takeK_ok h
            exact .inr ⟨_, hm _ (by rw [ev]; exact loadL_agg ha2 hg hl), h⟩
  | _ => cases hl
end
end Go.Proofs.YtmjblbgalkjmiaaGreat.EX
/- Regions in whatever order: what is reckoned of them, and how they are run. -/
namespace Go.Proofs.YtmjblbgalkjmiaaGreat.EX
open Go
section
variable {P : Program}
def edg (o : Oper) : List Nat := (o.after.toList.filter (Region.binds .any)).map (·.on)
def bt (m j : Nat) : Bool := Nat.beq (Nat.land (Nat.shiftRight m j) 1) 1
def maskOf (ms : List Nat) (es : List Nat) : Nat := es.foldl (fun a e => Nat.lor a (Nat.lor (ms.getD e 0) (Nat.shiftLeft 1 e))) 0
theorem bt_eq (m j : Nat) : bt m j = m.testBit j := by
  unfold bt
  rw [Nat.testBit_eq_decide_div_mod_eq]
  have e1 : Nat.land (Nat.shiftRight m j) 1 = m / 2 ^ j % 2 := by
    show (m >>> j) &&& 1 = _
    rw [Nat.and_one_is_mod, Nat.shiftRight_eq_div_pow]
  rw [e1]
  by_cases h : m / 2 ^ j % 2 = 1
  · rw [h]; rfl
  · have : Nat.beq (m / 2 ^ j % 2) 1 = false := Bool.eq_false_iff.2 fun k => h (Nat.eq_of_beq_eq_true k)
    rw [this]
    simp [h]
theorem bt_mask (ms : List Nat) (j : Nat) : ∀ (es : List Nat), bt (maskOf ms es) j = es.any fun e => bt (ms.getD e 0) j || e == j := by
  have key : ∀ (es : List Nat) (a : Nat), bt (es.foldl (fun a e => Nat.lor a (Nat.lor (ms.getD e 0) (Nat.shiftLeft 1 e))) a) j = (bt a j || es.any fun e => bt (ms.getD e 0) j || e == j) := by
    intro es
    induction es with
    | nil => intro a; simp
    | cons e es ih =>
      intro a
      rw [List.foldl_cons, ih, List.any_cons]
      have e1 : bt (Nat.lor a (Nat.lor (ms.getD e 0) (Nat.shiftLeft 1 e))) j = (bt a j || (bt (ms.getD e 0) j || e == j)) := by
        rw [bt_eq, bt_eq, bt_eq]
        show (a ||| (ms.getD e 0 ||| 1 <<< e)).testBit j = _
        rw [Nat.testBit_or, Nat.testBit_or, Nat.one_shiftLeft, Nat.testBit_two_pow]
        congr 2
      rw [e1, Bool.or_assoc]
  intro es
  unfold maskOf
  rw [key]
  have : bt 0 j = false := by rw [bt_eq]; simp
  rw [this, Bool.false_or]
/-- 0: looks at nothing; 1: reads; 2: all else. -/
def kindC (o : Oper) : Nat :=
  match o.op with
  | .move _ | .pick .. | .alloc _ | .box .. | .build .. | .buildSlice .. | .makeInterface .. | .makeFunc .. | .makeSlice .. | .makeMap .. | .fieldAddr .. | .field .. | .indexAddr .. | .extract .. | .nilCheck _ | .binOp .. | .unOp .. | .slice _ _ none _ none | .assign _ => 0
  | .slice _ _ (some _) _ none | .load .. | .convert .. | .index .. | .lookup .. | .typeAssert .. => 1
  | .call { callee := .builtin .len, .. } | .call { callee := .builtin .cap, .. } | .call { callee := .builtin .min, .. } | .call { callee := .builtin .max, .. } => 1
  | _ => 2
structure Plan where
  ms : List Nat
  ch : List Nat
def chainOf : List Oper → Nat → List Nat
  | [], _ => []
  | o :: l, i => bif Nat.beq (kindC o) 2 then i :: chainOf l (i + 1) else chainOf l (i + 1)
def masksF : List Oper → List Nat → List Nat
  | [], ms => ms
  | o :: l, ms => masksF l (ms ++ [maskOf ms (edg o)])
def planOf (l : List Oper) : Plan := ⟨masksF l [], chainOf l 0⟩
def Plan.mask (p : Plan) (i : Nat) : Nat := p.ms.getD i 0
def Plan.due (p : Plan) (k i : Nat) : Bool := ((p.ch.drop k).all fun c => !bt (p.mask i) c) && (p.ch.take k).all fun c => !bt (p.mask c) i
def Plan.mm (p : Plan) (k : Nat) : Nat := match k with | 0 => 0 | k + 1 => p.mask (p.ch.getD k 0)
def Plan.cand (p : Plan) (m k i : Nat) : List Nat := (List.range m).filter fun j => bt (p.mask i) j && !bt (p.mm k) j
def Plan.left (p : Plan) (m k : Nat) : List Nat := (List.range m).filter fun j => !bt (p.mm k) j
def Plan.isNew (p : Plan) (k i : Nat) : Bool := match k with | 0 => true | k + 1 => !p.due k i
/-- What is run at the k-th place of the chain: true: for the first time. -/
def Plan.floats (p : Plan) (l : List Oper) (k : Nat) : List (Bool × Nat × Oper) :=
  (l.zipIdx.filter fun x => !Nat.beq (kindC x.1) 2 && p.due k x.2).map fun x => (p.isNew k x.2, x.2, x.1)
/-- What must hold of a region. -/
def dstM : List Oper → Nat
  | [] => 0
  | o :: l => match o.dst with
    | some d => Nat.lor (Nat.shiftLeft 1 d) (dstM l)
    | none => dstM l
def nodupD : List Oper → Bool
  | [] => true
  | o :: l => match o.dst with
    | some d => Bool.not (bt (dstM l) d) && nodupD l
    | none => nodupD l
def dmOf (l : List Oper) : List Nat → Nat
  | [] => 0
  | e :: es => match l[e]? with
    | some o => match o.dst with
      | some d => Nat.lor (Nat.shiftLeft 1 d) (dmOf l es)
      | none => dmOf l es
    | none => dmOf l es
def oneOK (p : Plan) (ops : Array Oper) (i : Nat) (o : Oper) : Bool :=
  ((edg o).all fun e => Nat.ble (Nat.succ e) i) && Nat.beq (p.mask i) (maskOf p.ms (edg o)) && (Nat.beq (kindC o) 2 == p.ch.contains i) && (o.looksAt ops).all fun t => Bool.not (bt (dstM ops.toList) t) || bt (dmOf ops.toList (edg o)) t
def allOK (p : Plan) (ops : Array Oper) : Nat → List Oper → Bool
  | _, [] => true
  | i, o :: l => oneOK p ops i o && allOK p ops (Nat.succ i) l
def drOK (p : Plan) (ops : Array Oper) : Bool :=
  nodupD ops.toList && allOK p ops 0 ops.toList && (p.ch.all fun c => decide (c < ops.size)) && (List.range (p.ch.length - 1)).all fun k => bt (p.mask (p.ch.getD (k + 1) 0)) (p.ch.getD k 0)
theorem bt_lor (a b j : Nat) : bt (Nat.lor a b) j = (bt a j || bt b j) := by
  rw [bt_eq, bt_eq, bt_eq]
  show (a ||| b).testBit j = _
  rw [Nat.testBit_or]
theorem bt_one (d j : Nat) : bt (Nat.shiftLeft 1 d) j = decide (d = j) := by
  rw [bt_eq]
  show (1 <<< d).testBit j = _
  rw [Nat.one_shiftLeft, Nat.testBit_two_pow]
theorem bt_dstM (d : Nat) : ∀ (l : List Oper), bt (dstM l) d = true ↔ ∃ (j : Nat) (o : Oper), l[j]? = some o ∧ o.dst = some d
  | [] => by
    have : bt (dstM []) d = false := by rw [bt_eq]; simp [dstM]
    rw [this]
    simp
  | o :: l => by
    have ih := bt_dstM d l
    unfold dstM
    constructor
    · intro h
      cases e : o.dst with
      | none =>
        rw [e] at h
        obtain ⟨j, o', h1, h2⟩ := ih.1 h
        exact ⟨j + 1, o', by simpa using h1, h2⟩
      | some d' =>
        rw [e] at h
        dsimp only at h
        rw [bt_lor, bt_one, Bool.or_eq_true] at h
        rcases h with h | h
        · exact ⟨0, o, rfl, by rw [e, of_decide_eq_true h]⟩
        · obtain ⟨j, o', h1, h2⟩ := ih.1 h
          exact ⟨j + 1, o', by simpa using h1, h2⟩
    · rintro ⟨j, o', h1, h2⟩
      cases j with
      | zero =>
        cases h1
        rw [h2]
        dsimp only
        rw [bt_lor, bt_one]
        simp
      | succ j =>
        have := ih.2 ⟨j, o', by simpa using h1, h2⟩
        cases e : o.dst with
        | none => exact this
        | some d' =>
          dsimp only
          rw [bt_lor, this, Bool.or_true]
theorem nodup_ok : ∀ (l : List Oper), nodupD l = true → ∀ (i j : Nat) (o o' : Oper) (d : Tmp), l[i]? = some o → l[j]? = some o' → o.dst = some d → o'.dst = some d → i = j
  | [], _, i, j, o, o', d, h1, _, _, _ => by simp at h1
  | x :: l, h, i, j, o, o', d, h1, h2, h3, h4 => by
    unfold nodupD at h
    have hl : nodupD l = true := by
      cases e : x.dst with
      | none => rw [e] at h; exact h
      | some d' => rw [e] at h; simp only [Bool.and_eq_true] at h; exact h.2
    have ih := nodup_ok l hl
    have no : ∀ (k : Nat) (y : Oper), x.dst = some d → l[k]? = some y → y.dst = some d → False := fun k y e hy hd => by
      rw [e] at h
      simp only [Bool.and_eq_true, Bool.not_eq_true'] at h
      have := (bt_dstM d l).2 ⟨k, y, hy, hd⟩
      rw [h.1] at this
      cases this
    cases i with
    | zero =>
      cases h1
      cases j with
      | zero => rfl
      | succ j => exact (no j o' h3 (by simpa using h2) h4).elim
    | succ i =>
      cases j with
      | zero => cases h2; exact (no i o h4 (by simpa using h1) h3).elim
      | succ j => rw [ih i j o o' d (by simpa using h1) (by simpa using h2) h3 h4]
theorem bt_dmOf (l : List Oper) (d : Nat) : ∀ (es : List Nat), bt (dmOf l es) d = true → ∃ e ∈ es, ∃ o, l[e]? = some o ∧ o.dst = some d
  | [], h => by
    have : bt (dmOf l []) d = false := by rw [bt_eq]; simp [dmOf]
    rw [this] at h
    cases h
  | e :: es, h => by
    have ih := bt_dmOf l d es
    have up : bt (dmOf l es) d = true → ∃ e' ∈ e :: es, ∃ o, l[e']? = some o ∧ o.dst = some d := fun k => by
      obtain ⟨e', h1, h2⟩ := ih k
      exact ⟨e', by simp [h1], h2⟩
    unfold dmOf at h
    cases q : l[e]? with
    | none => rw [q] at h; exact up h
    | some o =>
      rw [q] at h
      dsimp only at h
      cases q2 : o.dst with
      | none => rw [q2] at h; exact up h
      | some d' =>
        rw [q2] at h
        dsimp only at h
        rw [bt_lor, bt_one, Bool.or_eq_true] at h
        rcases h with h | h
        · exact ⟨e, by simp, o, q, by rw [q2, of_decide_eq_true h]⟩
        · exact up h
theorem allOK_at {p : Plan} {ops : Array Oper} : ∀ (l : List Oper) (k : Nat), allOK p ops k l = true → ∀ (i : Nat) (o : Oper), l[i]? = some o → oneOK p ops (k + i) o = true
  | [], _, _, i, o, h => by simp at h
  | x :: l, k, h, i, o, ho => by
    unfold allOK at h
    simp only [Bool.and_eq_true] at h
    cases i with
    | zero => cases ho; exact h.1
    | succ i =>
      have := allOK_at l (k + 1) h.2 i o (by simpa using ho)
      have e : k + 1 + i = k + (i + 1) := by omega
      rwa [e] at this
def heapF (n0 : Nat) (al : T Obj) (js : List Nat) (H : T Obj) : T Obj := js.foldl (fun H j => match al.get j with | some o => H.set (2 * (n0 + j)) (some o) | none => H) H
theorem heapF_no (n0 : Nat) (al : T Obj) (b : Nat) : ∀ (js : List Nat) (H : T Obj), (∀ j ∈ js, b = 2 * (n0 + j) → al.get j = none) → (heapF n0 al js H).get b = H.get b
  | [], H, _ => rfl
  | j :: js, H, h => by
    have ih := heapF_no n0 al b js (match al.get j with | some o => H.set (2 * (n0 + j)) (some o) | none => H) fun i hi => h i (by simp [hi])
    refine Eq.trans ih ?_
    cases e : al.get j with
    | none => rfl
    | some o =>
      simp only [T.get_set]
      rw [if_neg]
      intro q
      rw [h j (by simp) q] at e
      cases e
theorem heapF_yes (n0 : Nat) (al : T Obj) (j : Nat) (o : Obj) (ho : al.get j = some o) : ∀ (js : List Nat) (H : T Obj), j ∈ js → (heapF n0 al js H).get (2 * (n0 + j)) = some o
  | [], H, h => by cases h
  | i :: js, H, h => by
    by_cases hj : j ∈ js
    · exact heapF_yes n0 al j o ho js _ hj
    · have hi : j = i := by simp at h; rcases h with h | h
                            · exact h
                            · exact absurd h hj
      subst hi
      refine Eq.trans (heapF_no n0 al _ js _ fun i hi q => absurd (by omega : j = i) fun e => hj (e ▸ hi)) ?_
      dsimp only
      rw [ho]
      simp only [T.get_set, if_pos]
def heapK (n0 : Nat) (al : T Obj) (js : List Nat) : T Obj → (T Obj → An) → An :=
  List.rec (motive := fun _ => T Obj → (T Obj → An) → An) (fun H q => q H) (fun j _ ih H q => getK (path j) al fun o => match o with
    | some o => fN (Nat.mul 2 (Nat.add n0 j)) fun b => setK (path b) (some o) H fun H => ih H q
    | none => ih H q) js
theorem heapK_eq (n0 : Nat) (al : T Obj) : ∀ (js : List Nat) (H : T Obj) (q : T Obj → An), heapK n0 al js H q = q (heapF n0 al js H)
  | [], _, _ => rfl
  | j :: js, H, q => by
    refine (getK_eq _ _ _).trans ?_
    have ih := fun H => heapK_eq n0 al js H q
    unfold heapF
    rw [List.foldl_cons]
    cases al.get j with
    | none => exact ih H
    | some o =>
      dsimp only
      rw [fN_eq, setK_eq]
      exact ih _
/-- Values that are the same. -/
def eqL (f : Value → Value → Bool) : List Value → List Value → Bool
  | [], [] => true
  | x :: s, y :: t => f x y && eqL f s t
  | _, _ => false
def eqA (a b : Addr) : Bool := Nat.beq a.block b.block && Nat.beq a.off b.off && a.spot.isNone && b.spot.isNone
def eqV : Nat → Value → Value → Bool
  | 0, _, _ => false
  | n + 1, x, y => match x, y with
    | .bool a, .bool b => a == b
    | .int k a, .int l b => Nat.beq (kno k) (kno l) && a == b
    | .string a, .string b => decide (a = b)
    | .pointer none, .pointer none => true
    | .pointer (some a), .pointer (some b) => eqA a b
    | .slice none n c, .slice none m d => Nat.beq n m && Nat.beq c d
    | .slice (some a) n c, .slice (some b) m d => eqA a b && Nat.beq n m && Nat.beq c d
    | .map none, .map none => true
    | .map (some a), .map (some b) => Nat.beq a b
    | .nilFunc, .nilFunc => true
    | .nilIface, .nilIface => true
    | .iface t x, .iface u y => Nat.beq t u && eqV n x y
    | .agg a, .agg b => eqL (eqV n) a.toList b.toList
    | .tuple a, .tuple b => eqL (eqV n) a.toList b.toList
    | _, _ => false
theorem eqL_ok {f : Value → Value → Bool} (hf : ∀ x y, f x y = true → x = y) : ∀ (a b : List Value), eqL f a b = true → a = b
  | [], [], _ => rfl
  | x :: s, y :: t, h => by
    simp only [eqL, Bool.and_eq_true] at h
    rw [hf x y h.1, eqL_ok hf s t h.2]
  | [], _ :: _, h => by simp [eqL] at h
  | _ :: _, [], h => by simp [eqL] at h
theorem eqA_ok {a b : Addr} (h : eqA a b = true) : a = b := by
  obtain ⟨a1, a2, a3⟩ := a
  obtain ⟨b1, b2, b3⟩ := b
  simp only [eqA, Bool.and_eq_true] at h
  obtain ⟨⟨⟨h1, h2⟩, h3⟩, h4⟩ := h
  have e1 := Nat.eq_of_beq_eq_true h1
  have e2 := Nat.eq_of_beq_eq_true h2
  cases a3 <;> cases b3 <;> simp_all
theorem eqV_ok : ∀ (n : Nat) (x y : Value), eqV n x y = true → x = y := by
  intro n
  induction n with
  | zero => intro x y h; cases h
  | succ n ih =>
    intro x y h
    unfold eqV at h
    split at h
    · rw [eq_of_beq h]
    · simp only [Bool.and_eq_true] at h
      rw [kno_inj h.1, eq_of_beq h.2]
    · rw [of_decide_eq_true h]
    · rfl
    · rw [eqA_ok h]
    · simp only [Bool.and_eq_true] at h
      rw [Nat.eq_of_beq_eq_true h.1, Nat.eq_of_beq_eq_true h.2]
    · simp only [Bool.and_eq_true] at h
      rw [eqA_ok h.1.1, Nat.eq_of_beq_eq_true h.1.2, Nat.eq_of_beq_eq_true h.2]
    · rfl
    · rw [Nat.eq_of_beq_eq_true h]
    · rfl
    · rfl
    · simp only [Bool.and_eq_true] at h
      rw [Nat.eq_of_beq_eq_true h.1, ih _ _ h.2]
    · have := eqL_ok ih _ _ h
      rw [Array.toList_inj.1 this]
    · have := eqL_ok ih _ _ h
      rw [Array.toList_inj.1 this]
    · cases h
end
end Go.Proofs.YtmjblbgalkjmiaaGreat.EX
