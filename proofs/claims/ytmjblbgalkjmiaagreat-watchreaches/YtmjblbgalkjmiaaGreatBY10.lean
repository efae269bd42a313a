/- Regions in whatever order: the run, and what each part of it says. -/
import Derived.Test.YtmjblbgalkjmiaaGreatBY9
namespace Go.Proofs.YtmjblbgalkjmiaaGreat.EX
open Go
section
variable {P : Program}
/-- Whether two values are the same. -/
def eqF (v u : Value) (y : An) : An :=
  intV v (fun k a => intV u (fun k' b => Bool.rec (motive := fun _ => An) FF (Bool.rec (motive := fun _ => An) FF y (Nat.beq a b)) (Nat.beq (kno k) (kno k'))) (bif eqV 64 v u then y else FF))
    (ptrV v (fun b o => ptrV u (fun b' o' => Bool.rec (motive := fun _ => An) FF (Bool.rec (motive := fun _ => An) FF y (Nat.beq o o')) (Nat.beq b b')) (bif eqV 64 v u then y else FF)) (bif eqV 64 v u then y else FF))
/-- An operation that floats, in its slow way. -/
def slowN (P : Program) (n0 : Nat) (s : St) (i : Nat) (o : Oper) (al : T Obj) (q : St → T Obj → An) : An :=
  opdsK s o.op.operands.toList (fun _ => undef) fun acc => match evC P (rho acc) o (2 * (n0 + i)) with
    | some (v, none) => fV v fun v => putK s o.dst v fun s1 => setK (path i) none al fun al => q s1 al
    | some (v, some ob) => fV v fun v => fO ob fun ob => putK s o.dst v fun s1 => setK (path i) (some ob) al fun al => q s1 al
    | none => FF
def slowR (P : Program) (s : St) (o : Oper) (h : Hp) (f : Value → An) : An :=
  opdsK s o.op.operands.toList (fun _ => undef) fun acc => match evR P (rho acc) o h with
    | some v => fV v f
    | none => FF
def kN (s : St) (i : Nat) (o : Oper) (al : T Obj) (q : St → T Obj → An) (v : Value) (ob : Option Obj) : An := putK s o.dst v fun s1 => setK (path i) ob al fun al => q s1 al
/-- What an operation that reads answers. -/
def readF (P : Program) (s : St) (o : Oper) (h : Hp) (f : Value → An) : An :=
  Bool.rec (motive := fun _ => An) (slowR P s o h f) (withH s h fun s => armT o.op P s (fun v _ => f v) (fun _ _ _ => FF) (slowR P s o h f)) (isLoad o.op || pureOp o.op)
def newF (P : Program) (n0 : Nat) (s : St) (i : Nat) (o : Oper) (al : T Obj) (q : St → T Obj → An) : An :=
  Bool.rec (motive := fun _ => An) (armN o.op P s (Nat.mul 2 (Nat.add n0 i)) (fun v ob => kN s i o al q v (some ob)) (slowN P n0 s i o al q)) (armT o.op P s (fun v _ => kN s i o al q v none) (fun _ _ _ => FF) (slowN P n0 s i o al q)) (pureOp o.op)
def newK (P : Program) (n0 m : Nat) (l : List Oper) (p : Plan) (k i : Nat) (o : Oper) (s : St) (al : T Obj) (q : St → T Obj → An) : An :=
  wantK s l o fun w => bif w then bif statOK o then
      bif Nat.beq (kindC o) 0 then newF P n0 s i o al q
      else getH s fun sh => heapK n0 al (p.cand m k i) sh.t fun X => withT sh X fun h => readF P s o h fun v => kN s i o al q v none
    else FF
  else kN s i o al q undef none
def reK (P : Program) (n0 m : Nat) (l : List Oper) (p : Plan) (k i : Nat) (o : Oper) (s : St) (al : T Obj) (q : St → T Obj → An) : An :=
  bif Nat.beq (kindC o) 1 then wantK s l o fun w => bif w then bif statOK o then getH s fun sh => heapK n0 al (p.cand m k i) sh.t fun X => withT sh X fun h => readF P s o h fun v => match o.dst with
        | some d => getK (path d) s.tm fun u => Option.rec (motive := fun _ => An) FF (fun u => eqF v u (q s al)) u
        | none => q s al
      else FF
    else q s al
  else q s al
def settleK (P : Program) (n0 m : Nat) (l : List Oper) (p : Plan) (k : Nat) (xs : List (Bool × Nat × Oper)) : St → T Obj → (St → T Obj → An) → An :=
  List.rec (motive := fun _ => St → T Obj → (St → T Obj → An) → An) (fun s al q => q s al)
    (fun x _ ih s al q => Bool.rec (reK P n0 m l p k x.2.1 x.2.2 s al fun s al => ih s al q) (newK P n0 m l p k x.2.1 x.2.2 s al fun s al => ih s al q) x.1) xs
/-- The operation of the chain. -/
def chK (P : Program) (call : FuncId → Array Value → Hp → (Value → Hp → An) → An) (n0 m : Nat) (l : List Oper) (p : Plan) (k : Nat) (s : St) (al : T Obj) (q : St → An) : An :=
  match l[p.ch.getD k 0]? with
  | some o => getH s fun sh => heapK n0 al (p.cand m k (p.ch.getD k 0)) sh.t fun X => withT sh X fun h => withH s h fun s => oneK P call l o s q
  | none => FF
def restK (P : Program) (call : FuncId → Array Value → Hp → (Value → Hp → An) → An) (n0 m : Nat) (l : List Oper) (p : Plan) (ks : List Nat) : St → T Obj → (St → An) → An :=
  List.rec (motive := fun _ => St → T Obj → (St → An) → An) (fun s al q => getH s fun sh => heapK n0 al (p.left m p.ch.length) sh.t fun X => withT sh X fun h => withH s h fun s => q s)
    (fun k _ ih s al q => chK P call n0 m l p k s al fun s1 => settleK P n0 m l p (k + 1) (p.floats l (k + 1)) s1 al fun s2 al2 => ih s2 al2 q) ks
def drawK (P : Program) (call : FuncId → Array Value → Hp → (Value → Hp → An) → An) (ops : Array Oper) (s : St) (q : St → An) : An :=
  bif drOK (planOf ops.toList) ops then getH s fun sh => fN sh.n fun n0 => fN (Nat.add n0 ops.size) fun n => withH s ⟨sh.t, n⟩ fun s => settleK P n0 ops.size ops.toList (planOf ops.toList) 0 ((planOf ops.toList).floats ops.toList 0) s .leaf fun s1 al => restK P call n0 ops.size ops.toList (planOf ops.toList) (List.range (planOf ops.toList).ch.length) s1 al q else FF
/-- A slot holds what an operation told. -/
def Slot (s : St) (o : Oper) (v : Value) : Prop := ∀ d, o.dst = some d → d < s.nt ∧ (s.tm.get d).getD undef = v
/-- What was told, for whatever heap. -/
def Pre (P : Program) (n0 : Nat) (l : List Oper) (s : St) (i : Nat) (o : Oper) (v : Value) (ob : Option Obj) : Prop :=
  (Region.wanted o (yieldT s l) = false ∧ v = undef ∧ ob = none) ∨ (Region.wanted o (yieldT s l) = true ∧ statOK o = true ∧ kindC o = 0 ∧ evC P s.ev o (2 * (n0 + i)) = some (v, ob)) ∨ (Region.wanted o (yieldT s l) = true ∧ statOK o = true ∧ kindC o ≠ 0 ∧ ob = none)
def PreOK (P : Program) (n0 : Nat) (l : List Oper) (s : St) (al : T Obj) (i : Nat) (o : Oper) : Prop := ∃ v ob, Pre P n0 l s i o v ob ∧ Slot s o v ∧ al.get i = ob
def ReadOK (P : Program) (n0 m : Nat) (l : List Oper) (p : Plan) (k : Nat) (s : St) (al : T Obj) (i : Nat) (o : Oper) : Prop :=
  Region.wanted o (yieldT s l) = true → kindC o = 1 → ∃ v, evR P s.ev o ⟨heapF n0 al (p.cand m k i) s.h.t, s.h.n⟩ = some v ∧ ∀ d, o.dst = some d → (s.tm.get d).getD undef = v
/-- Two states that an operation can't tell apart. -/
def Same (l : List Oper) (o : Oper) (s s' : St) : Prop := s'.nt = s.nt ∧ ∀ t ∈ o.looksAt l.toArray, s'.tm.get t = s.tm.get t
theorem Same.ev {l : List Oper} {o : Oper} {s s' : St} (h : Same l o s s') : ∀ x ∈ o.op.operands, s'.ev x = s.ev x := fun x hx => by
  cases x with
  | tmp t =>
    simp only [St.ev]
    rw [h.2 t (List.mem_append_left _ (List.mem_filterMap.2 ⟨.tmp t, by simpa using hx, rfl⟩))]
  | _ => rfl
theorem Same.wanted {l : List Oper} {o : Oper} {s s' : St} (h : Same l o s s') : Region.wanted o (yieldT s' l) = Region.wanted o (yieldT s l) := by
  unfold Region.wanted
  cases hg : o.guard with
  | none => rfl
  | some g =>
    obtain ⟨j, w⟩ := g
    have : yieldT s' l j = yieldT s l j := by
      unfold yieldT
      cases hd : (l[j]?).bind (·.dst) with
      | none => rfl
      | some d =>
        dsimp only
        rw [h.1, h.2 d (List.mem_append_right _ (by rw [hg]; simp [hd]))]
    dsimp only
    rw [this]
theorem Pre.same {n0 : Nat} {l : List Oper} {s s' : St} {i : Nat} {o : Oper} {v : Value} {ob : Option Obj} (h : Same l o s s') (k : Pre P n0 l s i o v ob) : Pre P n0 l s' i o v ob := by
  unfold Pre at *
  rw [h.wanted]
  rcases k with k | ⟨k1, k2, k3, k4⟩ | k
  · exact .inl k
  · refine .inr (.inl ⟨k1, k2, k3, ?_⟩)
    have hs : noSel o.op = true := by unfold statOK at k2; simp only [Bool.and_eq_true] at k2; exact k2.2
    rw [evC_congr o _ hs h.ev]
    exact k4
  · exact .inr (.inr k)
theorem ev_rho (s : St) (o : Oper) : ∀ x ∈ o.op.operands, rho (accOf s o.op.operands.toList fun _ => undef) x = s.ev x := fun x hx => rho_eq s _ _ x (by simpa using hx)
theorem stat_noSel {o : Oper} (h : statOK o = true) : noSel o.op = true := by unfold statOK at h; simp only [Bool.and_eq_true] at h; exact h.2
theorem eqF_ok {v u : Value} {y : An} {N : Prop} (h : eqF v u y N) : v = u ∧ y N := by
  have slow : (bif eqV 64 v u then y else FF) N → v = u ∧ y N := fun h => by
    cases e : eqV 64 v u with
    | true => rw [e] at h; exact ⟨eqV_ok 64 v u e, h⟩
    | false => rw [e] at h; exact h.elim
  have bb : ∀ (x z : Bool), Bool.rec (motive := fun _ => An) FF (Bool.rec (motive := fun _ => An) FF y x) z N → x = true ∧ z = true ∧ y N := fun x z h => by
    cases z with
    | false => exact h.elim
    | true =>
      cases x with
      | false => exact h.elim
      | true => exact ⟨rfl, rfl, h⟩
  unfold eqF at h
  rcases intV_ok h with h2 | ⟨k, a, e1, h2⟩
  · rcases ptrV_ok h2 with h3 | ⟨b, o, e1, h3⟩
    · exact slow h3
    · rcases ptrV_ok h3 with h4 | ⟨b', o', e2, h4⟩
      · exact slow h4
      · obtain ⟨q1, q2, q3⟩ := bb _ _ h4
        rw [e1, e2, Nat.eq_of_beq_eq_true q2, Nat.eq_of_beq_eq_true q1]
        exact ⟨rfl, q3⟩
  · rcases intV_ok h2 with h3 | ⟨k', b, e2, h3⟩
    · exact slow h3
    · obtain ⟨q1, q2, q3⟩ := bb _ _ h3
      rw [e1, e2, kno_inj q2, Nat.eq_of_beq_eq_true q1]
      exact ⟨rfl, q3⟩
theorem kN_ok {s : St} {i : Nat} {o : Oper} {al : T Obj} {q : St → T Obj → An} {v : Value} {ob : Option Obj} {N : Prop} (h : kN s i o al q v ob N) : ∃ s1, s.put o.dst v = some s1 ∧ q s1 (al.set i ob) N := by
  unfold kN at h
  obtain ⟨s1, h1, h2⟩ := putK_some h
  rw [setK_eq] at h2
  exact ⟨s1, h1, h2⟩
theorem slowN_ok {n0 i : Nat} {o : Oper} {s : St} {al : T Obj} {q : St → T Obj → An} {N : Prop} (hst : statOK o = true) (h : slowN P n0 s i o al q N) : ∃ v ob, evC P s.ev o (2 * (n0 + i)) = some (v, ob) ∧ kN s i o al q v ob N := by
  unfold slowN at h
  rw [opdsK_eq, evC_congr o _ (stat_noSel hst) (ev_rho s o)] at h
  cases he : evC P s.ev o (2 * (n0 + i)) with
  | none => rw [he] at h; exact h.elim
  | some x =>
    obtain ⟨v, ob⟩ := x
    rw [he] at h
    cases ob with
    | none =>
      dsimp only at h
      rw [fV_eq] at h
      exact ⟨v, none, rfl, h⟩
    | some ob =>
      dsimp only at h
      rw [fV_eq, fO_eq] at h
      exact ⟨v, some ob, rfl, h⟩
theorem newF_ok {n0 i : Nat} {o : Oper} {s : St} {al : T Obj} {q : St → T Obj → An} {N : Prop} (hst : statOK o = true) (h : newF P n0 s i o al q N) : ∃ v ob, evC P s.ev o (2 * (n0 + i)) = some (v, ob) ∧ kN s i o al q v ob N := by
  unfold newF at h
  cases hp : pureOp o.op with
  | true =>
    rw [hp] at h
    rcases armT_pv hp hst h with h | ⟨v, h1, h2⟩
    · exact slowN_ok hst h
    · exact ⟨v, none, evC_pv _ h1, h2⟩
  | false =>
    rw [hp] at h
    rcases armN_ok hst h with h | ⟨v, ob, h1, h2⟩
    · exact slowN_ok hst h
    · exact ⟨v, some ob, h1, h2⟩
theorem slowR_ok {o : Oper} {s : St} {hp : Hp} {f : Value → An} {N : Prop} (hst : statOK o = true) (h : slowR P s o hp f N) : ∃ v, evR P s.ev o hp = some v ∧ f v N := by
  unfold slowR at h
  rw [opdsK_eq, evR_congr o _ (stat_noSel hst) (ev_rho s o)] at h
  cases he : evR P s.ev o hp with
  | none => rw [he] at h; exact h.elim
  | some v =>
    rw [he] at h
    dsimp only at h
    rw [fV_eq] at h
    exact ⟨v, rfl, h⟩
theorem readF_ok {o : Oper} {s : St} {hp' : Hp} {f : Value → An} {N : Prop} (hst : statOK o = true) (h : readF P s o hp' f N) : ∃ v, evR P s.ev o hp' = some v ∧ f v N := by
  unfold readF at h
  cases hl : isLoad o.op with
  | false =>
    cases hp : pureOp o.op with
    | false => rw [hl, hp] at h; exact slowR_ok hst h
    | true =>
      rw [hl, hp] at h
      have h : withH s hp' (fun s => armT o.op P s (fun v _ => f v) (fun _ _ _ => FF) (slowR P s o hp' f)) N := h
      rw [withH_eq] at h
      rcases armT_pv hp hst h with h | ⟨v, h1, h2⟩
      · exact slowR_ok hst h
      · exact ⟨v, evR_pv hp' h1 (pure_app hp).2, h2⟩
  | true =>
    rw [hl] at h
    have h : withH s hp' (fun s => armT o.op P s (fun v _ => f v) (fun _ _ _ => FF) (slowR P s o hp' f)) N := h
    rw [withH_eq] at h
    rcases armLoad_R hl hst h with h | ⟨v, h1, h2⟩
    · exact slowR_ok hst h
    · exact ⟨v, h1, h2⟩
theorem newK_ok {n0 m : Nat} {l : List Oper} {p : Plan} {k i : Nat} {o : Oper} {s : St} {al : T Obj} {q : St → T Obj → An} {N : Prop} (h : newK P n0 m l p k i o s al q N) :
    ∃ s1 v ob, s.put o.dst v = some s1 ∧ q s1 (al.set i ob) N ∧ Pre P n0 l s i o v ob ∧ (Region.wanted o (yieldT s l) = true → kindC o = 1 → evR P s.ev o ⟨heapF n0 al (p.cand m k i) s.h.t, s.h.n⟩ = some v) := by
  unfold newK at h
  rw [wantK_eq] at h
  cases hw : Region.wanted o (yieldT s l) with
  | false =>
    rw [hw] at h
    dsimp only [cond] at h
    obtain ⟨s1, h1, h2⟩ := kN_ok h
    exact ⟨s1, undef, none, h1, h2, .inl ⟨hw, rfl, rfl⟩, fun e => by cases e⟩
  | true =>
    rw [hw] at h
    dsimp only [cond] at h
    cases hst : statOK o with
    | false => rw [hst] at h; exact h.elim
    | true =>
      rw [hst] at h
      dsimp only at h
      cases hk : Nat.beq (kindC o) 0 with
      | true =>
        rw [hk] at h
        have hk0 := Nat.eq_of_beq_eq_true hk
        obtain ⟨v, ob, he, h⟩ := newF_ok hst h
        obtain ⟨s1, h1, h2⟩ := kN_ok h
        exact ⟨s1, v, ob, h1, h2, .inr (.inl ⟨hw, hst, hk0, he⟩), fun _ e => by omega⟩
      | false =>
        rw [hk] at h
        dsimp only at h
        rw [getH_eq, heapK_eq, withT_eq] at h
        have hk0 : kindC o ≠ 0 := fun e => by rw [e] at hk; cases hk
        obtain ⟨v, he, h⟩ := readF_ok hst h
        obtain ⟨s1, h1, h2⟩ := kN_ok h
        exact ⟨s1, v, none, h1, h2, .inr (.inr ⟨hw, hst, hk0, rfl⟩), fun _ _ => he⟩
theorem reK_cases {n0 m : Nat} {l : List Oper} {p : Plan} {k i : Nat} {o : Oper} {s : St} {al : T Obj} {q : St → T Obj → An} {N : Prop} (h : reK P n0 m l p k i o s al q N) : q s al N ∧ (kindC o ≠ 1 ∨ Region.wanted o (yieldT s l) = false ∨ ∃ v, evR P s.ev o ⟨heapF n0 al (p.cand m k i) s.h.t, s.h.n⟩ = some v ∧ ∀ d, o.dst = some d → (s.tm.get d).getD undef = v) := by
  unfold reK at h
  cases hk : Nat.beq (kindC o) 1 with
  | false => rw [hk] at h; exact ⟨h, .inl fun e => by rw [e] at hk; cases hk⟩
  | true =>
    rw [hk] at h
    dsimp only [cond] at h
    rw [wantK_eq] at h
    cases hw : Region.wanted o (yieldT s l) with
    | false => rw [hw] at h; exact ⟨h, .inr (.inl rfl)⟩
    | true =>
      rw [hw] at h
      dsimp only at h
      cases hst : statOK o with
      | false => rw [hst] at h; exact h.elim
      | true =>
        rw [hst] at h
        dsimp only at h
        rw [getH_eq, heapK_eq, withT_eq] at h
        obtain ⟨v, he, h⟩ := readF_ok hst h
        cases hd : o.dst with
        | none => rw [hd] at h; exact ⟨h, .inr (.inr ⟨v, he, fun d e => by cases e⟩)⟩
        | some d =>
          rw [hd] at h
          dsimp only at h
          rw [getK_eq] at h
          cases hu : s.tm.get d with
          | none => rw [hu] at h; exact h.elim
          | some u =>
            rw [hu] at h
            dsimp only at h
            obtain ⟨e1, h⟩ := eqF_ok h
            refine ⟨h, .inr (.inr ⟨v, he, fun d' e => ?_⟩)⟩
            cases e
            rw [hu]
            exact e1.symm
theorem reK_ok {n0 m : Nat} {l : List Oper} {p : Plan} {k i : Nat} {o : Oper} {s : St} {al : T Obj} {q : St → T Obj → An} {N : Prop} (_hp : PreOK P n0 l s al i o) (h : reK P n0 m l p k i o s al q N) : q s al N ∧ ReadOK P n0 m l p k s al i o := by
  obtain ⟨h1, h2⟩ := reK_cases h
  refine ⟨h1, fun e1 e2 => ?_⟩
  rcases h2 with h2 | h2 | h2
  · exact absurd e2 h2
  · rw [e1] at h2; cases h2
  · exact h2
theorem newK_th {n0 m : Nat} {l : List Oper} {p : Plan} {k i : Nat} {o : Oper} {s : St} {al : T Obj} {q : St → T Obj → An} (hq : ∀ s al N, q s al N → N) {N : Prop} (h : newK P n0 m l p k i o s al q N) : N := by
  obtain ⟨s1, v, ob, _, h, _⟩ := newK_ok h
  exact hq _ _ _ h
theorem reK_th {n0 m : Nat} {l : List Oper} {p : Plan} {k i : Nat} {o : Oper} {s : St} {al : T Obj} {q : St → T Obj → An} (hq : ∀ s al N, q s al N → N) {N : Prop} (h : reK P n0 m l p k i o s al q N) : N := hq _ _ _ (reK_cases h).1
theorem settleK_th {n0 m : Nat} {l : List Oper} {p : Plan} {k : Nat} {q : St → T Obj → An} (hq : ∀ s al N, q s al N → N) : ∀ (xs : List (Bool × Nat × Oper)) (s : St) (al : T Obj) (N : Prop), settleK P n0 m l p k xs s al q N → N
  | [], _, _, _, h => hq _ _ _ h
  | (false, i, o) :: xs, s, al, N, h => by
    have h' : reK P n0 m l p k i o s al (fun s al => settleK P n0 m l p k xs s al q) N := h
    exact reK_th (fun s al N h => settleK_th hq xs s al N h) h'
  | (true, i, o) :: xs, s, al, N, h => by
    have h' : newK P n0 m l p k i o s al (fun s al => settleK P n0 m l p k xs s al q) N := h
    exact newK_th (fun s al N h => settleK_th hq xs s al N h) h'
theorem chK_th (hz : Zc P) {call : FuncId → Array Value → Hp → (Value → Hp → An) → An} (hct : CallTh call) {n0 m : Nat} {l : List Oper} {p : Plan} {k : Nat} {s : St} {al : T Obj} {q : St → An} (hq : Th1 q) {N : Prop} (h : chK P call n0 m l p k s al q N) : N := by
  unfold chK at h
  cases he : l[p.ch.getD k 0]? with
  | none => rw [he] at h; exact h.elim
  | some o =>
    rw [he] at h
    dsimp only at h
    rw [getH_eq, heapK_eq, withT_eq, withH_eq] at h
    exact oneK_th hz hct hq h
theorem restK_th (hz : Zc P) {call : FuncId → Array Value → Hp → (Value → Hp → An) → An} (hct : CallTh call) {n0 m : Nat} {l : List Oper} {p : Plan} {q : St → An} (hq : Th1 q) : ∀ (ks : List Nat) (s : St) (al : T Obj) (N : Prop), restK P call n0 m l p ks s al q N → N
  | [], s, al, N, h => by
    have h' : heapK n0 al (p.left m p.ch.length) s.h.t (fun X => q ⟨s.tm, s.nt, s.ds, ⟨X, s.h.n⟩⟩) N := h
    rw [heapK_eq] at h'
    exact hq _ _ h'
  | k :: ks, s, al, N, h => by
    have h' : chK P call n0 m l p k s al (fun s1 => settleK P n0 m l p (k + 1) (p.floats l (k + 1)) s1 al fun s2 al2 => restK P call n0 m l p ks s2 al2 q) N := h
    exact chK_th hz hct (fun s1 N h => settleK_th (fun s2 al2 N h => restK_th hz hct hq ks s2 al2 N h) _ _ _ _ h) h'
theorem drawK_th (hz : Zc P) {call : FuncId → Array Value → Hp → (Value → Hp → An) → An} (hct : CallTh call) {ops : Array Oper} {s : St} {q : St → An} (hq : Th1 q) {N : Prop} (h : drawK P call ops s q N) : N := by
  unfold drawK at h
  cases hd : drOK (planOf ops.toList) ops with
  | false => rw [hd] at h; exact h.elim
  | true =>
    rw [hd] at h
    dsimp only [cond] at h
    rw [getH_eq, fN_eq, fN_eq, withH_eq] at h
    exact settleK_th (fun s1 al N h => restK_th hz hct hq _ _ _ _ h) _ _ _ _ h
end
end Go.Proofs.YtmjblbgalkjmiaaGreat.EX
/- Regions in whatever order: what the check says, and floating operations settled. -/
namespace Go.Proofs.YtmjblbgalkjmiaaGreat.EX
open Go
section
variable {P : Program}
/-- What the check says. -/
structure DrOK (p : Plan) (ops : Array Oper) : Prop where
  back : ∀ (i : Nat) (o : Oper), ops[i]? = some o → ∀ e ∈ edg o, e < i
  mask : ∀ (i : Nat) (o : Oper), ops[i]? = some o → p.mask i = maskOf p.ms (edg o)
  kind : ∀ (i : Nat) (o : Oper), ops[i]? = some o → (kindC o = 2 ↔ i ∈ p.ch)
  looks : ∀ (i : Nat) (o : Oper) (j : Nat) (o' : Oper) (d : Tmp), ops[i]? = some o → ops[j]? = some o' → o'.dst = some d → d ∈ o.looksAt ops → j ∈ edg o
  dst : ∀ (i : Nat) (o : Oper) (j : Nat) (o' : Oper) (d : Tmp), ops[i]? = some o → ops[j]? = some o' → o'.dst = some d → o.dst = some d → i = j
  lt : ∀ c ∈ p.ch, c < ops.size
  chain : ∀ k, k + 1 < p.ch.length → bt (p.mask (p.ch.getD (k + 1) 0)) (p.ch.getD k 0) = true
theorem mem_zipIdx {ops : Array Oper} {i : Nat} {o : Oper} (h : ops[i]? = some o) : (o, i) ∈ ops.toList.zipIdx := by
  rw [List.mem_zipIdx_iff_getElem?]
  simpa using h
theorem drOK_ok {p : Plan} {ops : Array Oper} (h : drOK p ops = true) : DrOK p ops := by
  unfold drOK at h
  simp only [Bool.and_eq_true] at h
  obtain ⟨⟨⟨h0, h1⟩, h2⟩, h3⟩ := h
  have at_ : ∀ (i : Nat) (o : Oper), ops[i]? = some o → ops.toList[i]? = some o := fun i o h => by simpa using h
  have key : ∀ (i : Nat) (o : Oper), ops[i]? = some o → (((((edg o).all fun e => Nat.ble (Nat.succ e) i) = true ∧ Nat.beq (p.mask i) (maskOf p.ms (edg o)) = true) ∧ (Nat.beq (kindC o) 2 == p.ch.contains i) = true) ∧ ((o.looksAt ops).all fun t => Bool.not (bt (dstM ops.toList) t) || bt (dmOf ops.toList (edg o)) t) = true) := fun i o ho => by
    have := allOK_at ops.toList 0 h1 i o (at_ i o ho)
    rw [Nat.zero_add] at this
    unfold oneOK at this
    simpa only [Bool.and_eq_true] using this
  have dd : ∀ (i : Nat) (o : Oper) (j : Nat) (o' : Oper) (d : Tmp), ops[i]? = some o → ops[j]? = some o' → o'.dst = some d → o.dst = some d → i = j := fun i o j o' d ho ho' hd hl => nodup_ok _ h0 i j o o' d (at_ i o ho) (at_ j o' ho') hl hd
  refine ⟨fun i o ho e he => ?_, fun i o ho => Nat.eq_of_beq_eq_true (key i o ho).1.1.2, fun i o ho => ?_, fun i o j o' d ho ho' hd hl => ?_, dd, fun c hc => ?_, fun k hk => ?_⟩
  · exact Nat.le_of_ble_eq_true (List.all_eq_true.1 (key i o ho).1.1.1 e he)
  · have := eq_of_beq (key i o ho).1.2
    constructor
    · intro e
      have e1 : Nat.beq (kindC o) 2 = true := by rw [e]; rfl
      rw [e1] at this
      simpa using this.symm
    · intro e
      have e1 : p.ch.contains i = true := by simpa using e
      rw [e1] at this
      exact Nat.eq_of_beq_eq_true this
  · have h5 := List.all_eq_true.1 (key i o ho).2 d hl
    have h6 : bt (dstM ops.toList) d = true := (bt_dstM d _).2 ⟨j, o', at_ j o' ho', hd⟩
    rw [h6] at h5
    have h7 : bt (dmOf ops.toList (edg o)) d = true := by simpa using h5
    obtain ⟨e, he, o2, q1, q2⟩ := bt_dmOf _ d _ h7
    have := dd e o2 j o' d (by simpa using q1) ho' hd q2
    rw [← this]
    exact he
  · have := List.all_eq_true.1 h2 c hc
    simpa using this
  · exact List.all_eq_true.1 h3 k (List.mem_range.2 (by omega))
variable {p : Plan} {ops : Array Oper}
theorem DrOK.mask_iff (D : DrOK p ops) {i : Nat} {o : Oper} (ho : ops[i]? = some o) (j : Nat) : bt (p.mask i) j = true ↔ ∃ e ∈ edg o, bt (p.mask e) j = true ∨ e = j := by
  rw [D.mask i o ho, bt_mask, List.any_eq_true]
  constructor
  · rintro ⟨e, he, h⟩
    simp only [Bool.or_eq_true, beq_iff_eq] at h
    exact ⟨e, he, h⟩
  · rintro ⟨e, he, h⟩
    exact ⟨e, he, by simp only [Bool.or_eq_true, beq_iff_eq]; exact h⟩
theorem DrOK.edge_mask (D : DrOK p ops) {i : Nat} {o : Oper} (ho : ops[i]? = some o) {e : Nat} (he : e ∈ edg o) : bt (p.mask i) e = true := (D.mask_iff ho e).2 ⟨e, he, .inr rfl⟩
theorem at_lt {i : Nat} (h : i < ops.size) : ∃ o, ops[i]? = some o := ⟨ops[i], by simp [h]⟩
theorem lt_at {i : Nat} {o : Oper} (h : ops[i]? = some o) : i < ops.size := (Array.getElem?_eq_some_iff.1 h).1
/-- What is in a mask lies ahead. -/
theorem DrOK.mask_lt (D : DrOK p ops) : ∀ (n i : Nat) (o : Oper), i ≤ n → ops[i]? = some o → ∀ j, bt (p.mask i) j = true → j < i := by
  intro n
  induction n with
  | zero =>
    intro i o hi ho j hj
    obtain ⟨e, he, _⟩ := (D.mask_iff ho j).1 hj
    have := D.back i o ho e he
    omega
  | succ n ih =>
    intro i o hi ho j hj
    obtain ⟨e, he, h⟩ := (D.mask_iff ho j).1 hj
    have hlt := D.back i o ho e he
    rcases h with h | h
    · obtain ⟨oe, hoe⟩ := at_lt (ops := ops) (i := e) (by have := lt_at ho; omega)
      have := ih e oe (by omega) hoe j h
      omega
    · omega
theorem DrOK.mask_trans (D : DrOK p ops) : ∀ (n i : Nat) (o : Oper), i ≤ n → ops[i]? = some o → ∀ j c, bt (p.mask i) j = true → bt (p.mask j) c = true → bt (p.mask i) c = true := by
  intro n
  induction n with
  | zero =>
    intro i o hi ho j c hj _
    have := D.mask_lt i i o (Nat.le_refl _) ho j hj
    omega
  | succ n ih =>
    intro i o hi ho j c hj hc
    obtain ⟨e, he, h⟩ := (D.mask_iff ho j).1 hj
    have hlt := D.back i o ho e he
    refine (D.mask_iff ho c).2 ⟨e, he, .inl ?_⟩
    rcases h with h | h
    · obtain ⟨oe, hoe⟩ := at_lt (ops := ops) (i := e) (by have := lt_at ho; omega)
      exact ih e oe (by omega) hoe j c h hc
    · subst h; exact hc
theorem due_iff (p : Plan) (k i : Nat) : p.due k i = true ↔ (∀ c ∈ p.ch.drop k, bt (p.mask i) c = false) ∧ ∀ c ∈ p.ch.take k, bt (p.mask c) i = false := by
  unfold Plan.due
  simp only [Bool.and_eq_true, List.all_eq_true, Bool.not_eq_true']
/-- The floating operations at a place. -/
structure Fl (p : Plan) (ops : Array Oper) (k : Nat) (x : Bool × Nat × Oper) : Prop where
  at_ : ops[x.2.1]? = some x.2.2
  kind : kindC x.2.2 ≠ 2
  due : p.due k x.2.1 = true
  new : x.1 = p.isNew k x.2.1
theorem floats_fl (p : Plan) (ops : Array Oper) (k : Nat) : ∀ x ∈ p.floats ops.toList k, Fl p ops k x := by
  intro x hx
  unfold Plan.floats at hx
  obtain ⟨y, hy, rfl⟩ := List.mem_map.1 hx
  obtain ⟨h1, h2⟩ := List.mem_filter.1 hy
  simp only [Bool.and_eq_true, Bool.not_eq_true'] at h2
  rw [List.mem_zipIdx_iff_getElem?] at h1
  exact ⟨by simpa using h1, fun e => (by rw [e] at h2; cases h2.1), h2.2, rfl⟩
theorem fl_floats {i : Nat} {o : Oper} (k : Nat) (ho : ops[i]? = some o) (hk : kindC o ≠ 2) (hd : p.due k i = true) : (p.isNew k i, i, o) ∈ p.floats ops.toList k := by
  unfold Plan.floats
  refine List.mem_map.2 ⟨(o, i), List.mem_filter.2 ⟨mem_zipIdx ho, ?_⟩, rfl⟩
  have : Nat.beq (kindC o) 2 = false := Bool.eq_false_iff.2 fun e => hk (Nat.eq_of_beq_eq_true e)
  dsimp only
  rw [this, hd]
  rfl
theorem zipIdx_sorted {α : Type} : ∀ (l : List α) (n : Nat), (l.zipIdx n).Pairwise fun x y => x.2 < y.2
  | [], _ => by simp
  | a :: l, n => by
    rw [List.zipIdx_cons, List.pairwise_cons]
    refine ⟨fun y hy => ?_, zipIdx_sorted l (n + 1)⟩
    have := List.le_snd_of_mem_zipIdx hy
    show n < y.2
    omega
theorem floats_sorted (p : Plan) (l : List Oper) (k : Nat) : (p.floats l k).Pairwise fun x y => x.2.1 < y.2.1 := by
  unfold Plan.floats
  rw [List.pairwise_map]
  exact (zipIdx_sorted l 0).filter _
/-- What settling changes. -/
structure Chg (xs : List (Bool × Nat × Oper)) (s s' : St) (al al' : T Obj) : Prop where
  h : s'.h = s.h
  nt : s'.nt = s.nt
  ds : s'.ds = s.ds
  tm : ∀ t, (∀ x ∈ xs, x.1 = true → x.2.2.dst ≠ some t) → s'.tm.get t = s.tm.get t
  al : ∀ j, (∀ x ∈ xs, x.1 = true → x.2.1 ≠ j) → al'.get j = al.get j
theorem put_get {s s1 : St} {d : Option Tmp} {v : Value} (h : s.put d v = some s1) : s1.h = s.h ∧ s1.nt = s.nt ∧ (∀ t, d ≠ some t → s1.tm.get t = s.tm.get t) ∧ ∀ t, d = some t → t < s.nt ∧ s1.tm.get t = some v := by
  unfold St.put at h
  cases d with
  | none => cases h; exact ⟨rfl, rfl, fun _ _ => rfl, fun t e => by cases e⟩
  | some d =>
    dsimp only at h
    split at h
    · rename_i hlt
      cases h
      refine ⟨rfl, rfl, fun t ht => ?_, fun t ht => ?_⟩
      · simp only [T.get_set]
        rw [if_neg fun e => ht (by rw [e])]
      · cases ht
        exact ⟨hlt, by simp only [T.get_set, if_true]⟩
    · cases h
theorem put_ds {s s1 : St} {d : Option Tmp} {v : Value} (h : s.put d v = some s1) : s1.ds = s.ds := by
  unfold St.put at h
  cases d with
  | none => cases h; rfl
  | some d =>
    dsimp only at h
    split at h
    · cases h; rfl
    · cases h
theorem heapF_congr (n0 : Nat) (al al' : T Obj) : ∀ (js : List Nat) (H : T Obj), (∀ j ∈ js, al'.get j = al.get j) → heapF n0 al' js H = heapF n0 al js H
  | [], _, _ => rfl
  | j :: js, H, h => by
    unfold heapF
    rw [List.foldl_cons, List.foldl_cons, h j (by simp)]
    exact heapF_congr n0 al al' js _ fun i hi => h i (by simp [hi])
theorem settle_ok (D : DrOK p ops) {n0 k : Nat} {q : St → T Obj → An} {N : Prop} : ∀ (xs ys : List (Bool × Nat × Oper)), p.floats ops.toList k = ys ++ xs → ∀ (s : St) (al : T Obj),
    (∀ x ∈ ys, PreOK P n0 ops.toList s al x.2.1 x.2.2 ∧ ReadOK P n0 ops.size ops.toList p k s al x.2.1 x.2.2) → (∀ x ∈ xs, x.1 = false → PreOK P n0 ops.toList s al x.2.1 x.2.2) → settleK P n0 ops.size ops.toList p k xs s al q N →
    ∃ s' al', (∀ x ∈ p.floats ops.toList k, PreOK P n0 ops.toList s' al' x.2.1 x.2.2 ∧ ReadOK P n0 ops.size ops.toList p k s' al' x.2.1 x.2.2) ∧ q s' al' N ∧ Chg xs s s' al al' := by
  intro xs
  induction xs with
  | nil =>
    intro ys hy s al h1 h2 h
    refine ⟨s, al, fun x hx => h1 x (by rw [hy] at hx; simpa using hx), h, rfl, rfl, rfl, fun _ _ => rfl, fun _ _ => rfl⟩
  | cons x xs ih =>
    intro ys hy s al h1 h2 h
    obtain ⟨b, i, o⟩ := x
    have hy' : p.floats ops.toList k = (ys ++ [(b, i, o)]) ++ xs := by rw [hy]; simp
    have hfl : ∀ y ∈ p.floats ops.toList k, Fl p ops k y := floats_fl p ops k
    have hx := hfl (b, i, o) (by rw [hy]; simp)
    have hsrt := floats_sorted p ops.toList k
    rw [hy, List.pairwise_append, List.pairwise_cons] at hsrt
    cases b with
    | false =>
      have h' : reK P n0 ops.size ops.toList p k i o s al (fun s al => settleK P n0 ops.size ops.toList p k xs s al q) N := h
      have hp := h2 (false, i, o) (by simp) rfl
      obtain ⟨hq, hr⟩ := reK_ok hp h'
      obtain ⟨s', al', g1, g2, g3⟩ := ih (ys ++ [(false, i, o)]) hy' s al (fun y hm => by
        rcases List.mem_append.1 hm with hm | hm
        · exact h1 y hm
        · simp at hm; subst hm; exact ⟨hp, hr⟩) (fun y hm => h2 y (by simp [hm])) hq
      exact ⟨s', al', g1, g2, g3.h, g3.nt, g3.ds, fun t ht => g3.tm t fun y hm => ht y (by simp [hm]), fun j hj => g3.al j fun y hm => hj y (by simp [hm])⟩
    | true =>
      have h' : newK P n0 ops.size ops.toList p k i o s al (fun s al => settleK P n0 ops.size ops.toList p k xs s al q) N := h
      obtain ⟨s1, v, ob, hput, hq, hpre, hread⟩ := newK_ok h'
      obtain ⟨ph, pn, pt, pd⟩ := put_get hput
      have oat : ops[i]? = some o := hx.at_
      have olist : ∀ o' : Oper, o'.looksAt ops.toList.toArray = o'.looksAt ops := fun o' => by simp
      -- what doesn't look at the new slot
      have same : ∀ y : Bool × Nat × Oper, ops[y.2.1]? = some y.2.2 → i ∉ edg y.2.2 → Same ops.toList y.2.2 s s1 := fun y hy hne => ⟨pn, fun t ht => pt t fun e => hne (D.looks y.2.1 y.2.2 i o t hy oat e (by rw [olist] at ht; exact ht))⟩
      have slot : ∀ y : Bool × Nat × Oper, ops[y.2.1]? = some y.2.2 → y.2.1 ≠ i → ∀ d, y.2.2.dst = some d → s1.tm.get d = s.tm.get d := fun y hy hne d hd => pt d fun e => hne (D.dst y.2.1 y.2.2 i o d hy oat e hd)
      have pre : ∀ y : Bool × Nat × Oper, ops[y.2.1]? = some y.2.2 → i ∉ edg y.2.2 → y.2.1 ≠ i → PreOK P n0 ops.toList s al y.2.1 y.2.2 → PreOK P n0 ops.toList s1 (al.set i ob) y.2.1 y.2.2 := fun y hy hne hni hp => by
        obtain ⟨u, ub, q1, q2, q3⟩ := hp
        refine ⟨u, ub, q1.same (same y hy hne), fun d hd => ?_, ?_⟩
        · rw [slot y hy hni d hd, pn]; exact q2 d hd
        · rw [T.get_set, if_neg hni]; exact q3
      have iself : i ∉ edg o := fun e => by have := D.back i o oat i e; omega
      have hnew : PreOK P n0 ops.toList s1 (al.set i ob) i o := ⟨v, ob, hpre.same (same (true, i, o) oat iself), fun d hd => by
        obtain ⟨e1, e2⟩ := pd d hd
        rw [pn, e2]
        exact ⟨e1, rfl⟩, by rw [T.get_set, if_pos rfl]⟩
      have hcand : ∀ y : Bool × Nat × Oper, ops[y.2.1]? = some y.2.2 → y.2.1 ≤ i → heapF n0 (al.set i ob) (p.cand ops.size k y.2.1) s1.h.t = heapF n0 al (p.cand ops.size k y.2.1) s.h.t := fun y hy hle => by
        rw [ph]
        refine heapF_congr n0 _ _ _ _ fun j hj => ?_
        unfold Plan.cand at hj
        obtain ⟨_, hj2⟩ := List.mem_filter.1 hj
        simp only [Bool.and_eq_true] at hj2
        have := D.mask_lt _ y.2.1 y.2.2 (Nat.le_refl _) hy j hj2.1
        rw [T.get_set, if_neg (by omega)]
      obtain ⟨s', al', g1, g2, g3⟩ := ih (ys ++ [(true, i, o)]) hy' s1 (al.set i ob) (fun y hm => by
        rcases List.mem_append.1 hm with hm | hm
        · have hyf := hfl y (by rw [hy]; simp [hm])
          have hlt : y.2.1 < i := hsrt.2.2 y hm (true, i, o) (by simp)
          have hne : i ∉ edg y.2.2 := fun e => by have := D.back _ _ hyf.at_ i e; omega
          refine ⟨pre y hyf.at_ hne (by omega) (h1 y hm).1, fun hw hk => ?_⟩
          have hsm := same y hyf.at_ hne
          rw [hsm.wanted] at hw
          obtain ⟨u, q1, q2⟩ := (h1 y hm).2 hw hk
          have hst : statOK y.2.2 = true := by
            obtain ⟨_, _, hpr, _⟩ := (h1 y hm).1
            rcases hpr with ⟨e, _⟩ | ⟨_, e, _⟩ | ⟨_, e, _⟩
            · rw [hw] at e; cases e
            · exact e
            · exact e
          refine ⟨u, ?_, fun d hd => ?_⟩
          · rw [hcand y hyf.at_ (by omega), ph, evR_congr _ _ (stat_noSel hst) hsm.ev]; exact q1
          · rw [slot y hyf.at_ (by omega) d hd]; exact q2 d hd
        · simp at hm
          subst hm
          refine ⟨hnew, fun hw hk => ?_⟩
          have hsm := same (true, i, o) oat iself
          rw [hsm.wanted] at hw
          have hst : statOK o = true := by
            rcases hpre with ⟨e, _⟩ | ⟨_, e, _⟩ | ⟨_, e, _⟩
            · rw [hw] at e; cases e
            · exact e
            · exact e
          refine ⟨v, ?_, fun d hd => ?_⟩
          · rw [hcand (true, i, o) oat (Nat.le_refl _), ph, evR_congr _ _ (stat_noSel hst) hsm.ev]; exact hread hw hk
          · rw [(pd d hd).2]; rfl) (fun y hm hb => by
        have hyf := hfl y (by rw [hy]; simp [hm])
        have hlt : i < y.2.1 := hsrt.2.1.1 y hm
        refine pre y hyf.at_ (fun e => ?_) (by omega) (h2 y (by simp [hm]) hb)
        -- what is new isn't looked at by what isn't
        have n1 := hx.new
        have n2 := hyf.new
        rw [hb] at n2
        cases k with
        | zero => cases n2
        | succ k =>
          have d1 : p.due k y.2.1 = true := by simpa [Plan.isNew] using n2.symm
          have d2 : p.due k i = false := by simpa [Plan.isNew] using n1.symm
          have hm2 := D.edge_mask hyf.at_ e
          have : p.due k i = true := by
            rw [due_iff]
            refine ⟨fun c hc => ?_, fun c hc => ?_⟩
            · cases q : bt (p.mask i) c with
              | false => rfl
              | true =>
                have := ((due_iff p k y.2.1).1 d1).1 c hc
                rw [D.mask_trans _ _ _ (Nat.le_refl _) hyf.at_ i c hm2 q] at this
                cases this
            · exact ((due_iff p (k + 1) i).1 hx.due).2 c ((List.take_subset_take_left p.ch (Nat.le_succ k)) hc)
          rw [d2] at this
          cases this) hq
      refine ⟨s', al', g1, g2, g3.h.trans ph, g3.nt.trans pn, g3.ds.trans (put_ds hput), fun t ht => ?_, fun j hj => ?_⟩
      · rw [g3.tm t fun y hm => ht y (by simp [hm])]
        exact pt t (ht (true, i, o) (by simp) rfl)
      · rw [g3.al j fun y hm => hj y (by simp [hm]), T.get_set, if_neg fun e => hj (true, i, o) (by simp) rfl e.symm]
end
end Go.Proofs.YtmjblbgalkjmiaaGreat.EX
/- Regions in whatever order: heaps. -/
namespace Go.Proofs.YtmjblbgalkjmiaaGreat.EX
open Go
section
variable {P : Program} {p : Plan} {ops : Array Oper}
def resv (n0 m b : Nat) : Bool := decide (2 * n0 ≤ b) && decide (b % 2 = 0) && decide (b / 2 - n0 < m)
theorem resv_at {n0 m j : Nat} (h : j < m) : resv n0 m (2 * (n0 + j)) = true ∧ 2 * (n0 + j) / 2 - n0 = j := by
  have e : 2 * (n0 + j) / 2 - n0 = j := by omega
  refine ⟨?_, e⟩
  simp only [resv, e, Bool.and_eq_true, decide_eq_true_eq]
  omega
theorem resv_of {n0 m b : Nat} (h : resv n0 m b = true) : ∃ j, j < m ∧ b = 2 * (n0 + j) := by
  simp only [resv, Bool.and_eq_true, decide_eq_true_eq] at h
  exact ⟨b / 2 - n0, h.2, by omega⟩
/-- The heap of a set of operations that were run. -/
def Kf (n0 m mk : Nat) (L : Nat → Bool) (al H : T Obj) (b : Nat) : Option Obj :=
  if (resv n0 m b && L (b / 2 - n0) && !bt mk (b / 2 - n0) && (al.get (b / 2 - n0)).isSome) = true then al.get (b / 2 - n0) else H.get b
theorem Kf_yes {n0 m mk j : Nat} {L : Nat → Bool} {al H : T Obj} (h1 : j < m) (h2 : L j = true) (h3 : bt mk j = false) (h4 : (al.get j).isSome) : Kf n0 m mk L al H (2 * (n0 + j)) = al.get j := by
  obtain ⟨e1, e2⟩ := resv_at (n0 := n0) h1
  unfold Kf
  rw [e1, e2, h2, h3, h4]
  rfl
theorem Kf_no {n0 m mk b : Nat} {L : Nat → Bool} {al H : T Obj} (h : ∀ j, j < m → b = 2 * (n0 + j) → L j = true → bt mk j = false → al.get j = none) : Kf n0 m mk L al H b = H.get b := by
  unfold Kf
  rw [if_neg]
  intro k
  simp only [Bool.and_eq_true, Bool.not_eq_true'] at k
  obtain ⟨⟨⟨k1, k2⟩, k3⟩, k4⟩ := k
  obtain ⟨j, hj, rfl⟩ := resv_of k1
  rw [(resv_at hj).2] at k2 k3 k4
  rw [h j hj rfl k2 k3] at k4
  cases k4
theorem heapF_live {n0 : Nat} {al : T Obj} {js : List Nat} {H : T Obj} {b : Nat} (h : ((heapF n0 al js H).get b).isSome) : (H.get b).isSome ∨ ∃ j ∈ js, b = 2 * (n0 + j) ∧ (al.get j).isSome := by
  by_cases q : ∃ j ∈ js, b = 2 * (n0 + j) ∧ (al.get j).isSome
  · exact .inr q
  · left
    rw [heapF_no] at h
    · exact h
    · intro j hj hb
      cases e : al.get j with
      | none => rfl
      | some o => exact absurd ⟨j, hj, hb, by rw [e]; rfl⟩ q
/-- What holds of the heap of the chain. -/
structure DI (p : Plan) (ops : Array Oper) (n0 k : Nat) (s : St) (al : T Obj) : Prop where
  nm : n0 + ops.size ≤ s.h.n
  lt : ∀ b, (s.h.t.get b).isSome → b < 2 * s.h.n
  rs : ∀ j, j < ops.size → (s.h.t.get (2 * (n0 + j))).isSome → bt (p.mm k) j = true
  al : ∀ c ∈ p.ch, al.get c = none
/-- A part of the heap. -/
theorem heapF_sub {n0 m mk : Nat} {L : Nat → Bool} {al H : T Obj} {js : List Nat} (hj : ∀ j ∈ js, j < m ∧ L j = true ∧ bt mk j = false) (rs : ∀ j, j < m → (H.get (2 * (n0 + j))).isSome → bt mk j = true) :
    ∀ b o, (heapF n0 al js H).get b = some o → Kf n0 m mk L al H b = some o := by
  intro b o h
  by_cases q : ∃ j ∈ js, b = 2 * (n0 + j) ∧ (al.get j).isSome
  · obtain ⟨j, h1, rfl, h2⟩ := q
    obtain ⟨h3, h4, h5⟩ := hj j h1
    rw [Kf_yes h3 h4 h5 h2]
    obtain ⟨u, hu⟩ := Option.isSome_iff_exists.1 h2
    rw [heapF_yes n0 al j u hu js H h1] at h
    rw [hu, h]
  · have e := heapF_no n0 al b js H fun j hj hb => by
      cases e : al.get j with
      | none => rfl
      | some o => exact absurd ⟨j, hj, hb, by rw [e]; rfl⟩ q
    rw [e] at h
    rw [Kf_no]
    · exact h
    · intro j h1 h2 h3 h4
      subst h2
      have := rs j h1 (by rw [h]; rfl)
      rw [h4] at this
      cases this
def upd (L : Nat → Bool) (i : Nat) : Nat → Bool := fun j => j == i || L j
theorem upd_self (L : Nat → Bool) (i : Nat) : upd L i i = true := by simp [upd]
theorem upd_ne {L : Nat → Bool} {i j : Nat} (h : j ≠ i) : upd L i j = L j := by simp [upd, h]
theorem bt_zero (j : Nat) : bt 0 j = false := by rw [bt_eq]; simp
theorem getD_mem {l : List Nat} {k : Nat} (h : k < l.length) : l.getD k 0 ∈ l := by
  rw [List.getD_eq_getElem?_getD, List.getElem?_eq_getElem h]
  exact List.getElem_mem h
theorem DrOK.mm_sub (D : DrOK p ops) {k : Nat} (hk : k < p.ch.length) {j : Nat} (h : bt (p.mm k) j = true) : bt (p.mask (p.ch.getD k 0)) j = true := by
  cases k with
  | zero => rw [show p.mm 0 = 0 from rfl, bt_zero] at h; cases h
  | succ k =>
    have hc := D.chain k hk
    obtain ⟨o, ho⟩ := at_lt (D.lt _ (getD_mem hk))
    exact D.mask_trans _ _ o (Nat.le_refl _) ho _ j hc h
/-- The heap behind an operation of the chain. -/
theorem chain_heap (D : DrOK p ops) {n0 k : Nat} (hk : k < p.ch.length) {L : Nat → Bool} {al H : T Obj} {n : Nat} {r r2 : Env} {w w2 : World} {h2 : Hp} {s : St} (hs : s.h = ⟨H, n⟩) (I : DI p ops n0 k s al)
    (hm : ∀ j, bt (p.mask (p.ch.getD k 0)) j = true → L j = true) (K : KR r (Kf n0 ops.size (p.mm k) L al H) w) (hodd : ∀ b c, r b c → b % 2 = 1 → b + 11 ≤ 2 * n)
    (H2 : HR r2 h2 w2) (F : Fr r r2 ⟨heapF n0 al (p.cand ops.size k (p.ch.getD k 0)) H, n⟩ h2 w w2) :
    KR r2 (Kf n0 ops.size (p.mm (k + 1)) (upd L (p.ch.getD k 0)) al h2.t) w2 ∧ (∀ b, (h2.t.get b).isSome → b < 2 * h2.n) ∧ (∀ j, j < ops.size → (h2.t.get (2 * (n0 + j))).isSome → bt (p.mm (k + 1)) j = true) := by
  obtain ⟨inm, ilt, irs, ial⟩ := I
  rw [hs] at inm ilt irs
  simp only at inm ilt irs
  have hcand : ∀ j ∈ p.cand ops.size k (p.ch.getD k 0), j < ops.size ∧ L j = true ∧ bt (p.mm k) j = false := fun j hj => by
    unfold Plan.cand at hj
    obtain ⟨h1, h2⟩ := List.mem_filter.1 hj
    simp only [Bool.and_eq_true, Bool.not_eq_true'] at h2
    exact ⟨List.mem_range.1 h1, hm j h2.1, h2.2⟩
  have hsub := heapF_sub (n0 := n0) (m := ops.size) (mk := p.mm k) (L := L) (al := al) (H := H) hcand irs
  -- what is live of the part
  have live : ∀ b, ((heapF n0 al (p.cand ops.size k (p.ch.getD k 0)) H).get b).isSome → ∀ j, j < ops.size → b = 2 * (n0 + j) → bt (p.mask (p.ch.getD k 0)) j = true := fun b hb j hj e => by
    rcases heapF_live hb with h | ⟨j', h1, h2, h3⟩
    · subst e
      exact D.mm_sub hk (irs j hj h)
    · have : j' = j := by omega
      subst this
      unfold Plan.cand at h1
      obtain ⟨_, h4⟩ := List.mem_filter.1 h1
      simp only [Bool.and_eq_true] at h4
      exact h4.1
  have old : ∀ b, b < 2 * n → (h2.t.get b).isSome → ((heapF n0 al (p.cand ops.size k (p.ch.getD k 0)) H).get b).isSome := fun b hb h => F.old b hb h
  have lt2 : ∀ b, (h2.t.get b).isSome → b < 2 * h2.n := fun b hb => by
    obtain ⟨o, ho⟩ := Option.isSome_iff_exists.1 hb
    obtain ⟨c, _, hr, _⟩ := H2.live b o ho
    exact H2.lt b c hr
  refine ⟨?_, lt2, fun j hj h => ?_⟩
  · have KU := K.upd (h := ⟨heapF n0 al (p.cand ops.size k (p.ch.getD k 0)) H, n⟩) hsub hodd H2 F
    have e : (fun b => if ((heapF n0 al (p.cand ops.size k (p.ch.getD k 0)) H).get b).isSome || decide (2 * n ≤ b) then h2.t.get b else Kf n0 ops.size (p.mm k) L al H b) = Kf n0 ops.size (p.mm (k + 1)) (upd L (p.ch.getD k 0)) al h2.t := by
      funext b
      cases q : (((heapF n0 al (p.cand ops.size k (p.ch.getD k 0)) H).get b).isSome || decide (2 * n ≤ b)) with
      | true =>
        rw [if_pos rfl]
        symm
        refine Kf_no fun j hj hb _ hbt => ?_
        exfalso
        simp only [Bool.or_eq_true, decide_eq_true_eq] at q
        rcases q with q | q
        · have := live b q j hj hb
          rw [show p.mm (k + 1) = p.mask (p.ch.getD k 0) from rfl, this] at hbt
          cases hbt
        · omega
      | false =>
        rw [if_neg (by decide)]
        simp only [Bool.or_eq_false_iff, decide_eq_false_iff_not] at q
        have q1 : ((heapF n0 al (p.cand ops.size k (p.ch.getD k 0)) H).get b) = none := by
          cases e : (heapF n0 al (p.cand ops.size k (p.ch.getD k 0)) H).get b with
          | none => rfl
          | some _ => rw [e] at q; cases q.1
        have h2n : h2.t.get b = none := by
          cases e : h2.t.get b with
          | none => rfl
          | some _ =>
            have := old b (by omega) (by rw [e]; rfl)
            rw [q1] at this
            cases this
        by_cases c : ∃ j, j < ops.size ∧ b = 2 * (n0 + j) ∧ upd L (p.ch.getD k 0) j = true ∧ bt (p.mm (k + 1)) j = false ∧ (al.get j).isSome
        · obtain ⟨j, h1, rfl, h3, h4, h5⟩ := c
          rw [Kf_yes h1 h3 h4 h5]
          have hji : j ≠ p.ch.getD k 0 := fun e => by
            rw [e, ial _ (getD_mem hk)] at h5
            cases h5
          rw [upd_ne hji] at h3
          refine Kf_yes h1 h3 ?_ h5
          cases e : bt (p.mm k) j with
          | false => rfl
          | true =>
            have := D.mm_sub hk e
            rw [show p.mm (k + 1) = p.mask (p.ch.getD k 0) from rfl, this] at h4
            cases h4
        · rw [Kf_no (H := h2.t) fun j hj hb hL hbt => by
            cases e : al.get j with
            | none => rfl
            | some _ => exact absurd ⟨j, hj, hb, hL, hbt, by rw [e]; rfl⟩ c, h2n]
          -- the elder heap has nothing there either
          rw [Kf_no]
          · cases e : H.get b with
            | none => rfl
            | some u =>
              exfalso
              by_cases cc : ∃ j ∈ p.cand ops.size k (p.ch.getD k 0), b = 2 * (n0 + j) ∧ (al.get j).isSome
              · obtain ⟨j, h1, rfl, h3⟩ := cc
                obtain ⟨u', hu'⟩ := Option.isSome_iff_exists.1 h3
                rw [heapF_yes n0 al j u' hu' _ H h1] at q1
                cases q1
              · rw [heapF_no n0 al b _ H fun j hj hb => by
                  cases e : al.get j with
                  | none => rfl
                  | some _ => exact absurd ⟨j, hj, hb, by rw [e]; rfl⟩ cc, e] at q1
                cases q1
          · intro j hj hb hL hbt
            cases e : al.get j with
            | none => rfl
            | some u =>
              exfalso
              cases e2 : bt (p.mask (p.ch.getD k 0)) j with
              | false =>
                have hji : upd L (p.ch.getD k 0) j = true := by simp [upd, hL]
                exact c ⟨j, hj, hb, hji, e2, by rw [e]; rfl⟩
              | true =>
                have hc : j ∈ p.cand ops.size k (p.ch.getD k 0) := by
                  unfold Plan.cand
                  exact List.mem_filter.2 ⟨List.mem_range.2 hj, by rw [e2, hbt]; rfl⟩
                subst hb
                rw [heapF_yes n0 al j u e _ H hc] at q1
                cases q1
    rw [e] at KU
    exact KU
  · have := old (2 * (n0 + j)) (by omega) h
    exact live _ this j hj rfl
end
end Go.Proofs.YtmjblbgalkjmiaaGreat.EX
/- Regions in whatever order: one operation more. -/
namespace Go.Proofs.YtmjblbgalkjmiaaGreat.EX
open Go
section
variable {P : Program} {p : Plan} {ops : Array Oper}
structure DRel (p : Plan) (ops : Array Oper) (n0 k : Nat) (r0 : Env) (h0 : Hp) (w0 : World) (L : Nat → Bool) (s : St) (al : T Obj) (r : Env) (a : Act) (w : World) : Prop where
  defers : DsR r s.ds a.defers
  size : a.tmps.size = s.nt
  slots : ∀ t, (∃ i o, ops[i]? = some o ∧ L i = false ∧ o.dst = some t) ∨ VR r ((s.tm.get t).getD undef) (a.tmps.getD t undef)
  kr : KR r (Kf n0 ops.size (p.mm k) L al s.h.t) w
  lt : ∀ b c, r b c → b < 2 * s.h.n
  odd : ∀ b c, r b c → b % 2 = 1 → b + 11 ≤ 2 * n0 ∨ (2 * (n0 + ops.size) ≤ b ∧ b + 11 ≤ 2 * s.h.n)
  rsv : ∀ j c, j < ops.size → r (2 * (n0 + j)) c → L j = true
  fr : Fr r0 r h0 s.h w0 w
theorem yield_one {r : Env} {s : St} {tmps : Array Value} (hs : tmps.size = s.nt) {d : Tmp} (h : VR r ((s.tm.get d).getD undef) (tmps.getD d undef)) :
    (match tmps[d]? with | some (.bool b) => some b | _ => none) = (if d < s.nt then match (s.tm.get d).getD undef with | .bool b => some b | _ => none else none) := by
  by_cases hd : d < s.nt
  · rw [if_pos hd]
    have hd' : d < tmps.size := Nat.lt_of_lt_of_eq hd hs.symm
    have e : tmps[d]? = some (tmps.getD d undef) := by simp [Array.getD, hd']
    rw [e]
    revert h
    generalize tmps.getD d undef = v'
    generalize (s.tm.get d).getD undef = v
    intro h
    cases v with
    | bool b => cases h; rfl
    | pointer p => cases p with
      | none => cases h; rfl
      | some p => obtain ⟨_, _, rfl⟩ := h; rfl
    | slice p _ _ => cases p with
      | none => cases h; rfl
      | some p => obtain ⟨_, _, _, _, _, rfl⟩ := h; rfl
    | map p => cases p with
      | none => cases h; rfl
      | some p => obtain ⟨_, _, rfl⟩ := h; rfl
    | chan p => cases p with
      | none => cases h; rfl
      | some p => cases h
    | func fn f c => obtain ⟨f⟩ := f; obtain ⟨c⟩ := c; simp only [VRe] at h; obtain ⟨_, _, _, _, rfl⟩ := h; rfl
    | iface t x => obtain ⟨_, _, rfl⟩ := h; rfl
    | agg cs => obtain ⟨cs⟩ := cs; simp only [VRe] at h; obtain ⟨_, _, rfl⟩ := h; rfl
    | tuple cs => obtain ⟨cs⟩ := cs; simp only [VRe] at h; obtain ⟨_, _, rfl⟩ := h; rfl
    | _ => cases h; rfl
  · rw [if_neg hd]
    have e : tmps[d]? = none := Array.getElem?_eq_none (hs ▸ Nat.le_of_not_lt hd)
    rw [e]
variable {n0 k : Nat} {r0 : Env} {h0 : Hp} {w0 : World} {L : Nat → Bool} {s : St} {al : T Obj} {r : Env} {a : Act} {w : World}
theorem DRel.oddN (R : DRel p ops n0 k r0 h0 w0 L s al r a w) (I : DI p ops n0 k s al) : ∀ b c, r b c → b % 2 = 1 → b + 11 ≤ 2 * s.h.n := fun b c h h1 => by
  have := I.nm
  rcases R.odd b c h h1 with q | q
  · omega
  · exact q.2
/-- What an operation looks at is alike. -/
theorem DRel.seen (D : DrOK p ops) (R : DRel p ops n0 k r0 h0 w0 L s al r a w) {i : Nat} {o : Oper} (ho : ops[i]? = some o) (hm : ∀ j, bt (p.mask i) j = true → L j = true) : ∀ t ∈ o.looksAt ops, VR r ((s.tm.get t).getD undef) (a.tmps.getD t undef) := by
  intro t ht
  rcases R.slots t with ⟨j, o', h1, h2, h3⟩ | h
  · have := hm j (D.edge_mask ho (D.looks i o j o' t ho h1 h3 ht))
    rw [h2] at this
    cases this
  · exact h
theorem DRel.wanted (D : DrOK p ops) (R : DRel p ops n0 k r0 h0 w0 L s al r a w) {i : Nat} {o : Oper} (ho : ops[i]? = some o) (hm : ∀ j, bt (p.mask i) j = true → L j = true) : Region.wanted o (yielded ops a.tmps) = Region.wanted o (yieldT s ops.toList) := by
  have hsn := R.seen D ho hm
  unfold Region.wanted
  cases hg : o.guard with
  | none => rfl
  | some g =>
    obtain ⟨j, w⟩ := g
    have : yielded ops a.tmps j = yieldT s ops.toList j := by
      unfold yielded yieldT
      have e0 : ops.toList[j]? = ops[j]? := by simp
      rw [e0]
      cases hd : (ops[j]?).bind (·.dst) with
      | none => rfl
      | some d => exact yield_one R.size (hsn d (List.mem_append_right _ (by rw [hg]; simp [hd])))
    dsimp only
    rw [this]
theorem DRel.opds (D : DrOK p ops) (R : DRel p ops n0 k r0 h0 w0 L s al r a w) {i : Nat} {o : Oper} (ho : ops[i]? = some o) (hm : ∀ j, bt (p.mask i) j = true → L j = true) : ∀ x, opdOK x = true → x ∈ o.op.operands → VR r (s.ev x) (a.eval x) := by
  intro x hx hxo
  cases x with
  | tmp t => exact R.seen D ho hm t (List.mem_append_left _ (List.mem_filterMap.2 ⟨.tmp t, by simpa using hxo, rfl⟩))
  | const v => exact (VR.closed 64 v v hx).2 rfl
  | global g => cases hx
  | func f => exact (VR.closed 2 _ _ rfl).2 rfl
theorem put_slots {r r' : Env} (hle : Le r r') (hs : a.tmps.size = s.nt) (R : ∀ t, (∃ i o, ops[i]? = some o ∧ L i = false ∧ o.dst = some t) ∨ VR r ((s.tm.get t).getD undef) (a.tmps.getD t undef)) {i : Nat} {o : Oper} (ho : ops[i]? = some o) {v v' : Value} (hv : VR r' v v') {s1 : St}
    (h1 : ∀ t, o.dst ≠ some t → s1.tm.get t = s.tm.get t) (h2 : ∀ t, o.dst = some t → t < s.nt ∧ (s1.tm.get t).getD undef = v) :
    ∀ t, (∃ j o, ops[j]? = some o ∧ upd L i j = false ∧ o.dst = some t) ∨ VR r' ((s1.tm.get t).getD undef) ((a.put o.dst v').tmps.getD t undef) := by
  intro t
  by_cases e : o.dst = some t
  · right
    obtain ⟨h3, h4⟩ := h2 t e
    rw [h4, e]
    have : t < a.tmps.size := Nat.lt_of_lt_of_eq h3 hs.symm
    simpa [Act.put, Array.getD, this] using hv
  · rcases R t with ⟨j, o', q1, q2, q3⟩ | q
    · left
      refine ⟨j, o', q1, ?_, q3⟩
      rw [upd_ne]
      · exact q2
      · intro e'
        subst e'
        rw [ho] at q1
        cases q1
        exact e q3
    · right
      rw [h1 t e]
      have e2 : (a.put o.dst v').tmps.getD t undef = a.tmps.getD t undef := by
        unfold Act.put
        cases hd : o.dst with
        | none => rfl
        | some d =>
          have : d ≠ t := fun q => e (by rw [hd, q])
          simp only [Array.getD_eq_getD_getElem?]
          rw [Array.getElem?_setIfInBounds_ne this]
      rw [e2]
      exact q.mono hle
theorem put_defers {o : Option Value} (h : DsR r o a.defers) (d : Option Tmp) (v : Value) : DsR r o (a.put d v).defers := by cases d <;> exact h
theorem put_size (a : Act) (d : Option Tmp) (v : Value) : (a.put d v).tmps.size = a.tmps.size := by cases d <;> simp [Act.put]
/-- A floating operation. -/
theorem float_step (hz : Zc P) (D : DrOK p ops) (hn : h0.n = n0) {Q : Exit → Act → World → Prop} {K : Act → World → Prop} (R : DRel p ops n0 k r0 h0 w0 L s al r a w) (I : DI p ops n0 k s al) {i : Nat} {o : Oper} (ho : ops[i]? = some o) (hi : L i = false) (hm : ∀ j, bt (p.mask i) j = true → L j = true) (hmm : bt (p.mm k) i = false)
    (hk : kindC o ≠ 2) (hk2 : kindC o < 3) (hp : PreOK P n0 ops.toList s al i o) (hr : ReadOK P n0 ops.size ops.toList p k s al i o)
    (hK : ∀ r' a' w', DRel p ops n0 k r0 h0 w0 (upd L i) s al r' a' w' → K a' w') :
    if Region.wanted o (yielded ops a.tmps) = true then o.wp P a w K Q else K (a.put o.dst undef) w := by
  obtain ⟨v, ob, hpre, hslot, hal⟩ := hp
  rw [R.wanted D ho hm]
  have hilt := lt_at ho
  have h2 : ∀ t, o.dst = some t → t < s.nt ∧ (s.tm.get t).getD undef = v := fun t ht => hslot t ht
  -- nothing is made
  have still : ob = none → ∀ u v', VR r u v' → (∀ t, o.dst = some t → t < s.nt ∧ (s.tm.get t).getD undef = u) → DRel p ops n0 k r0 h0 w0 (upd L i) s al r (a.put o.dst v') w := fun hob u v' hv h2 => by
    refine ⟨put_defers R.defers _ _, (put_size _ _ _).trans R.size, put_slots (Le.refl r) R.size R.slots ho hv (fun _ _ => rfl) h2, ?_, R.lt, R.odd, fun j c hj hr => ?_, R.fr⟩
    · have e : Kf n0 ops.size (p.mm k) (upd L i) al s.h.t = Kf n0 ops.size (p.mm k) L al s.h.t := by
        funext b
        unfold Kf
        by_cases hb : b / 2 - n0 = i
        · rw [hb, hal, hob]
          simp
        · rw [upd_ne hb]
      rw [e]
      exact R.kr
    · by_cases e : j = i
      · rw [e, upd_self]
      · rw [upd_ne e]; exact R.rsv j c hj hr
  rcases hpre with ⟨hw, hv, hob⟩ | ⟨hw, hst, hk0, he⟩ | ⟨hw, hst, hk0, hob⟩
  · rw [if_neg (by rw [hw]; decide)]
    exact hK r _ w (still hob v undef (by rw [hv]; exact (VR.closed 3 undef undef rfl).2 rfl) h2)
  · rw [if_pos hw]
    unfold Oper.wp
    have := evC_sound hz o hst (R.opds D ho hm) (by omega) he w
    cases ob with
    | none =>
      obtain ⟨v', h1, hv⟩ := this
      rw [h1]
      exact hK r _ w (still rfl v v' hv h2)
    | some x =>
      obtain ⟨v', x', h1, hx, hv⟩ := this
      rw [h1]
      have hg : ∀ c, ¬ r (2 * (n0 + i)) c := fun c hc => by
        have := R.rsv i c hilt hc
        rw [hi] at this
        cases this
      refine hK (NewE r (2 * (n0 + i)) w) _ _ ⟨put_defers (R.defers.mono fun _ _ h => .inl h) _ _, (put_size _ _ _).trans R.size, put_slots (fun _ _ h => .inl h) R.size R.slots ho hv (fun _ _ => rfl) h2, ?_, fun b c hb => ?_, fun b c hb ho1 => ?_, fun j c hj hr => ?_, ?_⟩
      · have e : Kf n0 ops.size (p.mm k) (upd L i) al s.h.t = fun b => if b = 2 * (n0 + i) then some x else Kf n0 ops.size (p.mm k) L al s.h.t b := by
          funext b
          by_cases hb : b = 2 * (n0 + i)
          · rw [if_pos hb, hb, Kf_yes hilt (upd_self L i) hmm (by rw [hal]; rfl), hal]
          · rw [if_neg hb]
            unfold Kf
            by_cases hbi : b / 2 - n0 = i
            · have : resv n0 ops.size b = false := by
                cases e : resv n0 ops.size b with
                | false => rfl
                | true =>
                  obtain ⟨j, hj, hb'⟩ := resv_of e
                  exfalso
                  rw [hb', (resv_at hj).2] at hbi
                  exact hb (by rw [hb', hbi])
              rw [this]
              rfl
            · rw [upd_ne hbi]
        rw [e]
        exact R.kr.new hg (by omega) (fun b c hb ho1 => by rcases R.odd b c hb ho1 with q | q <;> omega) hx
      · rcases hb with hb | ⟨hb, _⟩
        · exact R.lt b c hb
        · have := I.nm
          show b < 2 * s.h.n
          omega
      · rcases hb with hb | ⟨hb, _⟩
        · exact R.odd b c hb ho1
        · omega
      · by_cases e : j = i
        · rw [e, upd_self]
        · rw [upd_ne e]
          rcases hr with hr | ⟨hr, _⟩
          · exact R.rsv j c hj hr
          · omega
      · refine ⟨R.fr.le.trans fun _ _ h => .inl h, R.fr.lt, by simp; have := R.fr.size; omega, R.fr.n, fun b c hb hc => ?_, R.fr.old, fun c hc hn => ?_, R.fr.os, R.fr.tape, R.fr.output⟩
        · rcases hb with hb | ⟨hb1, hb2⟩
          · exact R.fr.new b c hb hc
          · have := R.fr.size
            omega
        · rw [← R.fr.heap c hc hn]
          have : c ≠ w.heap.size := by have := R.fr.size; omega
          simp [Array.getElem?_push, this]
  · rw [if_pos hw]
    have hk1 : kindC o = 1 := by omega
    obtain ⟨u, he, hu⟩ := hr hw hk1
    unfold Oper.wp
    have hcand : ∀ j ∈ p.cand ops.size k i, j < ops.size ∧ L j = true ∧ bt (p.mm k) j = false := fun j hj => by
      unfold Plan.cand at hj
      obtain ⟨h1, h2⟩ := List.mem_filter.1 hj
      simp only [Bool.and_eq_true, Bool.not_eq_true'] at h2
      exact ⟨List.mem_range.1 h1, hm j h2.1, h2.2⟩
    have H := R.kr.sub ⟨heapF n0 al (p.cand ops.size k i) s.h.t, s.h.n⟩ (heapF_sub hcand I.rs) R.lt (R.oddN I)
    obtain ⟨v', h1, hv⟩ := evR_sound hz o hst (R.opds D ho hm) he H
    rw [h1]
    exact hK r _ w (still hob u v' hv fun t ht => ⟨(h2 t ht).1, hu t ht⟩)
end
end Go.Proofs.YtmjblbgalkjmiaaGreat.EX
/- Regions in whatever order: an operation of the chain; the whole. -/
namespace Go.Proofs.YtmjblbgalkjmiaaGreat.EX
open Go
section
variable {P : Program} {p : Plan} {ops : Array Oper}
theorem opStep_on (hz : Zc P) {r : Env} {s : St} {a : Act} {w : World} (H : HR r s.h w) (hT : Tidy s.h) (o : Oper) (ha : ∀ x, opdOK x = true → x ∈ o.op.operands → VR r (s.ev x) (a.eval x)) (x : Except Value Next) (h1 : Hp) (e : opStep P s o = some (x, h1)) :
    ∃ r' w', HR r' h1 w' ∧ Tidy h1 ∧ Fr r r' s.h h1 w w' ∧ match (generalizing := false) x with
      | .ok v => ∃ v', (execOp a.eval o).run P w = .ok v' w' ∧ NR r' v v'
      | .error v => ∃ v', (execOp a.eval o).run P w = .halt (.panic v') w' ∧ VR r' v v' := by
  unfold opStep at e
  split at e
  · rename_i hk
    have hst : statOK o = true := hk
    split at e
    · rename_i hok
      have key := run_SR _ _ r s.h w (SR_on hz o hst ha hok) H hT x h1 e
      cases x <;> exact key
    · have hops : ∀ x ∈ o.op.operands, opdOK x = true := fun x hx => by
        have := hk
        simp only [Bool.and_eq_true] at this
        exact List.all_eq_true.1 this.1 x (by simpa using hx)
      split at e
      · rename_i ts as hao
        split at e
        · rename_i v h2 hax
          cases e
          obtain ⟨r', w', q1, q2, q3, v', q4, q5⟩ := appX_sound hz H hT hao (fun x hx => ha x (hops x (appOp_mem hao x hx)) (appOp_mem hao x hx)) hax
          exact ⟨r', w', q1, q2, q3, .value v', q4, v', q5, rfl⟩
        · cases e
      · split at e
        · split at e
          · rename_i n u hmx
            cases e
            obtain ⟨r', w', q1, q2, q3, q4⟩ := mapX_sound H hT (fun x hx => ha x (hops x hx) hx) hmx
            exact ⟨r', w', q1, q2, q3, q4⟩
          · cases e
        split at e
        case isFalse =>
          split at e
          · rename_i v b ob n1 hmk
            cases e
            obtain ⟨r', w', q1, q2, q3, v', q4, q5⟩ := markX_sound H hT (fun x hx => ha x (hops x hx) hx) hmk
            exact ⟨r', w', q1, q2, q3, .value v', q4, v', q5, rfl⟩
          · split at e
            · rename_i v hct
              cases e
              obtain ⟨v', q1, q2⟩ := cutX_sound H (fun x hx => ha x (hops x hx) hx) hct
              exact ⟨r, w, H, hT, .refl H, .value v', q1, v', q2, rfl⟩
            · cases e
        rename_i hcl
        split at e
        · rename_i v hv
          split at e
          · rename_i hc
            cases e
            have hclo : clo P s.ev o = some v := by
              unfold clo
              rw [if_pos hcl, hv]
              simp [hc]
            obtain ⟨q1, q2⟩ := clo_sound o hst ha hclo
            exact ⟨r, w, H, hT, .refl H, .value v, q2 w, v, q1, rfl⟩
          · cases e
        · cases e
  · cases e
variable {n0 k : Nat} {r0 : Env} {h0 : Hp} {w0 : World} {L : Nat → Bool} {s : St} {al : T Obj} {r : Env} {a : Act} {w : World}
theorem fr_part (F : Fr r0 r h0 s.h w0 w) (hn : h0.n = n0) {js : List Nat} : Fr r0 r h0 ⟨heapF n0 al js s.h.t, s.h.n⟩ w0 w :=
  ⟨F.le, F.lt, F.size, F.n, F.new, fun b hb hl => by
    rcases heapF_live hl with h | ⟨j, _, h, _⟩
    · exact F.old b hb h
    · omega, F.heap, F.os, F.tape, F.output⟩
theorem part_tidy (I : DI p ops n0 k s al) {js : List Nat} (hj : ∀ j ∈ js, j < ops.size) : Tidy ⟨heapF n0 al js s.h.t, s.h.n⟩ := by
  intro b hb
  cases e : (heapF n0 al js s.h.t).get b with
  | none => rfl
  | some u =>
    exfalso
    have := I.nm
    rcases heapF_live (by rw [e]; rfl) with h | ⟨j, h1, h2, _⟩
    · have := I.lt b h
      simp only at hb
      omega
    · have := hj j h1
      simp only at hb
      omega
theorem chain_step (hz : Zc P) {call : FuncId → Array Value → Hp → (Value → Hp → An) → An} (hc : CallK P call) (D : DrOK p ops) (hn : h0.n = n0) {Q : Exit → Act → World → Prop} {K : Act → World → Prop} (R : DRel p ops n0 k r0 h0 w0 L s al r a w) (I : DI p ops n0 k s al) (hk : k < p.ch.length) {o : Oper} (ho : ops[p.ch.getD k 0]? = some o)
    (hm : ∀ j, bt (p.mask (p.ch.getD k 0)) j = true → L j = true) {q : St → An} (hth : Th1 q) {N : Prop} (h : chK P call n0 ops.size ops.toList p k s al q N)
    (hK : ∀ s1 N' r' a' w', q s1 N' → DRel p ops n0 (k + 1) r0 h0 w0 (upd L (p.ch.getD k 0)) s1 al r' a' w' → DI p ops n0 (k + 1) s1 al → s1.nt = s.nt → (∀ t, o.dst ≠ some t → s1.tm.get t = s.tm.get t) → K a' w') :
    if Region.wanted o (yielded ops a.tmps) = true then o.wp P a w K Q else K (a.put o.dst undef) w := by
  unfold chK at h
  have ho' : ops.toList[p.ch.getD k 0]? = some o := by simpa using ho
  rw [ho'] at h
  dsimp only at h
  rw [getH_eq, heapK_eq, withT_eq, withH_eq] at h
  have hcand : ∀ j ∈ p.cand ops.size k (p.ch.getD k 0), j < ops.size ∧ L j = true ∧ bt (p.mm k) j = false := fun j hj => by
    unfold Plan.cand at hj
    obtain ⟨h1, h2⟩ := List.mem_filter.1 hj
    simp only [Bool.and_eq_true, Bool.not_eq_true'] at h2
    exact ⟨List.mem_range.1 h1, hm j h2.1, h2.2⟩
  have H := R.kr.sub ⟨heapF n0 al (p.cand ops.size k (p.ch.getD k 0)) s.h.t, s.h.n⟩ (heapF_sub hcand I.rs) R.lt (R.oddN I)
  have HT := part_tidy I fun j hj => (hcand j hj).1
  have fin : ∀ (r2 : Env) (w2 : World) (h2 : Hp) (v v' : Value) (s1 : St) (N' : Prop), HR r2 h2 w2 → Fr r r2 ⟨heapF n0 al (p.cand ops.size k (p.ch.getD k 0)) s.h.t, s.h.n⟩ h2 w w2 → VR r2 v v' → St.put ⟨s.tm, s.nt, s.ds, h2⟩ o.dst v = some s1 → q s1 N' → K (a.put o.dst v') w2 := by
    intro r2 w2 h2 v v' s1 N' H2 F hv hp hq
    obtain ⟨p1, p2, p3, p4⟩ := put_get hp
    have p1' : s1.h = h2 := p1
    obtain ⟨c1, c2, c3⟩ := chain_heap D hk (H := s.h.t) (n := s.h.n) rfl I hm R.kr (R.oddN I) H2 F
    refine hK s1 N' r2 _ w2 hq ⟨by rw [put_ds hp]; exact put_defers (R.defers.mono F.le) _ _, (put_size _ _ _).trans (R.size.trans p2.symm), ?_, by rw [p1']; exact c1, fun b c hb => by rw [p1']; exact H2.lt b c hb, fun b c hb ho1 => ?_, fun j c hj hr => ?_, ?_⟩ ⟨?_, by rw [p1']; exact c2, by rw [p1']; exact c3, I.al⟩ p2 (fun t ht => p3 t ht)
    · exact put_slots F.le R.size R.slots ho hv (fun t ht => p3 t ht) fun t ht => ⟨(p4 t ht).1, by rw [(p4 t ht).2]; rfl⟩
    · rw [p1']
      have hb7 := H2.odd b c hb ho1
      by_cases hbn : b < 2 * s.h.n
      · have hr' := (F.new _ _ hb (.inr hbn)).elim id fun q => absurd q.1 (by show ¬ 2 * s.h.n ≤ b; omega)
        have := F.n
        rcases R.odd b c hr' ho1 with q | q
        · exact .inl q
        · exact .inr ⟨q.1, hb7⟩
      · have := I.nm
        exact .inr ⟨by omega, hb7⟩
    · have hlt : 2 * (n0 + j) < 2 * s.h.n := by have := I.nm; omega
      have hr' := (F.new _ _ hr (.inr hlt)).elim id fun h => absurd h.1 (by show ¬ 2 * s.h.n ≤ 2 * (n0 + j); omega)
      have := R.rsv j c hj hr'
      unfold upd
      rw [this, Bool.or_true]
    · rw [p1']
      exact (fr_part R.fr hn).trans F
    · rw [p1']
      have := F.n
      have := I.nm
      simp only at *
      omega
  rw [R.wanted D ho hm]
  unfold oneK at h
  rw [wantK_eq] at h
  have hwd : Region.wanted o (yieldT ⟨s.tm, s.nt, s.ds, ⟨heapF n0 al (p.cand ops.size k (p.ch.getD k 0)) s.h.t, s.h.n⟩⟩ ops.toList) = Region.wanted o (yieldT s ops.toList) := rfl
  rw [hwd] at h
  cases hw : Region.wanted o (yieldT s ops.toList) with
  | false =>
    rw [hw] at h
    rw [if_neg (by decide)]
    obtain ⟨s1, hp, hq⟩ := putK_some h
    exact fin r w _ undef undef s1 N H (.refl H) ((VR.closed 3 undef undef rfl).2 rfl) hp hq
  | true =>
    rw [hw] at h
    dsimp only [cond] at h
    rw [if_pos rfl]
    unfold Oper.wp
    obtain ⟨x, h1, he, hx⟩ := armC_ex hz h
    cases x with
    | error v => exact hx.elim
    | ok x =>
      obtain ⟨r1, w1, H1, T1, F1, n', hn', hnr⟩ := opStep_on hz (s := ⟨s.tm, s.nt, s.ds, ⟨heapF n0 al (p.cand ops.size k (p.ch.getD k 0)) s.h.t, s.h.n⟩⟩) H HT o (R.opds D ho hm) _ h1 he
      rw [hn']
      cases x with
      | value v =>
        obtain ⟨v', hv, rfl⟩ := hnr
        obtain ⟨s1, hp, hq⟩ := putK_some hx
        exact fin r1 w1 h1 v v' s1 N H1 F1 hv hp hq
      | skip =>
        have hnr' : n' = .skip := hnr
        subst hnr'
        obtain ⟨s1, hp, hq⟩ := putK_some hx
        exact fin r1 w1 h1 undef undef s1 N H1 F1 ((VR.closed 3 undef undef rfl).2 rfl) hp hq
      | enter f args =>
        obtain ⟨args', ha, rfl⟩ := hnr
        refine (hc f args h1 _ N (fun v h2 N h => putK_th hth h) hx r1 w1 args' H1 T1 ha).mono fun e' w2 kk => ?_
        obtain ⟨v, h2, n2, hkk, r2, v', rfl, hv, H2, T2, F2⟩ := kk
        obtain ⟨s1, hp, hq⟩ := putK_some hkk
        exact fin r2 w2 h2 v v' s1 n2 H2 (F1.trans F2) hv hp hq
      | _ => exact hx.elim
/-- Operations that may come. -/
theorem ready_iff {listed : Array Bool} {i : Nat} : i ∈ Region.ready .any ops listed ↔ listed.getD i true = false ∧ ∃ o, ops[i]? = some o ∧ ∀ e ∈ edg o, listed.getD e false = true := by
  unfold Region.ready
  rw [List.mem_filter, List.mem_range]
  constructor
  · rintro ⟨h1, h2⟩
    simp only [Bool.and_eq_true, Bool.not_eq_true'] at h2
    obtain ⟨o, ho⟩ := at_lt h1
    rw [ho] at h2
    refine ⟨h2.1, o, ho, fun e he => ?_⟩
    unfold edg at he
    obtain ⟨x, hx, rfl⟩ := List.mem_map.1 he
    obtain ⟨hx1, hx2⟩ := List.mem_filter.1 hx
    have h3 := h2.2
    simp only [Option.map_some, Option.getD_some, Array.all_eq_true_iff_forall_mem] at h3
    have := h3 x (by simpa using hx1)
    rw [hx2] at this
    simpa using this
  · rintro ⟨h1, o, ho, h2⟩
    refine ⟨lt_at ho, ?_⟩
    rw [h1, ho]
    simp only [Bool.not_false, Bool.true_and, Option.map_some, Option.getD_some, Array.all_eq_true_iff_forall_mem]
    intro x hx
    cases hb : Region.binds .any x with
    | false => rfl
    | true =>
      simp only [Bool.not_true, Bool.false_or]
      exact h2 x.on (by unfold edg; exact List.mem_map.2 ⟨x, List.mem_filter.2 ⟨by simpa using hx, hb⟩, rfl⟩)
end
end Go.Proofs.YtmjblbgalkjmiaaGreat.EX
