/- Entries of maps found and set, by keys without blocks. -/
import Derived.Test.YtmjblbgalkjmiaaGreatBY3
import Derived.Orders
import Derived.Tactics
namespace Go.Proofs.YtmjblbgalkjmiaaGreat.EX
open Go
section
variable {P : Program}
/-- The place of a key. -/
def findA (P : Program) (t : TypeId) (k : Value) : List MapEntry → Nat → Option (Option Nat)
  | [], _ => some none
  | e :: es, i => match runP P (Op.equal t k e.key) with
    | some true => some (some i)
    | some false => findA P t k es (i + 1)
    | none => none
def findX (P : Program) (t : TypeId) (k : Value) (es : List MapEntry) : Option (Option Nat) :=
  match runP P (underlying t) with
  | some d => match Instr.findNow d k es 0 with
    | some r => some (r.map (·.1))
    | none => findA P t k es 0
  | none => none
/-- What is found, in entries alike. -/
def FoundR (es' : List MapEntry) (i : Nat) : Option Nat → Option (Nat × Value) → Prop
  | none, x => x = none
  | some j, x => ∃ k e', j = i + k ∧ es'[k]? = some e' ∧ x = some (j, e'.val)
theorem FoundR.cons {es' : List MapEntry} {i : Nat} {o : Option Nat} {x : Option (Nat × Value)} (e : MapEntry) (h : FoundR es' (i + 1) o x) : FoundR (e :: es') i o x := by
  cases o with
  | none => exact h
  | some j =>
    obtain ⟨k, e', h1, h2, h3⟩ := h
    exact ⟨k + 1, e', by omega, by simpa using h2, h3⟩
theorem findA_run {r : Env} (t : TypeId) (k : Value) (w : World) : ∀ (es es' : List MapEntry) (i : Nat) (o : Option Nat), ER r es es' → findA P t k es i = some o → ∃ x, (Instr.findAsking t k es' i).run P w = .ok x w ∧ FoundR es' i o x
  | [], es', i, o, h, e => by
    cases h
    cases e
    exact ⟨none, rfl, rfl⟩
  | y :: s, es', i, o, h, e => by
    obtain ⟨g, v, s', h1, h2, rfl⟩ := h
    unfold findA at e
    cases q : runP P (Op.equal t k y.key) with
    | none => rw [q] at e; cases e
    | some b =>
      rw [q] at e
      have hr := run_runP _ _ q w
      cases b with
      | true =>
        cases e
        refine ⟨some (i, v), ?_, 0, ⟨y.key, v, y.born⟩, rfl, rfl, rfl⟩
        unfold Instr.findAsking
        rw [Sem.run_bind, hr]
        rfl
      | false =>
        obtain ⟨x, h3, h4⟩ := findA_run t k w s s' (i + 1) o h2 e
        refine ⟨x, ?_, h4.cons _⟩
        unfold Instr.findAsking
        rw [Sem.run_bind, hr]
        exact h3
theorem findNow_alike {r : Env} (d : TypeDesc) (k : Value) : ∀ (es es' : List MapEntry) (i : Nat), ER r es es' → match Instr.findNow d k es i, Instr.findNow d k es' i with
    | some a, some b => FoundR es' i (a.map (·.1)) b
    | none, none => True
    | _, _ => False
  | [], es', i, h => by cases h; rfl
  | y :: s, es', i, h => by
    obtain ⟨g, v, s', h1, h2, rfl⟩ := h
    have ih := findNow_alike d k s s' (i + 1) h2
    simp only [Instr.findNow]
    cases Instr.sameNow d k y.key with
    | none => trivial
    | some b =>
      cases b with
      | true => exact ⟨0, ⟨y.key, v, y.born⟩, rfl, rfl, rfl⟩
      | false =>
        dsimp only
        cases q1 : Instr.findNow d k s (i + 1) with
        | none =>
          cases q2 : Instr.findNow d k s' (i + 1) with
          | none => trivial
          | some b => rw [q1, q2] at ih; exact ih.elim
        | some a =>
          cases q2 : Instr.findNow d k s' (i + 1) with
          | none => rw [q1, q2] at ih; exact ih.elim
          | some b => rw [q1, q2] at ih; exact FoundR.cons _ ih
theorem findX_run {r : Env} (t : TypeId) (k : Value) (w : World) {es es' : List MapEntry} {o : Option Nat} (h : ER r es es') (e : findX P t k es = some o) : ∃ x, (Instr.findKey t k es').run P w = .ok x w ∧ FoundR es' 0 o x := by
  unfold findX at e
  cases q : runP P (underlying t) with
  | none => rw [q] at e; cases e
  | some d =>
    rw [q] at e
    dsimp only at e
    have hr := run_runP _ _ q w
    have hn := findNow_alike d k es es' 0 h
    unfold Instr.findKey
    rw [Sem.run_bind, hr]
    cases q1 : Instr.findNow d k es 0 with
    | some a =>
      rw [q1] at e hn
      cases q2 : Instr.findNow d k es' 0 with
      | none => rw [q2] at hn; exact hn.elim
      | some b =>
        rw [q2] at hn
        cases e
        exact ⟨b, by show (match Instr.findNow d k es' 0 with | some r => pure r | none => Instr.findAsking t k es' : Sem _).run P w = _; rw [q2]; rfl, hn⟩
    | none =>
      rw [q1] at e hn
      cases q2 : Instr.findNow d k es' 0 with
      | some b => rw [q2] at hn; exact hn.elim
      | none =>
        obtain ⟨x, h1, h2⟩ := findA_run t k w es es' 0 o h e
        exact ⟨x, by show (match Instr.findNow d k es' 0 with | some r => pure r | none => Instr.findAsking t k es' : Sem _).run P w = _; rw [q2]; exact h1, h2⟩
/-- The entries of a map. -/
def entriesX (h : Hp) : Value → Option (List MapEntry)
  | .map none => some []
  | .map (some b) => match h.t.get b with
    | some (.map ⟨es⟩ _) => some es
    | _ => none
  | _ => none
def okV (ok : Bool) (v : Value) (b : Bool) : Value := bif ok then .tuple ⟨[v, .bool b]⟩ else v
def lookP (P : Program) (xt : TypeId) (x k : Value) (ok : Bool) (h : Hp) : Option Value :=
  match runP P (underlying xt) with
  | some (.map key elem) => match entriesX h x with
    | some es => bif closed 64 k then match runP P (Instr.checkKey es.isEmpty 10000 key k) with
      | some _ => match findX P key k es with
        | some (some j) => match es[j]? with
          | some e => some (okV ok e.val true)
          | none => none
        | some none => match runP P (zeroValue elem) with
          | some v => bif closed 64 v then some (okV ok v false) else none
          | none => none
        | none => none
      | none => none
      else none
    | none => none
  | _ => none
theorem okV_alike {r : Env} {ok b : Bool} {v v' : Value} (h : VR r v v') : VR r (okV ok v b) (okV ok v' b) := by
  cases ok with
  | false => exact h
  | true =>
    show VR r (.tuple ⟨[v, .bool b]⟩) (.tuple ⟨[v', .bool b]⟩)
    exact VRs.pair h (VR.bl r b)
def lookTail (key elem : TypeId) (k : Value) (ok : Bool) (es : Array MapEntry) : Sem Value := do
  Instr.checkKey es.isEmpty 10000 key k
  let (v, b) ← match ← Instr.findKey key k es.toList with
    | some (_, v) => pure (v, true)
    | none => pure (← zeroValue elem, false)
  pure (if ok then .tuple #[v, .bool b] else v)
theorem lookup_nil {xt key elem : TypeId} {k : Value} {ok : Bool} {w : World} (h : runP P (underlying xt) = some (.map key elem)) : (Instr.lookup xt (.map none) k ok).run P w = (lookTail key elem k ok #[]).run P w := by
  unfold Instr.lookup
  rw [Sem.run_bind, run_runP _ _ h w]
  rfl
theorem lookup_some {xt key elem : TypeId} {k : Value} {ok : Bool} {w : World} {b c : Nat} {es : Array MapEntry} (h : runP P (underlying xt) = some (.map key elem)) (hb : w.heap[b]? = some (.map es c)) : (Instr.lookup xt (.map (some b)) k ok).run P w = (lookTail key elem k ok es).run P w := by
  unfold Instr.lookup
  rw [Sem.run_bind, run_runP _ _ h w]
  have : (getObj b).run P w = .ok (.map es c) w := by
    simp [getObj, Sem.run, hb]
  show ((getObj b) >>= _ : Sem Value).run P w = _
  rw [Sem.run_bind, this]
  rfl
theorem lookTail_run {r : Env} {w : World} {key elem : TypeId} {k : Value} {ok : Bool} {v : Value} {es es' : List MapEntry} (hE : ER r es es') {u : Unit} (q3 : runP P (Instr.checkKey es.isEmpty 10000 key k) = some u)
    (e : (match findX P key k es with
        | some (some j) => match es[j]? with
          | some e => some (okV ok e.val true)
          | none => none
        | some none => match runP P (zeroValue elem) with
          | some v => bif closed 64 v then some (okV ok v false) else none
          | none => none
        | none => none) = some v) : ∃ v', (lookTail key elem k ok ⟨es'⟩).run P w = .ok v' w ∧ VR r v v' := by
  have hem : (Array.isEmpty (⟨es'⟩ : Array MapEntry)) = es.isEmpty := by
    rw [← Array.isEmpty_toList]
    cases es with
    | nil => cases hE; rfl
    | cons _ _ => obtain ⟨_, _, _, _, _, rfl⟩ := hE; rfl
  unfold lookTail
  rw [hem, Sem.run_bind, run_runP _ _ q3 w]
  cases q5 : findX P key k es with
  | none => rw [q5] at e; cases e
  | some o =>
    rw [q5] at e
    obtain ⟨x, h4, h5⟩ := findX_run key k w hE q5
    dsimp only [Result.andThen]
    rw [Sem.run_bind, h4]
    dsimp only [Result.andThen]
    cases o with
    | none =>
      have h5' : x = none := h5
      subst h5'
      dsimp only at e ⊢
      cases q6 : runP P (zeroValue elem) with
      | none => rw [q6] at e; cases e
      | some z =>
        rw [q6] at e
        dsimp only at e
        cases q7 : closed 64 z with
        | false => rw [q7] at e; cases e
        | true =>
          rw [q7] at e
          cases e
          refine ⟨okV ok z false, ?_, okV_alike ((VR.closed 64 z z q7).2 rfl)⟩
          rw [Sem.run_bind, run_runP _ _ q6 w]
          cases ok <;> rfl
    | some j =>
      obtain ⟨j', e', hj, g1, rfl⟩ := h5
      dsimp only at e ⊢
      have hj' : j = j' := by omega
      subst hj'
      have hat := ER.at hE j
      rw [g1] at hat
      cases q6 : es[j]? with
      | none => rw [q6] at e; cases e
      | some y =>
        rw [q6] at e hat
        cases e
        refine ⟨okV ok e'.val true, ?_, okV_alike hat.2.2.2⟩
        cases ok <;> rfl
theorem lookP_sound {r : Env} {h : Hp} {w : World} (H : HR r h w) {xt : TypeId} {x x' k k' : Value} {ok : Bool} {v : Value} (hx : VR r x x') (hk : VR r k k') (e : lookP P xt x k ok h = some v) :
    ∃ v', (Instr.lookup xt x' k' ok).run P w = .ok v' w ∧ VR r v v' := by
  unfold lookP at e
  cases q0 : runP P (underlying xt) with
  | none => rw [q0] at e; cases e
  | some d =>
    rw [q0] at e
    cases d with
    | map key elem =>
      dsimp only at e
      cases q1 : entriesX h x with
      | none => rw [q1] at e; cases e
      | some es =>
        rw [q1] at e
        dsimp only at e
        cases q2 : closed 64 k with
        | false => rw [q2] at e; cases e
        | true =>
          rw [q2] at e
          dsimp only [cond] at e
          have hkk : k' = k := (VR.closed 64 k k' q2).1 hk
          subst hkk
          cases q3 : runP P (Instr.checkKey es.isEmpty 10000 key k') with
          | none => rw [q3] at e; cases e
          | some u =>
            rw [q3] at e
            cases x with
            | map m =>
              cases m with
              | none =>
                cases hx
                cases q1
                rw [lookup_nil q0]
                exact lookTail_run (es := []) (es' := []) (by rfl : ER r [] []) q3 e
              | some b =>
                obtain ⟨b', hb, rfl⟩ := hx
                simp only [entriesX] at q1
                cases q4 : h.t.get b with
                | none => rw [q4] at q1; cases q1
                | some o =>
                  rw [q4] at q1
                  cases o with
                  | map es0 c =>
                    obtain ⟨es0⟩ := es0
                    cases q1
                    obtain ⟨c1, o1, g1, g2, g3⟩ := H.live b _ q4
                    cases H.fn _ _ _ hb g1
                    replace g3 := g3.obj (fun _ _ _ q => by cases q)
                    simp only [OR] at g3
                    obtain ⟨es', g4, rfl⟩ := g3
                    rw [lookup_some q0 g2]
                    exact lookTail_run g4 q3 e
                  | _ => cases q1
            | _ => cases q1
    | _ => cases e
/-- A map with an entry set: its block, its entries, its clock. -/
def updP (P : Program) (t : TypeId) (m k v : Value) (h : Hp) : Option (Nat × List MapEntry × Nat) :=
  match runP P (underlying t) with
  | some (.map key _) => match m with
    | .map (some b) => match h.t.get b with
      | some (.map ⟨es⟩ c) => bif closed 64 k then match runP P (Instr.checkKey false 10000 key k) with
        | some _ => match findX P key k es with
          | some (some j) => match es[j]? with
            | some e => bif Instr.sameBits 10000 e.key k then some (b, es.set j ⟨k, v, e.born⟩, c) else none
            | none => none
          | some none => some (b, es ++ [⟨k, v, c⟩], Nat.succ c)
          | none => none
        | none => none
        else none
      | _ => none
    | _ => none
  | _ => none
theorem ER.set {r : Env} {k v v' : Value} (hk : Rig k) (hv : VR r v v') : ∀ {es es' : List MapEntry} {j : Nat} {e : MapEntry}, ER r es es' → es[j]? = some e → ER r (es.set j ⟨k, v, e.born⟩) (es'.modify j fun e => { e with key := k, val := v' })
  | [], _, _, _, h, q => by cases q
  | y :: s, es', j, e, h, q => by
    obtain ⟨g, u, s', h1, h2, rfl⟩ := h
    cases j with
    | zero => cases q; exact ⟨hk, v', s', hv, h2, rfl⟩
    | succ j =>
      have ih := ER.set hk hv h2 (show s[j]? = some e by simpa using q)
      exact ⟨g, u, _, h1, ih, rfl⟩
theorem updP_sound {r : Env} {h : Hp} {w : World} (H : HR r h w) (hT : Tidy h) {t : TypeId} {m m' k k' v v' : Value} (hm : VR r m m') (hk : VR r k k') (hv : VR r v v') {b c : Nat} {es : List MapEntry} (e : updP P t m k v h = some (b, es, c)) :
    ∃ r' w', (Instr.mapUpdate t m' k' v').run P w = .ok () w' ∧ HR r' ⟨h.t.set b (some (.map ⟨es⟩ c)), h.n⟩ w' ∧ Tidy ⟨h.t.set b (some (.map ⟨es⟩ c)), h.n⟩ ∧ Fr r r' h ⟨h.t.set b (some (.map ⟨es⟩ c)), h.n⟩ w w' := by
  unfold updP at e
  cases q0 : runP P (underlying t) with
  | none => rw [q0] at e; cases e
  | some d =>
    rw [q0] at e
    cases d with
    | map key elem =>
      dsimp only at e
      cases m with
      | map mm =>
        cases mm with
        | none => cases e
        | some b0 =>
          obtain ⟨b', hb, rfl⟩ := hm
          dsimp only at e
          cases q1 : h.t.get b0 with
          | none => rw [q1] at e; cases e
          | some o =>
            rw [q1] at e
            cases o with
            | map es0 c0 =>
              obtain ⟨es0⟩ := es0
              dsimp only at e
              cases q2 : closed 64 k with
              | false => rw [q2] at e; cases e
              | true =>
                rw [q2] at e
                dsimp only [cond] at e
                have hkk : k' = k := (VR.closed 64 k k' q2).1 hk
                subst hkk
                have rig : Rig k' := fun r v => VR.closed 64 k' v q2
                cases q3 : runP P (Instr.checkKey false 10000 key k') with
                | none => rw [q3] at e; cases e
                | some u =>
                  rw [q3] at e
                  obtain ⟨c1, o1, g1, g2, g3⟩ := H.live b0 _ q1
                  cases H.fn _ _ _ hb g1
                  replace g3 := g3.obj (fun _ _ _ q => by cases q)
                  simp only [OR] at g3
                  obtain ⟨es', hE, rfl⟩ := g3
                  dsimp only at e
                  have set : ∀ (es1 es2 : List MapEntry) (c2 : Nat), ER r es1 es2 → ∃ r' w', (Go.setObj b' (.map ⟨es2⟩ c2)).run P w = .ok () w' ∧ HR r' ⟨h.t.set b0 (some (.map ⟨es1⟩ c2)), h.n⟩ w' ∧ Tidy ⟨h.t.set b0 (some (.map ⟨es1⟩ c2)), h.n⟩ ∧ Fr r r' h ⟨h.t.set b0 (some (.map ⟨es1⟩ c2)), h.n⟩ w w' := fun es1 es2 c2 hE2 => by
                    obtain ⟨r', w', p1, p2, p3, _, p4, _⟩ := run_SR (P := P) _ _ r h w (SR.setO hb (show OR r (.map ⟨es1⟩ c2) (.map ⟨es2⟩ c2) from ⟨es2, hE2, rfl⟩)) H hT (.ok ()) ⟨h.t.set b0 (some (.map ⟨es1⟩ c2)), h.n⟩ (by simp [Go.setObj, runX, q1])
                    exact ⟨r', w', p4, p1, p2, p3⟩
                  cases q5 : findX P key k' es0 with
                  | none => rw [q5] at e; cases e
                  | some o =>
                    rw [q5] at e
                    obtain ⟨x, h4, h5⟩ := findX_run key k' w hE q5
                    have hget : (getObj b').run P w = .ok (.map ⟨es'⟩ c0) w := by simp [getObj, Sem.run, g2]
                    have head : ∀ (R : Result Unit), ((match (generalizing := false) x with
                        | some (i, _) => do
                          let key ← Instr.keyThatStays ((((⟨es'⟩ : Array MapEntry)[i]?).map (·.key)).getD k') k'
                          Go.setObj b' (.map ((⟨es'⟩ : Array MapEntry).modify i fun e => { e with key, val := v' }) c0)
                        | none => Go.setObj b' (.map ((⟨es'⟩ : Array MapEntry).push { key := k', val := v', born := c0 }) (c0 + 1)) : Sem Unit).run P w = R) → (Instr.mapUpdate t (.map (some b')) k' v').run P w = R := fun R hR => by
                      unfold Instr.mapUpdate
                      rw [Sem.run_bind, run_runP _ _ q0 w]
                      dsimp only [Result.andThen]
                      rw [Sem.run_bind, hget]
                      dsimp only [Result.andThen]
                      rw [Sem.run_bind, run_runP _ _ q3 w]
                      dsimp only [Result.andThen]
                      rw [Sem.run_bind, h4]
                      dsimp only [Result.andThen]
                      exact hR
                    cases o with
                    | none =>
                      have h5' : x = none := h5
                      subst h5'
                      cases e
                      obtain ⟨r', w', p1, p2⟩ := set (es0 ++ [⟨k', v, c0⟩]) (es' ++ [⟨k', v', c0⟩]) (c0 + 1) (ER.append hE ⟨rig, v', [], hv, rfl, rfl⟩)
                      refine ⟨r', w', head _ ?_, p2⟩
                      simpa using p1
                    | some j =>
                      obtain ⟨j', e', hj, g4, rfl⟩ := h5
                      have hj' : j = j' := by omega
                      subst hj'
                      have hat := ER.at hE j
                      rw [g4] at hat
                      dsimp only at e
                      cases q6 : es0[j]? with
                      | none => rw [q6] at e; cases e
                      | some y =>
                        rw [q6] at e hat
                        dsimp only at e
                        cases q7 : Instr.sameBits 10000 y.key k' with
                        | false => rw [q7] at e; cases e
                        | true =>
                          rw [q7] at e
                          cases e
                          obtain ⟨r', w', p1, p2⟩ := set _ _ _ (ER.set rig hv hE q6)
                          refine ⟨r', w', head _ ?_, p2⟩
                          dsimp only
                          have hst : (Instr.keyThatStays ((((⟨es'⟩ : Array MapEntry)[j]?).map (·.key)).getD k') k').run P w = .ok k' w := by
                            have : (((⟨es'⟩ : Array MapEntry)[j]?).map (·.key)).getD k' = y.key := by
                              have g4' : (⟨es'⟩ : Array MapEntry)[j]? = some e' := by simpa using g4
                              rw [g4']
                              exact hat.1
                            rw [this]
                            unfold Instr.keyThatStays
                            rw [if_pos q7]
                            rfl
                          rw [Sem.run_bind, hst]
                          dsimp only [Result.andThen]
                          have hmod : (⟨es'⟩ : Array MapEntry).modify j (fun e => { e with key := k', val := v' }) = ⟨es'.modify j fun e => { e with key := k', val := v' }⟩ := by
                            apply Array.toList_inj.1
                            simp
                          rw [hmod]
                          exact p1
            | _ => cases e
      | _ => cases e
    | _ => cases e
/-- A map with an entry taken out. -/
def delP (P : Program) (ts : Array TypeId) (args : Array Value) (h : Hp) : Option (Nat × List MapEntry × Nat) :=
  match ts[0]?, args[0]?, args[1]? with
  | some t, some (Value.map (some b)), some k => match runP P (underlying t) with
    | some (.map key _) => match h.t.get b with
      | some (.map ⟨es⟩ c) => bif closed 64 k then match runP P (Instr.checkKey es.isEmpty 10000 key k) with
        | some _ => match findX P key k es with
          | some (some j) => some (b, es.eraseIdx j, c)
          | some none => some (b, es, c)
          | none => none
        | none => none
        else none
      | _ => none
    | _ => none
  | _, _, _ => none
theorem ER.erase {r : Env} : ∀ {es es' : List MapEntry} (j : Nat), ER r es es' → ER r (es.eraseIdx j) (es'.eraseIdx j)
  | [], _, _, h => by cases h; rfl
  | y :: s, es', j, h => by
    obtain ⟨g, u, s', h1, h2, rfl⟩ := h
    cases j with
    | zero => exact h2
    | succ j => exact ⟨g, u, _, h1, ER.erase j h2, rfl⟩
theorem delP_sound {r : Env} {h : Hp} {w : World} (H : HR r h w) (hT : Tidy h) {ts : Array TypeId} (ty : TypeId) {args args' : Array Value} (ha : AVs r args args') {b c : Nat} {es : List MapEntry} (e : delP P ts args h = some (b, es, c)) :
    ∃ r' w', (Builtin.delete_ ts ty args').run P w = .ok (.tuple #[]) w' ∧ HR r' ⟨h.t.set b (some (.map ⟨es⟩ c)), h.n⟩ w' ∧ Tidy ⟨h.t.set b (some (.map ⟨es⟩ c)), h.n⟩ ∧ Fr r r' h ⟨h.t.set b (some (.map ⟨es⟩ c)), h.n⟩ w w' := by
  unfold delP at e
  have a0 := VRs.at ha 0
  have a1 := VRs.at ha 1
  split at e
  case h_2 => cases e
  rename_i t b0 k f0 f1 f2
  rw [f1] at a0
  rw [f2] at a1
  cases e0 : args'[0]? with
  | none => rw [e0] at a0; exact a0.elim
  | some m' =>
  cases e1 : args'[1]? with
  | none => rw [e1] at a1; exact a1.elim
  | some k' =>
  rw [e0] at a0
  rw [e1] at a1
  obtain ⟨b', hb, rfl⟩ := (show VR r (.map (some b0)) m' from a0)
  have hk : VR r k k' := a1
  cases q0 : runP P (underlying t) with
  | none => rw [q0] at e; cases e
  | some d =>
    rw [q0] at e
    cases d with
    | map key elem =>
      dsimp only at e
      cases q1 : h.t.get b0 with
      | none => rw [q1] at e; cases e
      | some o =>
        rw [q1] at e
        cases o with
        | map es0 c0 =>
          obtain ⟨es0⟩ := es0
          dsimp only at e
          cases q2 : closed 64 k with
          | false => rw [q2] at e; cases e
          | true =>
            rw [q2] at e
            dsimp only [cond] at e
            have hkk : k' = k := (VR.closed 64 k k' q2).1 hk
            subst hkk
            cases q3 : runP P (Instr.checkKey es0.isEmpty 10000 key k') with
            | none => rw [q3] at e; cases e
            | some u =>
              rw [q3] at e
              obtain ⟨c1, o1, g1, g2, g3⟩ := H.live b0 _ q1
              cases H.fn _ _ _ hb g1
              replace g3 := g3.obj (fun _ _ _ q => by cases q)
              simp only [OR] at g3
              obtain ⟨es', hE, rfl⟩ := g3
              dsimp only at e
              have hem : (Array.isEmpty (⟨es'⟩ : Array MapEntry)) = es0.isEmpty := by
                rw [← Array.isEmpty_toList]
                cases es0 with
                | nil => cases hE; rfl
                | cons _ _ => obtain ⟨_, _, _, _, _, rfl⟩ := hE; rfl
              have set : ∀ (es1 es2 : List MapEntry) (c2 : Nat), ER r es1 es2 → ∃ r' w', (Go.setObj b' (.map ⟨es2⟩ c2)).run P w = .ok () w' ∧ HR r' ⟨h.t.set b0 (some (.map ⟨es1⟩ c2)), h.n⟩ w' ∧ Tidy ⟨h.t.set b0 (some (.map ⟨es1⟩ c2)), h.n⟩ ∧ Fr r r' h ⟨h.t.set b0 (some (.map ⟨es1⟩ c2)), h.n⟩ w w' := fun es1 es2 c2 hE2 => by
                obtain ⟨r', w', p1, p2, p3, _, p4, _⟩ := run_SR (P := P) _ _ r h w (SR.setO hb (show OR r (.map ⟨es1⟩ c2) (.map ⟨es2⟩ c2) from ⟨es2, hE2, rfl⟩)) H hT (.ok ()) ⟨h.t.set b0 (some (.map ⟨es1⟩ c2)), h.n⟩ (by simp [Go.setObj, runX, q1])
                exact ⟨r', w', p4, p1, p2, p3⟩
              cases q5 : findX P key k' es0 with
              | none => rw [q5] at e; cases e
              | some o =>
                rw [q5] at e
                obtain ⟨x, h4, h5⟩ := findX_run key k' w hE q5
                have hget : (getObj b').run P w = .ok (.map ⟨es'⟩ c0) w := by simp [getObj, Sem.run, g2]
                have head : ∀ (w2 : World), ((match (generalizing := false) x with
                    | some (i, _) => Go.setObj b' (.map ((⟨es'⟩ : Array MapEntry).eraseIdxIfInBounds i) c0)
                    | none => Go.setObj b' (.map (⟨es'⟩ : Array MapEntry) c0) : Sem Unit).run P w = .ok () w2) → (Builtin.delete_ ts ty args').run P w = .ok (.tuple #[]) w2 := fun w2 hR => by
                  unfold Builtin.delete_
                  rw [f0, e0, e1]
                  dsimp only
                  rw [Sem.run_bind, run_runP _ _ q0 w]
                  dsimp only [Result.andThen]
                  rw [Sem.run_bind, hget]
                  dsimp only [Result.andThen]
                  rw [hem, Sem.run_bind, run_runP _ _ q3 w]
                  dsimp only [Result.andThen]
                  rw [Sem.run_bind, h4]
                  dsimp only [Result.andThen]
                  cases x with
                  | none => rw [Sem.run_bind, hR]; rfl
                  | some p => obtain ⟨i, y⟩ := p; rw [Sem.run_bind, hR]; rfl
                cases o with
                | none =>
                  have h5' : x = none := h5
                  subst h5'
                  cases e
                  obtain ⟨r', w', p1, p2⟩ := set _ es' _ hE
                  exact ⟨r', w', head _ p1, p2⟩
                | some j =>
                  obtain ⟨j', e', hj, g4, rfl⟩ := h5
                  have hj' : j = j' := by omega
                  subst hj'
                  cases e
                  obtain ⟨r', w', p1, p2⟩ := set _ (es'.eraseIdx j) c (ER.erase j hE)
                  refine ⟨r', w', head _ ?_, p2⟩
                  dsimp only
                  have hlt : j < es'.length := (List.getElem?_eq_some_iff.1 g4).1
                  have her : (⟨es'⟩ : Array MapEntry).eraseIdxIfInBounds j = ⟨es'.eraseIdx j⟩ := by
                    unfold Array.eraseIdxIfInBounds
                    rw [dif_pos (show j < (⟨es'⟩ : Array MapEntry).size from hlt)]
                    apply Array.toList_inj.1
                    simp
                  rw [her]
                  exact p1
        | _ => cases e
    | _ => cases e
/-- Operations on entries of maps. -/
def mapOp : Op → Bool
  | .lookup .. | .mapUpdate .. | .insert .. => true
  | .call { callee := .builtin .delete, .. } => true
  | _ => false
def mapX (P : Program) (op : Op) (ev : Operand → Value) (h : Hp) : Option (Next × Option (Nat × List MapEntry × Nat)) :=
  match op with
  | .lookup t x k ok => match lookP P t (ev x) (ev k) ok h with
    | some v => some (.value v, none)
    | none => none
  | .mapUpdate t m k x => match updP P t (ev m) (ev k) (ev x) h with
    | some u => some (.skip, some u)
    | none => none
  | .insert t m k x => match updP P t (ev m) (ev k) (ev x) h with
    | some u => some (.skip, some u)
    | none => none
  | .call { callee := .builtin .delete, args := as, argTypes := ts } => match delP P ts (as.map ev) h with
    | some u => some (.value (.tuple #[]), some u)
    | none => none
  | _ => none
def mapH (u : Option (Nat × List MapEntry × Nat)) (h : Hp) : Hp :=
  match u with
  | none => h
  | some (b, es, c) => ⟨h.t.set b (some (.map ⟨es⟩ c)), h.n⟩
theorem mapX_sound {r : Env} {h : Hp} {w : World} (H : HR r h w) (hT : Tidy h) {ev ev' : Operand → Value} {o : Oper} (ha : ∀ x ∈ o.op.operands, VR r (ev x) (ev' x)) {n : Next} {u : Option (Nat × List MapEntry × Nat)} (e : mapX P o.op ev h = some (n, u)) :
    ∃ r' w', HR r' (mapH u h) w' ∧ Tidy (mapH u h) ∧ Fr r r' h (mapH u h) w w' ∧ ∃ n', (execOp ev' o).run P w = .ok n' w' ∧ NR r' n n' := by
  obtain ⟨dst, op, type, pos, after, guard⟩ := o
  have upd : ∀ (t : TypeId) (m k x : Operand), (∀ y ∈ [m, k, x], VR r (ev y) (ev' y)) → (match updP P t (ev m) (ev k) (ev x) h with
      | some u => some (Next.skip, some u)
      | none => none) = some (n, u) → ∃ r' w', HR r' (mapH u h) w' ∧ Tidy (mapH u h) ∧ Fr r r' h (mapH u h) w w' ∧ ∃ n', ((do Instr.mapUpdate t (ev' m) (ev' k) (ev' x); pure .skip : Sem Next)).run P w = .ok n' w' ∧ NR r' n n' := fun t m k x ha e => by
    cases q : updP P t (ev m) (ev k) (ev x) h with
    | none => rw [q] at e; cases e
    | some y =>
      rw [q] at e
      obtain ⟨b, es, c⟩ := y
      cases e
      obtain ⟨r', w', p1, p2, p3, p4⟩ := updP_sound H hT (ha m (by simp)) (ha k (by simp)) (ha x (by simp)) q
      refine ⟨r', w', p2, p3, p4, .skip, ?_, rfl⟩
      rw [Sem.run_bind, p1]
      rfl
  cases op with
  | lookup t x k ok =>
    simp only [mapX] at e
    cases q : lookP P t (ev x) (ev k) ok h with
    | none => rw [q] at e; cases e
    | some v =>
      rw [q] at e
      cases e
      obtain ⟨v', p1, p2⟩ := lookP_sound H (ha x (by simp [Op.operands])) (ha k (by simp [Op.operands])) q
      refine ⟨r, w, H, hT, .refl H, .value v', ?_, v', p2, rfl⟩
      show (Instr.lookup t (ev' x) (ev' k) ok >>= fun v => pure (Next.value v) : Sem Next).run P w = _
      rw [Sem.run_bind, p1]
      rfl
  | mapUpdate t m k x => exact upd t m k x (fun y hy => ha y (by simpa [Op.operands] using hy)) e
  | insert t m k x => exact upd t m k x (fun y hy => ha y (by simpa [Op.operands] using hy)) e
  | call c =>
    obtain ⟨callee, args, ats⟩ := c
    cases callee with
    | builtin bi =>
      cases bi with
      | delete =>
        simp only [mapX] at e
        cases q : delP P ats (args.map ev) h with
        | none => rw [q] at e; cases e
        | some y =>
          rw [q] at e
          obtain ⟨b, es, c⟩ := y
          cases e
          obtain ⟨r', w', p1, p2, p3, p4⟩ := delP_sound H hT type (AVs.map args fun x hx => ha x (by simpa [Op.operands, Call.operands] using hx)) q
          refine ⟨r', w', p2, p3, p4, .value (.tuple #[]), ?_, .tuple #[], (VR.closed 3 (.tuple #[]) (.tuple #[]) rfl).2 rfl, rfl⟩
          show (Builtin.delete_ ats type (args.map ev') >>= fun v => pure (Next.value v)).run P w = _
          rw [Sem.run_bind, p1]
          rfl
      | _ => cases e
    | _ => cases e
  | _ => cases e
theorem mapX_congr {ev ev' : Operand → Value} (op : Op) (h : Hp) (ha : ∀ x ∈ op.operands, ev x = ev' x) : mapX P op ev h = mapX P op ev' h := by
  cases op with
  | lookup t x k ok => simp only [mapX]; rw [ha x (by simp [Op.operands]), ha k (by simp [Op.operands])]
  | mapUpdate t m k x => simp only [mapX]; rw [ha m (by simp [Op.operands]), ha k (by simp [Op.operands]), ha x (by simp [Op.operands])]
  | insert t m k x => simp only [mapX]; rw [ha m (by simp [Op.operands]), ha k (by simp [Op.operands]), ha x (by simp [Op.operands])]
  | call c =>
    obtain ⟨callee, args, ats⟩ := c
    cases callee with
    | builtin bi =>
      cases bi with
      | delete =>
        have : args.map ev = args.map ev' := Array.map_congr_left fun x hx => ha x (by simp [Op.operands, Call.operands, hx])
        simp only [mapX, this]
      | _ => rfl
    | _ => rfl
  | _ => rfl
end
end Go.Proofs.YtmjblbgalkjmiaaGreat.EX
/- One operation of a frame whose slots are a tree. -/
namespace Go.Proofs.YtmjblbgalkjmiaaGreat.EX
open Go
section
variable {P : Program}
structure St where
  tm : T Value
  nt : Nat
  ds : Option Value
  h : Hp
def St.ev (s : St) : Operand → Value
  | .tmp t => (s.tm.get t).getD undef
  | .const v => v
  | .global g => .pointer (some ⟨g, 0, none⟩)
  | .func f => .func (.func f) #[] #[]
/-- Operands that are slots, functions, or values without blocks. -/
def opdOK : Operand → Bool
  | .tmp _ | .func _ => true
  | .const v => closed 64 v
  | .global _ => false
def noSel : Op → Bool
  | .select .. => false
  | _ => true
/-- What is deferred, alike: one call of a function value at most. -/
def DsR (r : Env) (o : Option Value) (ds : List Deferred) : Prop :=
  match o with
  | none => ds = []
  | some v => ∃ g first cap first' cap', v = .func (.func g) first cap ∧ ds = [{ target := .fn (.func g) cap', args := first' }] ∧ AVs r first first' ∧ AVs r cap cap'
theorem DsR.mono {r r' : Env} {o : Option Value} {ds : List Deferred} (hl : Le r r') (h : DsR r o ds) : DsR r' o ds := by
  cases o with
  | none => exact h
  | some v =>
    obtain ⟨g, f, c, f', c', h1, h2, h3, h4⟩ := h
    exact ⟨g, f, c, f', c', h1, h2, VRs.mono hl _ _ h3, VRs.mono hl _ _ h4⟩
/-- A frame and an activation alike. -/
structure SL (r : Env) (s : St) (a : Act) (w : World) : Prop where
  defers : DsR r s.ds a.defers
  size : a.tmps.size = s.nt
  tm : ∀ t, VR r ((s.tm.get t).getD undef) (a.tmps.getD t undef)
  h : HR r s.h w
  tidy : Tidy s.h
theorem SL.ev {r : Env} {s : St} {a : Act} {w : World} (S : SL r s a w) (x : Operand) (h : opdOK x = true) : VR r (s.ev x) (a.eval x) := by
  cases x with
  | tmp t => exact S.tm t
  | const v => exact (VR.closed 64 v v h).2 rfl
  | global g => cases h
  | func f => exact (VR.closed 2 _ _ rfl).2 rfl
/-- A row of bytes that is a constant's, marked so. -/
def markX (P : Program) (op : Op) (ev : Operand → Value) (h : Hp) : Option (Value × Nat × Obj × Nat) :=
  match op with
  | .slice t x none (some hi) (some mx) => match ev x with
    | .slice (some a) _ _ => match ev hi with
      | .int _ (.ofNat 0) => match ev mx with
        | .int _ (.ofNat 0) => match P.underlying t with
          | some (.slice e) => match P.info? e with
            | some _ => match h.t.get a.block with
              | some ob => some (.slice (some ⟨2 * h.n, 0, none⟩) 0 0, a.block, ob, h.n + 1)
              | none => none
            | none => none
          | _ => none
        | _ => none
      | _ => none
    | _ => none
  | .convert s d x => match ev x with
    | .slice (some a) n c => bif Nat.beq s d then match P.underlying s with
      | some (.slice e) => match P.underlying e with
        | some (.int .u8) => match h.t.get a.block with
          | some (.cells ⟨cs⟩ t _) => some (.slice (some a) n c, a.block, .cells ⟨cs⟩ t (1, 1), h.n)
          | _ => none
        | _ => none
      | _ => none
      else none
    | _ => none
  | _ => none
theorem markX_sound {r : Env} {h : Hp} {w : World} (H : HR r h w) (hT : Tidy h) {ev ev' : Operand → Value} {o : Oper} (ha : ∀ x ∈ o.op.operands, VR r (ev x) (ev' x)) {v : Value} {b : Nat} {ob : Obj} {n1 : Nat} (e : markX P o.op ev h = some (v, b, ob, n1)) :
    ∃ r' w', HR r' ⟨h.t.set b (some ob), n1⟩ w' ∧ Tidy ⟨h.t.set b (some ob), n1⟩ ∧ Fr r r' h ⟨h.t.set b (some ob), n1⟩ w w' ∧ ∃ v', (execOp ev' o).run P w = .ok (.value v') w' ∧ VR r' v v' := by
  obtain ⟨dst, op, type, pos, after, guard⟩ := o
  cases op with
  | slice t x lo hi mx =>
    cases lo with
    | some _ => cases e
    | none =>
    cases hi with
    | none => cases e
    | some hi =>
    cases mx with
    | none => cases e
    | some mx =>
    simp only [markX] at e
    have hx := ha x (by simp [Op.operands])
    have hhi := ha hi (by simp [Op.operands])
    have hmx := ha mx (by simp [Op.operands])
    split at e
    case h_2 => cases e
    rename_i a n c hev
    split at e
    case h_2 => cases e
    rename_i k1 hehi
    split at e
    case h_2 => cases e
    rename_i k2 hemx
    split at e
    case h_2 => cases e
    rename_i el hu
    split at e
    case h_2 => cases e
    rename_i i hi2
    split at e
    case h_2 => cases e
    rename_i ob hb
    cases e
    rw [hev] at hx
    rw [hehi] at hhi
    rw [hemx] at hmx
    obtain ⟨a', c', h1, h2, h5, h6⟩ := ((VRe r).2.2.2.2.2.2.2.2.1 _ _ _ _).1 hx
    obtain ⟨g, h4⟩ : ∃ g, a'.block = g := ⟨_, rfl⟩
    rw [h4] at h1
    have hhi' : ev' hi = .int k1 (.ofNat 0) := hhi
    have hmx' : ev' mx = .int k2 (.ofNat 0) := hmx
    have hlb := H.lt _ _ h1
    have same : ∀ b o, (h.t.set a.block (some ob)).get b = some o → h.t.get b = some o := fun b o e => by
      rw [T.get_set] at e
      split at e
      · rename_i q; rw [q, hb]; exact e
      · exact e
    have nolive : ∀ b, 2 * h.n ≤ b → ((h.t.set a.block (some ob)).get b).isSome → False := fun b hb2 k => by
      obtain ⟨o, ho⟩ := Option.isSome_iff_exists.1 k
      have := same b o ho
      rw [hT b hb2] at this
      cases this
    have H1 : HR r ⟨h.t.set a.block (some ob), h.n⟩ w := by
      have up : ∀ b, ((h.t.set a.block (some ob)).get b).isSome → (h.t.get b).isSome := fun b hb => by
        obtain ⟨o, ho⟩ := Option.isSome_iff_exists.1 hb
        rw [same b o ho]; rfl
      exact ⟨fun b o e => H.live b o (same b o e), H.fn, fun b b' c h1 h2 => H.inj b b' c (up b h1) (up b' h2), H.lt, H.odd, fun b c k' c0 d e cs t z h1 h2 h3 h6 => H.caps b c k' c0 d e cs t z h1 h2 h3 (same _ _ h6)⟩
    have old : ∀ x y, x < 2 * h.n → (r x y ∨ (x = 2 * h.n ∧ y = g)) → r x y := fun x y hx k => k.elim id fun q => by omega
    refine ⟨fun b c => r b c ∨ (b = 2 * h.n ∧ c = g), w, ⟨fun b o e => ?_, fun b c d k1 k2 => ?_, fun b b' c q1 q2 k1 k2 => ?_, fun b c k => ?_, fun b c k ho => ?_, fun b c k' c0 d e cs t z q1 q2 q3 q6 => ?_⟩, fun b hb2 => ?_, ⟨fun _ _ h => .inl h, H.lt, Nat.le_refl _, Nat.le_succ _, fun b c k _ => ?_, fun b _ hx => ?_, fun _ _ _ => rfl, rfl, rfl, rfl⟩, .slice (some a') 0 0, ?_, ?_⟩
    · obtain ⟨c, o', q1, q2, q3⟩ := H1.live b o e
      exact ⟨c, o', .inl q1, q2, q3.mono fun _ _ h => .inl h⟩
    · rcases k1 with k1 | ⟨e1, e2⟩ <;> rcases k2 with k2 | ⟨e3, e4⟩
      · exact H.fn _ _ _ k1 k2
      · have := H.lt _ _ k1; omega
      · have := H.lt _ _ k2; omega
      · omega
    · refine H1.inj b b' c q1 q2 (old _ _ ?_ k1) (old _ _ ?_ k2)
      · exact Nat.lt_of_not_le fun q => nolive b q q1
      · exact Nat.lt_of_not_le fun q => nolive b' q q2
    · rcases k with k | ⟨e1, _⟩
      · have := H.lt _ _ k; show b < 2 * (h.n + 1); omega
      · show b < 2 * (h.n + 1); omega
    · rcases k with k | ⟨e1, _⟩
      · have := H.odd _ _ k ho; show b + 11 ≤ 2 * (h.n + 1); omega
      · omega
    · have hbl : b < 2 * h.n := Nat.lt_of_not_le fun q => nolive b q (by rw [show (h.t.set a.block (some ob)).get b = _ from q6]; rfl)
      have h2 := old _ _ hbl q2
      have hbo := H.odd _ _ h2 q1
      exact H1.caps b c k' c0 d e cs t z q1 h2 (q3.old old (by omega)) q6
    · cases e : (h.t.set a.block (some ob)).get b with
      | none => rfl
      | some o => exact (nolive b (by simp only at hb2; omega) (by rw [e]; rfl)).elim
    · rcases k with k | ⟨e1, e2⟩
      · exact .inl k
      · exact .inr ⟨by omega, a.block, by rw [hb]; rfl, by rw [e2]; exact h1⟩
    · obtain ⟨o, ho⟩ := Option.isSome_iff_exists.1 hx
      rw [same b o ho]; rfl
    · show (Instr.sliceAt t (ev' x) none (some (ev' hi)) (some (ev' mx)) >>= fun v => pure (Next.value v)).run P w = _
      have b1 : ∀ (k : IntKind) (y : Nat) (cd : BoundsCode), (Instr.sliceBound (.int k (.ofNat 0)) y cd).run P w = .ok 0 w := fun k y cd => by
        unfold Instr.sliceBound
        show ((if (0 : Int) ≤ 0 ∧ (0 : Int) ≤ (y : Int) then pure (0 : Int).toNat else Go.boundsPanic k 0 y cd) : Sem Nat).run P w = _
        rw [if_pos ⟨Int.le_refl _, Int.natCast_nonneg y⟩]
        rfl
      have hs : (sizeOf el).run P w = .ok i.size w := by
        unfold sizeOf typeInfo
        show ((match P.info? el with | some i => pure i | none => Go.stuck _ : Sem TypeInfo).bind fun i => pure i.size).run P w = _
        rw [hi2]
        rfl
      have hb3 : (Instr.sliceBounds true n c' none (some (ev' hi)) (some (ev' mx))).run P w = .ok (0, 0, 0) w := by
        unfold Instr.sliceBounds
        rw [hhi', hmx']
        simp only [Sem.run_bind, b1, Result.andThen_ok]
        rfl
      have : (Instr.sliceAt t (ev' x) none (some (ev' hi)) (some (ev' mx))).run P w = .ok (.slice (some a') 0 0) w := by
        unfold Instr.sliceAt
        simp only [Sem.run_bind, run_underlying hu, Result.andThen_ok]
        unfold Instr.slice
        rw [h6]
        simp only [Sem.run_bind, run_underlying hu, Result.andThen_ok, hb3, hs]
        rfl
      rw [Sem.run_bind, this]
      rfl
    · exact ((VRe _).2.2.2.2.2.2.2.2.1 _ _ _ _).2 ⟨a', 0, .inr ⟨rfl, h4⟩, ⟨fun _ => rfl, Nat.le_refl _, fun _ => .inl rfl⟩, .inl ⟨rfl, rfl⟩, rfl⟩
  | convert s d x =>
    have hx := ha x (by simp [Op.operands])
    simp only [markX] at e
    split at e
    · rename_i a n c hev
      cases hs : Nat.beq s d with
      | false => rw [hs] at e; cases e
      | true =>
        rw [hs] at e
        dsimp only [cond] at e
        have hsd := Nat.eq_of_beq_eq_true hs
        subst hsd
        split at e
        · rename_i el hu
          split at e
          · rename_i hue
            split at e
            · rename_i cs t f hb
              cases e
              rw [hev] at hx
              obtain ⟨a', c', h1, h2, h5, h6⟩ := ((VRe r).2.2.2.2.2.2.2.2.1 _ _ _ _).1 hx
              obtain ⟨g, h4⟩ : ∃ g, a'.block = g := ⟨_, rfl⟩
              rw [h4] at h1
              obtain ⟨g1, o1, k1, k2, dd, k3a, k3⟩ := H.live _ _ hb
              cases H.fn _ _ _ h1 k1
              simp only [OD] at k3
              obtain ⟨pre, cs', rest, z, k0, k4, kz, rfl⟩ := k3
              obtain ⟨z', hz', hw⟩ : ∃ z', ZR (1, 1) z' (pre ++ (cs' ++ rest)).length ∧ w.freeze ⟨g, (pre ++ (cs' ++ rest)).length, none⟩ 1 = { w with heap := w.heap.setIfInBounds g (.cells ⟨pre ++ (cs' ++ rest)⟩ t z') } := by
                refine ⟨if z.1 == z.2 then ((pre ++ (cs' ++ rest)).length, (pre ++ (cs' ++ rest)).length + 1) else (min z.1 (pre ++ (cs' ++ rest)).length, max z.2 ((pre ++ (cs' ++ rest)).length + 1)), .inr ⟨rfl, ?_⟩, ?_⟩
                · split
                  · exact Nat.le_refl _
                  · rename_i hne
                    rcases kz with ⟨_, rfl⟩ | ⟨_, kz⟩
                    · exact absurd rfl hne
                    · exact Nat.le_min.2 ⟨kz, Nat.le_refl _⟩
                · unfold World.freeze
                  rw [if_neg (by decide)]
                  congr 1
                  apply Array.ext_getElem?
                  intro i
                  have hcl := H.size (by rw [hb]; rfl) h1
                  by_cases ei : i = g
                  · subst ei
                    rw [Array.getElem?_modify, if_pos rfl, k2]
                    simp [hcl]
                  · rw [Array.getElem?_modify, if_neg (Ne.symm ei), Array.getElem?_setIfInBounds_ne (Ne.symm ei)]
              obtain ⟨H', F'⟩ := H.put (o := .cells ⟨cs⟩ t (1, 1)) (o' := .cells ⟨pre ++ (cs' ++ rest)⟩ t z') (by rw [hb]; rfl) h1 ⟨dd, k3a, by simp only [OD]; exact ⟨pre, cs', rest, z', k0, k4, hz', rfl⟩⟩ (fun cs1 t1 z1 e1 => by
                cases e1
                refine ⟨cs, _, _, _, hb, rfl, rfl, fun c0 z1 e1 => ?_⟩
                rw [k2] at e1
                cases e1
                rfl)
              refine ⟨r, _, H', fun b hb' => ?_, F', ev' x, ?_, ?_⟩
              · simp only [T.get_set]
                rw [if_neg (by intro e; subst e; have := H.lt _ _ h1; simp only at hb'; omega)]
                exact hT b hb'
              · rw [h6]
                show (Go.convert s s (ev' x) >>= fun v => pure (Next.value v)).run P w = _
                have hsh : w.shape? a'.block = some (t, (pre ++ (cs' ++ rest)).length) := by
                  simp only [World.shape?]
                  rw [h4, k2]
                  rfl
                have hm : (markStringish a').run P w = .ok () (w.freeze ⟨g, (pre ++ (cs' ++ rest)).length, none⟩ 1) := by
                  unfold markStringish shape freeze
                  show (match w.shape? a'.block with | some (_, m) => (Sem.freeze ⟨a'.block, m, none⟩ 1 (.pure ()) : Sem Unit) | _ => pure () : Sem Unit).run P w = _
                  rw [hsh, h4]
                  rfl
                have hcv : (Go.convert s s (.slice (some a') n c')).run P w = .ok (.slice (some a') n c') (w.freeze ⟨g, (pre ++ (cs' ++ rest)).length, none⟩ 1) := by
                  unfold Go.convert
                  simp only [Sem.run_bind, run_underlying hu, Result.andThen_ok, run_underlying hue, beq_self_eq_true, hm]
                  rfl
                rw [Sem.run_bind, h6, hcv, hw]
                rfl
              · rw [h6]
                exact h6 ▸ hx
            · cases e
          · cases e
        · cases e
    · cases e
  | _ => cases e
theorem markX_congr {ev ev' : Operand → Value} (op : Op) (h : Hp) (ha : ∀ x ∈ op.operands, ev x = ev' x) : markX P op ev h = markX P op ev' h := by
  cases op with
  | convert s d x => simp only [markX]; rw [ha x (by simp [Op.operands])]
  | slice t x lo hi mx =>
    cases lo with
    | some _ => rfl
    | none => cases hi with
      | none => rfl
      | some hi => cases mx with
        | none => rfl
        | some mx => simp only [markX]; rw [ha x (by simp [Op.operands]), ha hi (by simp [Op.operands]), ha mx (by simp [Op.operands])]
  | _ => rfl
/-- Where a part ends. -/
def hiOf (n : Nat) : Option Value → Option Nat
  | none => some n
  | some (.int _ (.ofNat k)) => some k
  | _ => none
/-- A part from a place on of a row that an append made. -/
def cutP (P : Program) (t : TypeId) (x lo : Value) (hi : Option Value) (h : Hp) : Option Value :=
  match x, lo with
  | .slice (some ⟨b, o, none⟩) n c, .int _ (.ofNat l0) => match P.underlying t with
    | some (.slice e) => match P.info? e with
      | some i => match h.t.get b with
        | some (.cells ⟨cs⟩ _ _) => match hiOf n hi with
          | some h0 => bif Nat.ble l0 h0 && Nat.ble h0 c && Nat.ble 1 c && Nat.beq cs.length (o + c * i.size) && Nat.beq (b % 2) 1 then
              some (bif Nat.beq l0 c then .slice (some ⟨b, i.size, none⟩) 0 0 else .slice (some ⟨b, o + l0 * i.size, none⟩) (h0 - l0) (c - l0))
            else none
          | none => none
        | _ => none
      | none => none
    | _ => none
  | _, _ => none
def cutX (P : Program) (op : Op) (ev : Operand → Value) (h : Hp) : Option Value :=
  match op with
  | .slice t x (some lo) hi none => cutP P t (ev x) (ev lo) (hi.map ev) h
  | _ => none
theorem cutX_congr {ev ev' : Operand → Value} (op : Op) (h : Hp) (ha : ∀ x ∈ op.operands, ev x = ev' x) : cutX P op ev h = cutX P op ev' h := by
  cases op with
  | slice t x lo hi mx =>
    cases lo with
    | none => rfl
    | some lo => cases mx with
      | some _ => rfl
      | none =>
        simp only [cutX]
        have : hi.map ev = hi.map ev' := by
          cases hi with
          | none => rfl
          | some y => simp only [Option.map]; rw [ha y (by simp [Op.operands])]
        rw [ha x (by simp [Op.operands]), ha lo (by simp [Op.operands]), this]
  | _ => rfl
theorem cutP_sound {r : Env} {h : Hp} {w : World} (H : HR r h w) {t : TypeId} {x x' lo lo' : Value} {hi hi' : Option Value} (hx : VR r x x') (hlo : VR r lo lo') (hhi : OV r hi hi') {v : Value} (e : cutP P t x lo hi h = some v) :
    ∃ v', (Instr.sliceAt t x' (some lo') hi' none).run P w = .ok v' w ∧ VR r v v' := by
  unfold cutP at e
  split at e
  case h_2 => cases e
  rename_i b o n c k0 l0
  split at e
  case h_2 => cases e
  rename_i el hu
  split at e
  case h_2 => cases e
  rename_i i hi2
  split at e
  case h_2 => cases e
  rename_i cs tt ff hb
  cases hh : hiOf n hi with
  | none => rw [hh] at e; cases e
  | some h0 =>
  rw [hh] at e
  dsimp only at e
  cases hk : (Nat.ble l0 h0 && Nat.ble h0 c && Nat.ble 1 c && Nat.beq cs.length (o + c * i.size) && Nat.beq (b % 2) 1) with
  | false => rw [hk] at e; cases e
  | true =>
  rw [hk] at e
  simp only [cond, Option.some.injEq] at e
  simp only [Bool.and_eq_true] at hk
  obtain ⟨⟨⟨⟨g1, g2⟩, g3⟩, g4⟩, g5⟩ := hk
  have g1 := Nat.le_of_ble_eq_true g1
  have g2 := Nat.le_of_ble_eq_true g2
  have g3 := Nat.le_of_ble_eq_true g3
  have g4 := Nat.eq_of_beq_eq_true g4
  have g5 := Nat.eq_of_beq_eq_true g5
  obtain ⟨a', c', h1, h2, h5, rfl⟩ := ((VRe r).2.2.2.2.2.2.2.2.1 _ _ _ _).1 hx
  have hlo' : lo' = .int k0 (.ofNat l0) := hlo
  subst hlo'
  have ha : AR r ⟨b, o, none⟩ a' := by
    rcases h5 with h5 | h5
    · omega
    · exact h5
  have b1 : ∀ (k : IntKind) (a y : Nat) (cd : BoundsCode), a ≤ y → (Instr.sliceBound (.int k (.ofNat a)) y cd).run P w = .ok a w := fun k a y cd hay => by
    unfold Instr.sliceBound
    show ((if (0 : Int) ≤ (a : Int) ∧ (a : Int) ≤ (y : Int) then pure (a : Int).toNat else Go.boundsPanic k (a : Int) y cd) : Sem Nat).run P w = _
    rw [if_pos ⟨Int.natCast_nonneg a, by omega⟩]
    rfl
  have hs : (sizeOf el).run P w = .ok i.size w := by
    unfold sizeOf typeInfo
    show ((match P.info? el with | some i => pure i | none => Go.stuck _ : Sem TypeInfo).bind fun i => pure i.size).run P w = _
    rw [hi2]
    rfl
  have hcc := h2.2.1
  have hb3 : (Instr.sliceBounds true n c' (some (.int k0 (.ofNat l0))) hi' none).run P w = .ok (l0, h0, c') w := by
    unfold Instr.sliceBounds
    cases hi with
    | none => cases hi' with
      | some _ => exact hhi.elim
      | none =>
        cases hh
        have q := b1 k0 l0 n .sliceB g1
        simp only [Int.ofNat_eq_natCast] at q
        simp [q]
    | some y => cases hi' with
      | none => exact hhi.elim
      | some y' =>
        have hy : VR r y y' := hhi
        cases y with
        | int k2 q =>
          cases q with
          | ofNat q =>
            cases hh
            cases hy
            have q1 := b1 k2 h0 c' .sliceAcap (by omega)
            have q2 := b1 k0 l0 h0 .sliceB g1
            simp only [Int.ofNat_eq_natCast] at q1 q2
            simp [q1, q2]
          | negSucc q => cases hh
        | _ => cases hh
  have hrun : (Instr.sliceAt t (.slice (some a') n c') (some (.int k0 (.ofNat l0))) hi' none).run P w = .ok (.slice (some (if c' = l0 then a' else a'.add (l0 * i.size))) (h0 - l0) (c' - l0)) w := by
    unfold Instr.sliceAt
    simp only [Sem.run_bind, run_underlying hu, Result.andThen_ok]
    unfold Instr.slice
    simp only [Sem.run_bind, run_underlying hu, Result.andThen_ok, hb3, hs]
    split <;> rfl
  refine ⟨_, hrun, ?_⟩
  have hadd : ∀ (q : Addr) (k : Nat), (q.add k).block = q.block := fun q k => by unfold Addr.add; split <;> rfl
  have hblk : r b (if c' = l0 then a' else a'.add (l0 * i.size)).block := by
    split
    · exact h1
    · rw [hadd]; exact h1
  have cap : ∀ o2 : Nat, (c - l0 = 0 → o2 = i.size) → (0 < c - l0 → o2 = o + l0 * i.size) → CapOK r ⟨b, o2, none⟩ (c - l0) (if c' = l0 then a' else a'.add (l0 * i.size)) (c' - l0) := fun o2 k1 k2 => by
    refine ⟨fun q => by simp only at q; omega, by omega, fun _ => ?_⟩
    rcases h2.2.2 g5 with q | ⟨k, c0, d, z, l, q1, q2, q3, q4, q5, q6, q7⟩
    · exact .inl (by omega)
    · by_cases hcl : c' = l0
      · exact .inl (by omega)
      · have q3 := q3 (by omega)
        simp only at q3
        obtain ⟨hcs, _⟩ := H.caps b a'.block k c0 d z cs tt ff g5 h1 q1 hb
        have hz : z = i.size := by
          rw [hcs, ← q6, Nat.add_mul, q3] at g4
          exact Nat.eq_of_mul_eq_mul_left (by omega) (Nat.add_left_cancel g4)
        subst hz
        refine .inr ⟨k, c0, d, i.size, l + l0, q1, k1, fun hp => ?_, ?_, ?_, by omega, by omega⟩
        · show o2 = _
          rw [k2 hp, q3, Nat.add_mul]
        · rw [if_neg hcl]
          unfold Addr.add
          split
          · rename_i h0; rw [q4, Nat.add_mul, h0, Nat.add_zero]
          · show a'.off + l0 * i.size = _
            rw [q4, Nat.add_mul, Nat.add_assoc]
        · rw [if_neg hcl]
          unfold Addr.add
          split
          · exact q5
          · rfl
  cases hl : Nat.beq l0 c with
  | true =>
    rw [hl] at e
    have hl := Nat.eq_of_beq_eq_true hl
    simp only at e
    subst e
    refine ((VRe r).2.2.2.2.2.2.2.2.1 _ _ _ _).2 ⟨_, c' - l0, hblk, ?_, .inl ⟨rfl, rfl⟩, ?_⟩
    · have := cap i.size (fun _ => rfl) (fun q => by omega)
      rwa [show c - l0 = 0 by omega] at this
    · rw [show h0 - l0 = 0 by omega]
  | false =>
    rw [hl] at e
    have hl : l0 ≠ c := fun q => by rw [q, Nat.beq_refl] at hl; cases hl
    simp only at e
    subst e
    refine ((VRe r).2.2.2.2.2.2.2.2.1 _ _ _ _).2 ⟨_, c' - l0, hblk, cap _ (fun q => by omega) (fun _ => rfl), .inr ?_, rfl⟩
    rw [if_neg (by omega)]
    have := ha.add (l0 * i.size)
    have e2 : (⟨b, o, none⟩ : Addr).add (l0 * i.size) = ⟨b, o + l0 * i.size, none⟩ := by
      unfold Addr.add
      split
      · rename_i h0; rw [h0]; rfl
      · rfl
    rwa [e2] at this
theorem cutX_sound {r : Env} {h : Hp} {w : World} (H : HR r h w) {ev ev' : Operand → Value} {o : Oper} (ha : ∀ x ∈ o.op.operands, VR r (ev x) (ev' x)) {v : Value} (e : cutX P o.op ev h = some v) :
    ∃ v', (execOp ev' o).run P w = .ok (.value v') w ∧ VR r v v' := by
  obtain ⟨dst, op, type, pos, after, guard⟩ := o
  cases op with
  | slice t x lo hi mx =>
    cases lo with
    | none => cases e
    | some lo => cases mx with
      | some _ => cases e
      | none =>
        have hhi : OV r (hi.map ev) (hi.map ev') := by
          cases hi with
          | none => trivial
          | some y => exact ha y (by simp [Op.operands])
        obtain ⟨v', h1, h2⟩ := cutP_sound H (ha x (by simp [Op.operands])) (ha lo (by simp [Op.operands])) hhi e
        refine ⟨v', ?_, h2⟩
        show (Instr.sliceAt t (ev' x) (some (ev' lo)) (hi.map ev') none >>= fun v => pure (Next.value v)).run P w = _
        rw [Sem.run_bind, h1]
        rfl
  | _ => cases e
def opStep (P : Program) (s : St) (o : Oper) : Option (Except Value Next × Hp) :=
  if o.op.operands.toList.all opdOK && noSel o.op then
    if okOp P s.ev o.op then runX P (execOp s.ev o) s.h
    else match appOp o.op with
    | some (ts, as) => match appX P ts (as.map s.ev) s.h with
      | some (v, h1) => some (.ok (.value v), h1)
      | none => none
    | none => if mapOp o.op then
      match mapX P o.op s.ev s.h with
      | some (n, u) => some (.ok n, mapH u s.h)
      | none => none
    else if o.op.operands.toList.all fun x => closed 64 (s.ev x) then
      match runP P (execOp s.ev o) with
      | some (.value v) => if closed 64 v then some (.ok (.value v), s.h) else none
      | _ => none
    else match markX P o.op s.ev s.h with
    | some (v, b, ob, n1) => some (.ok (.value v), ⟨s.h.t.set b (some ob), n1⟩)
    | none => match cutX P o.op s.ev s.h with
      | some v => some (.ok (.value v), s.h)
      | none => none
  else none
theorem okOp_congr {ev ev0 : Operand → Value} (op : Op) (h : ∀ x ∈ op.operands, ev x = ev0 x) : okOp P ev op = okOp P ev0 op := by
  cases op with
  | slice t x lo hi mx =>
    simp only [okOp]
    have hx : ev x = ev0 x := h x (by simp [Op.operands])
    have hh : hi.map ev = hi.map ev0 := by
      cases hi with
      | none => rfl
      | some y => simp only [Option.map]; rw [h y (by simp [Op.operands])]
    have hm : mx.map ev = mx.map ev0 := by
      cases mx with
      | none => rfl
      | some y => simp only [Option.map]; rw [h y (by simp [Op.operands])]
    have hl : lo.map ev = lo.map ev0 := by
      cases lo with
      | none => rfl
      | some y => simp only [Option.map]; rw [h y (by simp [Op.operands])]
    rw [hx, hh, hm, hl]
  | next x b => simp only [okOp]; rw [h x (by simp [Op.operands])]
  | entry x => simp only [okOp]; rw [h x (by simp [Op.operands])]
  | nilCheck x => simp only [okOp]; rw [h x (by simp [Op.operands])]
  | call c =>
    obtain ⟨callee, args, ats⟩ := c
    have hargs : args.map ev = args.map ev0 := Array.map_congr_left fun x hx => h x (by simp [Op.operands, Call.operands, hx])
    cases callee with
    | value x => simp only [okOp]; rw [h x (by simp [Op.operands, Call.operands])]
    | invoke x name => simp only [okOp]; rw [h x (by simp [Op.operands, Call.operands])]
    | builtin b => cases b <;> first | rfl | simp only [okOp, hargs]
  | defer c =>
    obtain ⟨callee, args, ats⟩ := c
    cases callee with
    | value x => simp only [okOp]; rw [h x (by simp [Op.operands, Call.operands])]
    | _ => rfl
  | binOp op t x y yt =>
    have hx : ev x = ev0 x := h x (by simp [Op.operands])
    have hy : ev y = ev0 y := h y (by simp [Op.operands])
    cases op <;> first | rfl | simp only [okOp, hx, hy]
  | convert a b x => simp only [okOp]; rw [h x (by simp [Op.operands])]
  | makeMap t n => cases n <;> rfl
  | _ => rfl
theorem opStep_sound (hz : Zc P) {r : Env} {s : St} {a : Act} {w : World} (S : SL r s a w) (o : Oper) (x : Except Value Next) (h1 : Hp) (e : opStep P s o = some (x, h1)) :
    ∃ r' w', HR r' h1 w' ∧ Tidy h1 ∧ Fr r r' s.h h1 w w' ∧ match (generalizing := false) x with
      | .ok v => ∃ v', (execOp a.eval o).run P w = .ok v' w' ∧ NR r' v v'
      | .error v => ∃ v', (execOp a.eval o).run P w = .halt (.panic v') w' ∧ VR r' v v' := by
  unfold opStep at e
  split at e
  · rename_i hk
    simp only [Bool.and_eq_true] at hk
    have hops : ∀ x ∈ o.op.operands, opdOK x = true := fun x hx => List.all_eq_true.1 hk.1 x (by simpa using hx)
    have hns : ∀ cs b, o.op ≠ .select cs b := fun cs b q => by have := hk.2; rw [q] at this; cases this
    split at e
    · rename_i hok
      have c1 : execOp s.ev o = execOp (fun x => if opdOK x then s.ev x else undef) o := execOp_congr o hns fun x hx => by simp [hops x hx]
      have c2 : execOp a.eval o = execOp (fun x => if opdOK x then a.eval x else undef) o := execOp_congr o hns fun x hx => by simp [hops x hx]
      rw [c1] at e
      rw [c2]
      have hev : ∀ x, VR r ((fun x => if opdOK x then s.ev x else undef) x) ((fun x => if opdOK x then a.eval x else undef) x) := fun x => by
        dsimp only
        split
        · rename_i h; exact S.ev x h
        · exact (VR.closed 3 undef undef rfl).2 rfl
      have hk2 : okOp P (fun x => if opdOK x then s.ev x else undef) o.op = true := by
        rw [← okOp_congr o.op (ev := s.ev) fun x hx => by simp [hops x hx]]
        exact hok
      have key := run_SR _ _ r s.h w (SR.execOp hz o hev hk2) S.h S.tidy x h1 e
      cases x <;> exact key
    · split at e
      · rename_i ts as hao
        split at e
        · rename_i v h2 hax
          cases e
          obtain ⟨r', w', q1, q2, q3, v', q4, q5⟩ := appX_sound hz S.h S.tidy hao (fun x hx => S.ev x (hops x (appOp_mem hao x hx))) hax
          exact ⟨r', w', q1, q2, q3, .value v', q4, v', q5, rfl⟩
        · cases e
      · split at e
        · split at e
          · rename_i n u hmx
            cases e
            obtain ⟨r', w', q1, q2, q3, q4⟩ := mapX_sound S.h S.tidy (fun x hx => S.ev x (hops x hx)) hmx
            exact ⟨r', w', q1, q2, q3, q4⟩
          · cases e
        split at e
        case isFalse =>
          split at e
          · rename_i v b ob n1 hmk
            cases e
            obtain ⟨r', w', q1, q2, q3, v', q4, q5⟩ := markX_sound S.h S.tidy (fun x hx => S.ev x (hops x hx)) hmk
            exact ⟨r', w', q1, q2, q3, .value v', q4, v', q5, rfl⟩
          · split at e
            · rename_i v hct
              cases e
              obtain ⟨v', q1, q2⟩ := cutX_sound S.h (fun x hx => S.ev x (hops x hx)) hct
              exact ⟨r, w, S.h, S.tidy, .refl S.h, .value v', q1, v', q2, rfl⟩
            · cases e
        rename_i hcl
        split at e
        · rename_i v hv
          split at e
          · rename_i hc
            cases e
            have c : execOp a.eval o = execOp s.ev o := execOp_congr o hns fun x hx => by
              have h1 := S.ev x (hops x hx)
              exact (VR.closed 64 _ _ (List.all_eq_true.1 hcl x (by simpa using hx))).1 h1
            refine ⟨r, w, S.h, S.tidy, .refl S.h, .value v, ?_, v, (VR.closed 64 v v hc).2 rfl, rfl⟩
            rw [c]
            exact run_runP _ _ hv w
          · cases e
        · cases e
  · cases e
end
end Go.Proofs.YtmjblbgalkjmiaaGreat.EX
/- What a function answers; slots written; guards. -/
namespace Go.Proofs.YtmjblbgalkjmiaaGreat.EX
open Go
section
variable {P : Program}
def resV : List Value → Value
  | [v] => v
  | l => .tuple ⟨l⟩
theorem resV_alike {r : Env} : ∀ {l l' : List Value}, VRs r l l' → VR r (resV l) (resV l')
  | [], _, h => by cases h; exact (VR.closed 2 _ _ rfl).2 rfl
  | [v], _, ⟨v', s', h1, h2, h3⟩ => by cases h2; subst h3; exact h1
  | v :: u :: s, _, ⟨v', s', h1, ⟨u', s'', h2, h4, h5⟩, h3⟩ => by
    subst h5
    subst h3
    show VR r (.tuple ⟨v :: u :: s⟩) (.tuple ⟨v' :: u' :: s''⟩)
    simp only [VRe]
    exact ⟨_, ⟨v', _, h1, ⟨u', _, h2, h4, rfl⟩, rfl⟩, rfl⟩
/-- A slot written. -/
def St.put (s : St) (d : Option Tmp) (v : Value) : Option St :=
  match d with
  | none => some s
  | some d => if d < s.nt then some { s with tm := s.tm.set d (some v) } else none
theorem SL.put {r : Env} {s s' : St} {a : Act} {w : World} (S : SL r s a w) (d : Option Tmp) {v v' : Value} (hv : VR r v v') (h : s.put d v = some s') : SL r s' (a.put d v') w := by
  cases d with
  | none => cases h; exact S
  | some d =>
    simp only [St.put] at h
    split at h
    · rename_i hd
      cases h
      have hsz := S.size
      refine ⟨S.defers, by simpa [Act.put] using hsz, fun t => ?_, S.h, S.tidy⟩
      simp only [T.get_set, Act.put]
      by_cases e : t = d
      · subst e
        have : t < a.tmps.size := Nat.lt_of_lt_of_eq hd hsz.symm
        simpa [Array.getD, this] using hv
      · rw [if_neg e]
        have := S.tm t
        have e2 : (a.tmps.setIfInBounds d v').getD t undef = a.tmps.getD t undef := by
          simp only [Array.getD_eq_getD_getElem?]
          rw [Array.getElem?_setIfInBounds_ne (Ne.symm e)]
        rw [e2]
        exact this
    · cases h
/-- What an operation yielded, for guards. -/
def yieldT (s : St) (ops : List Oper) (j : Nat) : Option Bool :=
  match (ops[j]?).bind (·.dst) with
  | some d => if d < s.nt then match (s.tm.get d).getD undef with
    | .bool b => some b
    | _ => none
    else none
  | none => none
theorem yieldT_eq {r : Env} {s : St} {a : Act} {w : World} (S : SL r s a w) (ops : Array Oper) (j : Nat) : yielded ops a.tmps j = yieldT s ops.toList j := by
  unfold yielded yieldT
  have e0 : ops.toList[j]? = ops[j]? := by simp
  rw [e0]
  cases (ops[j]?).bind (·.dst) with
  | none => rfl
  | some d =>
    dsimp only [Option.bind]
    have hsz := S.size
    have h := S.tm d
    by_cases hd : d < s.nt
    · rw [if_pos hd]
      have hd' : d < a.tmps.size := Nat.lt_of_lt_of_eq hd hsz.symm
      have e : a.tmps[d]? = some (a.tmps.getD d undef) := by simp [Array.getD, hd']
      rw [e]
      revert h
      generalize a.tmps.getD d undef = v'
      generalize (s.tm.get d).getD undef = v
      intro h
      cases v with
      | bool b => cases h; rfl
      | pointer p => cases p with
        | none => cases h; rfl
        | some p => obtain ⟨_, _, rfl⟩ := h; rfl
      | slice p _ _ => cases p with
        | none => cases h; rfl
        | some p => obtain ⟨_, _, _, _, _, _, _, _, rfl⟩ := h; rfl
      | map p => cases p with
        | none => cases h; rfl
        | some p => obtain ⟨_, _, rfl⟩ := h; rfl
      | chan p => cases p with
        | none => cases h; rfl
        | some p => cases h
      | func fn f c => obtain ⟨f⟩ := f; obtain ⟨c⟩ := c; simp only [VRe] at h; obtain ⟨_, _, _, _, rfl⟩ := h; rfl
      | iface t x => obtain ⟨_, _, rfl⟩ := h; rfl
      | agg cs => obtain ⟨cs⟩ := cs; simp only [VRe] at h; obtain ⟨_, _, rfl⟩ := h; rfl
      | tuple cs => obtain ⟨cs⟩ := cs; simp only [VRe] at h; obtain ⟨_, _, rfl⟩ := h; rfl
      | _ => cases h; rfl
    · rw [if_neg hd]
      have e : a.tmps[d]? = none := Array.getElem?_eq_none (hsz ▸ Nat.le_of_not_lt hd)
      rw [e]
end
end Go.Proofs.YtmjblbgalkjmiaaGreat.EX
/- Trees that only load: the world stays the same one. What a function answers, where its results are cells. -/
namespace Go.Proofs.YtmjblbgalkjmiaaGreat.EX
open Go
section
variable {P : Program}
/-- Results read from slots that are a tree. -/
def resT (s : T Value) : List ResultVar → Sem (List Value)
  | [] => pure []
  | .tmp t :: l => do
    let vs ← resT s l
    pure ((s.get t).getD undef :: vs)
  | .cell a t :: l => do
    let v ← loadVar t (← asAddr ((s.get a).getD undef))
    let vs ← resT s l
    pure (v :: vs)
def resA (tmps : Array Value) : List ResultVar → Sem (List Value)
  | [] => pure []
  | .tmp t :: l => do
    let vs ← resA tmps l
    pure (tmps.getD t undef :: vs)
  | .cell a t :: l => do
    let v ← loadVar t (← asAddr (tmps.getD a undef))
    let vs ← resA tmps l
    pure (v :: vs)
theorem SR.asAddr {r : Env} {v v' : Value} (h : VR r v v') : SR P AR (asAddr v) (asAddr v') r := by
  cases v with
  | pointer a => cases a with
    | none => cases h; exact SR.nilPanic
    | some a => obtain ⟨c, h1, rfl⟩ := h; exact SR.p h1
  | _ => exact SR.stuck _ _
theorem res_alike {s : T Value} {tmps : Array Value} : ∀ (l : List ResultVar) (r : Env), (∀ t, VR r ((s.get t).getD undef) (tmps.getD t undef)) → SR P VRs (resT s l) (resA tmps l) r
  | [], r, _ => SR.p rfl
  | .tmp t :: l, r, h => by
    refine SR.b (res_alike l r h) fun r1 vs vs' l1 hv => ?_
    exact SR.p ⟨_, vs', (h t).mono l1, hv, rfl⟩
  | .cell a t :: l, r, h => by
    refine SR.b (SR.asAddr (h a)) fun r1 x x' l1 hx => ?_
    refine SR.b (SR.loadVar t hx) fun r2 v v' l2 hv => ?_
    refine SR.b (res_alike l r2 fun t => (h t).mono (l1.trans l2)) fun r3 vs vs' l3 hvs => ?_
    exact SR.p ⟨v', vs', hv.mono l3, hvs, rfl⟩
theorem resA_eq (fn : Func) (tmps : Array Value) : results fn tmps = (do let vs ← resA tmps fn.results.toList; pure (resV vs)) := by
  have key : ∀ (l : List ResultVar), (l.mapM fun (x : ResultVar) => match x with
      | .tmp t => (pure (tmps.getD t undef) : Sem Value)
      | .cell a t => do loadVar t (← asAddr (tmps.getD a undef))) = resA tmps l := by
    intro l
    induction l with
    | nil => rw [List.mapM_nil]; rfl
    | cons x s ih =>
      rw [List.mapM_cons, ih]
      cases x with
      | tmp t => simp [resA]
      | cell a t => simp [resA]
  unfold results
  rw [Array.mapM_eq_mapM_toList]
  refine Eq.trans (congrArg (fun m : Sem (List Value) => (do let vs ← List.toArray <$> m; pure (if h : vs.size = 1 then vs[0] else Value.tuple vs))) (key fn.results.toList)) ?_
  have e : ∀ l : List Value, (if h : l.toArray.size = 1 then l.toArray[0] else Value.tuple l.toArray) = resV l := by
    intro l
    match l with
    | [] => rfl
    | [v] => rfl
    | v :: u :: s => rfl
  simp only [map_eq_pure_bind, bind_assoc, pure_bind, e]
/-- What a function answers, in whatever world that is alike. -/
theorem results_run {r : Env} {s : St} {a : Act} {w : World} (S : SL r s a w) (fn : Func) (vs : List Value) (h : runL P (resT s.tm fn.results.toList) s.h = some vs) : ∃ v', (results fn a.tmps).run P w = .ok v' w ∧ VR r (resV vs) v' := by
  obtain ⟨vs', h1, h2⟩ := run_SRL _ _ r s.h w (res_alike (P := P) fn.results.toList r S.tm) S.h vs h
  refine ⟨resV vs', ?_, resV_alike h2⟩
  rw [resA_eq]
  have : ∀ (m : Sem (List Value)) w, m.run P w = .ok vs' w → (m >>= fun vs => pure (resV vs)).run P w = .ok (resV vs') w := by
    intro m w hm
    rw [Sem.run_bind, hm]
    rfl
  exact this _ w h1
end
end Go.Proofs.YtmjblbgalkjmiaaGreat.EX
/- The executor: code in order (regions without a draw), calls, loops; and that whatever world and tape do the same. -/
namespace Go.Proofs.YtmjblbgalkjmiaaGreat.EX
open Go
section
variable {P : Program}
/-- Slots of a frame that is entered. -/
def initT : List Value → Nat → T Value → T Value
  | [], _, t => t
  | v :: s, k, t => initT s (k + 1) (t.set k (some v))
theorem initT_get : ∀ (l : List Value) (k : Nat) (t : T Value) (j : Nat), (initT l k t).get j = if k ≤ j ∧ j < k + l.length then l[j - k]? else t.get j
  | [], k, t, j => by simp [initT]; omega
  | v :: s, k, t, j => by
    rw [initT, initT_get s (k + 1) (t.set k (some v)) j, T.get_set]
    by_cases e : j = k
    · subst e
      rw [if_neg (by omega), if_pos rfl, if_pos (by simp)]
      simp
    · by_cases h : k + 1 ≤ j ∧ j < k + 1 + s.length
      · rw [if_pos h, if_pos (by simp; omega)]
        have : j - k = (j - (k + 1)) + 1 := by omega
        rw [this, List.getElem?_cons_succ]
      · rw [if_neg h, if_neg e, if_neg (by simp; omega)]
theorem SL.init {r : Env} {h : Hp} {w : World} (H : HR r h w) (hT : Tidy h) {args args' : Array Value} (ha : AVs r args args') (n : Nat) :
    SL r ⟨initT args.toList 0 .leaf, args.size + (n - args.size), none, h⟩ { tmps := args' ++ Array.replicate (n - args'.size) undef, defers := [] } w := by
  have hs := ha.size
  refine ⟨rfl, by simp [hs], fun t => ?_, H, hT⟩
  simp only [initT_get]
  by_cases ht : t < args.size
  · rw [if_pos (by simpa using ht)]
    have := VRs.getD undef undef ((VR.closed 3 undef undef rfl).2 rfl) ha t
    simp only [List.getD_eq_getElem?_getD] at this
    simp only [Nat.sub_zero]
    have e : (args' ++ Array.replicate (n - args'.size) undef).getD t undef = (args'.toList[t]?).getD undef := by
      rw [Array.getD_eq_getD_getElem?, Array.getElem?_append_left (by omega)]
      simp
    rw [e]
    exact this
  · rw [if_neg (by simp; omega)]
    have e : (args' ++ Array.replicate (n - args'.size) undef).getD t undef = undef := by
      rw [Array.getD_eq_getD_getElem?, Array.getElem?_append_right (by omega)]
      simp only [Array.getElem?_replicate]
      split <;> rfl
    rw [e]
    exact (VR.closed 3 undef undef rfl).2 rfl
end
end Go.Proofs.YtmjblbgalkjmiaaGreat.EX
/- The executor is right. -/
namespace Go.Proofs.YtmjblbgalkjmiaaGreat.EX
open Go
section
variable {P : Program}
theorem SL.later {r r' : Env} {s : St} {a : Act} {w w' : World} {h1 : Hp} (S : SL r s a w) (hl : Le r r') (H : HR r' h1 w') (hT : Tidy h1) : SL r' { s with h := h1 } a w' :=
  ⟨S.defers.mono hl, S.size, fun t => VR.mono hl _ _ (S.tm t), H, hT⟩
end
end Go.Proofs.YtmjblbgalkjmiaaGreat.EX
/- Runs in continuations, whose answers are propositions: reading and writing trees and rows, every value forced. -/
namespace Go.Proofs.YtmjblbgalkjmiaaGreat.EX
open Go
/-- What a run answers: what is to hold, if what is to come holds. -/
abbrev An := Prop → Prop
/-- The way to a number in a tree: true is the left side. -/
def pathF : Nat → Nat → List Bool
  | 0, _ => []
  | n + 1, k => bif Nat.beq k 0 then [] else bif Nat.beq (Nat.mod k 2) 1 then true :: pathF n (Nat.div k 2) else false :: pathF n (Nat.pred (Nat.div k 2))
def stepP (k : Nat) (f : Nat → List Bool) : List Bool := bif Nat.beq k 0 then [] else bif Nat.beq (Nat.mod k 2) 1 then true :: f (Nat.div k 2) else false :: f (Nat.pred (Nat.div k 2))
/-- The same, without recursion for what is small. -/
def path (k : Nat) : List Bool := stepP k fun k => stepP k fun k => stepP k fun k => stepP k fun k => stepP k fun k => stepP k fun k => stepP k fun k => stepP k fun k => stepP k fun k => stepP k fun k => stepP k fun k => stepP k fun k => stepP k fun k => stepP k fun k => stepP k fun k => stepP k fun k => stepP k fun k => stepP k fun k => pathF (k + 1) k
theorem pathF_fuel : ∀ (n m k : Nat), k < n → k < m → pathF n k = pathF m k := by
  intro n
  induction n with
  | zero => intro m k h; omega
  | succ n ih =>
    intro m k h1 h2
    cases m with
    | zero => omega
    | succ m =>
      unfold pathF
      cases e : Nat.beq k 0 with
      | true => rfl
      | false =>
        have hk : k ≠ 0 := fun q => by rw [q] at e; cases e
        have a1 : Nat.div k 2 < k := Nat.div_lt_self (by omega) (by omega)
        rw [ih m (Nat.div k 2) (by omega) (by omega), ih m (Nat.pred (Nat.div k 2)) (by show Nat.div k 2 - 1 < n; omega) (by show Nat.div k 2 - 1 < m; omega)]
theorem step_path (k : Nat) (f : Nat → List Bool) (hf : ∀ j, j < k → f j = pathF (j + 1) j) : stepP k f = pathF (k + 1) k := by
  unfold stepP pathF
  cases e : Nat.beq k 0 with
  | true => rfl
  | false =>
    have hk : k ≠ 0 := fun q => by rw [q] at e; cases e
    have a1 : Nat.div k 2 < k := Nat.div_lt_self (by omega) (by omega)
    have a2 : Nat.pred (Nat.div k 2) < k := by show Nat.div k 2 - 1 < k; omega
    rw [hf _ a1, hf _ a2, pathF_fuel _ k (Nat.div k 2) (by omega) a1, pathF_fuel _ k (Nat.pred (Nat.div k 2)) (by omega) a2]
theorem path_eq (k : Nat) : path k = pathF (k + 1) k := by
  unfold path
  refine step_path _ _ fun j hj => ?_
  refine step_path _ _ fun j hj => ?_
  refine step_path _ _ fun j hj => ?_
  refine step_path _ _ fun j hj => ?_
  refine step_path _ _ fun j hj => ?_
  refine step_path _ _ fun j hj => ?_
  refine step_path _ _ fun j hj => ?_
  refine step_path _ _ fun j hj => ?_
  refine step_path _ _ fun j hj => ?_
  refine step_path _ _ fun j hj => ?_
  refine step_path _ _ fun j hj => ?_
  refine step_path _ _ fun j hj => ?_
  refine step_path _ _ fun j hj => ?_
  refine step_path _ _ fun j hj => ?_
  refine step_path _ _ fun j hj => ?_
  refine step_path _ _ fun j hj => ?_
  refine step_path _ _ fun j hj => ?_
  exact step_path _ _ fun j hj => rfl
def getK {α : Type} (p : List Bool) : T α → (Option α → An) → An :=
  List.rec (motive := fun _ => T α → (Option α → An) → An)
    (fun t q => Std.DTreeMap.Internal.Impl.rec (motive := fun _ => An) (fun _ _ v _ _ _ _ => q v) (q none) t)
    (fun b _ ih t q => Std.DTreeMap.Internal.Impl.rec (motive := fun _ => An) (fun _ _ _ l r _ _ => Bool.rec (ih r q) (ih l q) b) (q none) t) p
theorem getK_F {α : Type} (q : Option α → An) : ∀ (n k : Nat) (t : T α), k < n → getK (pathF n k) t q = q (t.get k) := by
  intro n
  induction n with
  | zero => intro k t h; omega
  | succ n ih =>
    intro k t h
    unfold pathF
    by_cases h0 : k = 0
    · subst h0
      cases t <;> rfl
    · have e0 : Nat.beq k 0 = false := Bool.eq_false_iff.2 fun e => h0 (Nat.eq_of_beq_eq_true e)
      rw [e0]
      by_cases h1 : k % 2 = 1
      · have e1 : Nat.beq (Nat.mod k 2) 1 = true := by rw [Nat.beq_eq]; exact h1
        rw [e1]
        cases t with
        | leaf => rfl
        | inner s x v l r =>
          rw [T.get, if_neg h0, if_pos h1]
          exact ih (k / 2) l (by omega)
      · have e1 : Nat.beq (Nat.mod k 2) 1 = false := Bool.eq_false_iff.2 fun e => h1 (Nat.eq_of_beq_eq_true e)
        rw [e1]
        cases t with
        | leaf => rfl
        | inner s x v l r =>
          rw [T.get, if_neg h0, if_neg h1]
          exact ih (k / 2 - 1) r (by omega)
theorem getK_eq {α : Type} (q : Option α → An) (k : Nat) (t : T α) : getK (path k) t q = q (t.get k) := by rw [path_eq]; exact getK_F q (k + 1) k t (by omega)
def setK {α : Type} (p : List Bool) : Option α → T α → (T α → An) → An :=
  List.rec (motive := fun _ => Option α → T α → (T α → An) → An)
    (fun x t q => Std.DTreeMap.Internal.Impl.rec (motive := fun _ => An) (fun _ _ _ l r _ _ => q (.inner 0 0 x l r)) (q (.inner 0 0 x .leaf .leaf)) t)
    (fun b _ ih x t q => Std.DTreeMap.Internal.Impl.rec (motive := fun _ => An) (fun _ _ v l r _ _ => Bool.rec (ih x r fun r => q (.inner 0 0 v l r)) (ih x l fun l => q (.inner 0 0 v l r)) b)
      (Bool.rec (ih x .leaf fun r => q (.inner 0 0 none .leaf r)) (ih x .leaf fun l => q (.inner 0 0 none l .leaf)) b) t) p
theorem T.single_fuel {α : Type} (v : Option α) : ∀ (n m k : Nat), k < n → k < m → T.single v n k = T.single v m k := by
  intro n
  induction n with
  | zero => intro m k h; omega
  | succ n ih =>
    intro m k h1 h2
    cases m with
    | zero => omega
    | succ m =>
      unfold T.single
      by_cases h0 : k = 0
      · rw [if_pos h0, if_pos h0]
      · rw [if_neg h0, if_neg h0]
        by_cases h3 : k % 2 = 1
        · rw [if_pos h3, if_pos h3, ih m (k / 2) (by omega) (by omega)]
        · rw [if_neg h3, if_neg h3, ih m (k / 2 - 1) (by omega) (by omega)]
theorem setK_F {α : Type} (x : Option α) : ∀ (n k : Nat) (t : T α) (q : T α → An), k < n → setK (pathF n k) x t q = q (t.set k x) := by
  intro n
  induction n with
  | zero => intro k t q h; omega
  | succ n ih =>
    intro k t q h
    unfold pathF
    by_cases h0 : k = 0
    · subst h0
      cases t <;> rfl
    · have e0 : Nat.beq k 0 = false := Bool.eq_false_iff.2 fun e => h0 (Nat.eq_of_beq_eq_true e)
      rw [e0]
      by_cases h1 : k % 2 = 1
      · have e1 : Nat.beq (Nat.mod k 2) 1 = true := by rw [Nat.beq_eq]; exact h1
        rw [e1]
        cases t with
        | leaf =>
          refine (ih (k / 2) .leaf _ (by omega)).trans ?_
          simp only [T.set]
          conv => rhs; unfold T.single
          rw [if_neg h0, if_pos h1, T.single_fuel x k (k / 2 + 1) (k / 2) (by omega) (by omega)]
        | inner s y v l r =>
          refine (ih (k / 2) l _ (by omega)).trans ?_
          conv => rhs; rw [T.set, if_neg h0, if_pos h1]
      · have e1 : Nat.beq (Nat.mod k 2) 1 = false := Bool.eq_false_iff.2 fun e => h1 (Nat.eq_of_beq_eq_true e)
        rw [e1]
        cases t with
        | leaf =>
          refine (ih (k / 2 - 1) .leaf _ (by omega)).trans ?_
          simp only [T.set]
          conv => rhs; unfold T.single
          rw [if_neg h0, if_neg h1, T.single_fuel x k (k / 2 - 1 + 1) (k / 2 - 1) (by omega) (by omega)]
        | inner s y v l r =>
          refine (ih (k / 2 - 1) r _ (by omega)).trans ?_
          conv => rhs; rw [T.set, if_neg h0, if_neg h1]
theorem setK_eq {α : Type} (x : Option α) (k : Nat) (t : T α) (q : T α → An) : setK (path k) x t q = q (t.set k x) := by rw [path_eq]; exact setK_F x (k + 1) k t q (by omega)
end Go.Proofs.YtmjblbgalkjmiaaGreat.EX
