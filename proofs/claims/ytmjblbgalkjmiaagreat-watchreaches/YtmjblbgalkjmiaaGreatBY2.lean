/- Slices, rows that are made, lengths, copies. -/
import Derived.Test.YtmjblbgalkjmiaaGreatBY1
import Derived.Laws.Sem
namespace Go.Proofs.YtmjblbgalkjmiaaGreat.EX
open Go
section
variable {P : Program}
def OV (r : Env) : Option Value → Option Value → Prop
  | none, none => True
  | some a, some b => VR r a b
  | _, _ => False
theorem OV.mono {r r' : Env} (hl : Le r r') : ∀ {a b : Option Value}, OV r a b → OV r' a b
  | none, none, _ => trivial
  | some _, some _, h => VR.mono hl _ _ h
/-- A bound that lies within what is known of a capacity. -/
def capOK (cap : Nat) : Option Value → Bool
  | some (.int _ i) => decide (0 ≤ i) && decide (i ≤ cap)
  | _ => true
/-- A bound: the same, and within. -/
def BQ (y : Nat) : Env → Nat → Nat → Prop := fun _ a b => a = b ∧ a ≤ y
theorem SR.sliceBoundQ {r : Env} {v v' : Value} (y : Nat) (c : BoundsCode) (h : VR r v v') : SR P (BQ y) (Instr.sliceBound v y c) (Instr.sliceBound v' y c) r := by
  unfold Instr.sliceBound
  refine SR.b (SR.asIntOf h) fun r1 k k' l1 e => ?_
  cases e
  dsimp only
  split
  · exact SR.p ⟨rfl, by omega⟩
  · exact SR.boundsPanic _ _ _ _
theorem SR.sliceBoundLe {r : Env} {v v' : Value} (y y' : Nat) (hy : y ≤ y') (c : BoundsCode) (hk : capOK y (some v) = true) (h : VR r v v') : SR P (BQ y) (Instr.sliceBound v y c) (Instr.sliceBound v' y' c) r := by
  unfold Instr.sliceBound
  cases v with
  | int k i =>
    cases h
    simp only [capOK, Bool.and_eq_true, decide_eq_true_eq] at hk
    show SR P (BQ y) (if 0 ≤ i ∧ i ≤ (y : Int) then pure i.toNat else Go.boundsPanic k i y c) (if 0 ≤ i ∧ i ≤ (y' : Int) then pure i.toNat else Go.boundsPanic k i y' c) r
    rw [if_pos hk, if_pos ⟨hk.1, by omega⟩]
    exact SR.p ⟨rfl, by omega⟩
  | pointer a => cases a with
    | none => exact SR.stuck _ _
    | some a => exact SR.unsup _ _
  | _ => exact SR.stuck _ _
/-- Bounds alike: the low and the high one are the same, the last is a lower bound. -/
def BR : Env → Nat × Nat × Nat → Nat × Nat × Nat → Prop := fun _ p q => p.1 = q.1 ∧ p.2.1 = q.2.1 ∧ p.2.2 ≤ q.2.2 ∧ p.2.1 ≤ p.2.2
theorem SR.sliceBounds {r : Env} (b : Bool) (n : Nat) {cap cap' : Nat} (hn : n ≤ cap) (hc : cap ≤ cap') {lo lo' hi hi' mx mx' : Option Value} (hlo : OV r lo lo') (hhi : OV r hi hi') (hmx : OV r mx mx') (hk : capOK cap (if mx.isSome then mx else hi) = true) :
    SR P (fun r p q => BR r p q ∧ (cap' = cap → p = q) ∧ p.1 ≤ p.2.1 ∧ p.2.2 ≤ cap ∧ (p.2.2 = q.2.2 ∨ (p.2.2 = cap ∧ q.2.2 = cap')) ∧ (lo = none → p.1 = 0)) (Instr.sliceBounds b n cap lo hi mx) (Instr.sliceBounds b n cap' lo' hi' mx') r := by
  unfold Instr.sliceBounds
  have low : ∀ (sm : Bool) (r1 : Env), Le r r1 → ∀ (m m' h : Nat), h ≤ m → m ≤ cap → m ≤ m' → (m = m' ∨ (m = cap ∧ m' = cap')) → SR P (fun r p q => BR r p q ∧ (cap' = cap → p = q) ∧ p.1 ≤ p.2.1 ∧ p.2.2 ≤ cap ∧ (p.2.2 = q.2.2 ∨ (p.2.2 = cap ∧ q.2.2 = cap')) ∧ (lo = none → p.1 = 0))
      (match (generalizing := false) lo with | some v => (do let l ← Instr.sliceBound v h (if sm = true then .slice3C else .sliceB); pure (l, h, m)) | none => (do let l ← pure 0; pure (l, h, m)))
      (match (generalizing := false) lo' with | some v => (do let l ← Instr.sliceBound v h (if sm = true then .slice3C else .sliceB); pure (l, h, m')) | none => (do let l ← pure 0; pure (l, h, m'))) r1 := by
    intro sm r1 l1 m m' h hh hmc hm he0
    have he : cap' = cap → m = m' := fun e => he0.elim id fun q => by rw [q.1, q.2, e]
    cases lo with
    | none => cases lo' with
      | none => exact SR.p ⟨⟨rfl, rfl, hm, hh⟩, fun e => by rw [he e], Nat.zero_le _, hmc, he0, fun _ => rfl⟩
      | some _ => exact hlo.elim
    | some v => cases lo' with
      | none => exact hlo.elim
      | some v' =>
        refine SR.b (SR.sliceBoundQ h _ (VR.mono l1 _ _ hlo)) fun r2 l l' l2 e => ?_
        obtain ⟨rfl, e⟩ := e
        exact SR.p ⟨⟨rfl, rfl, hm, hh⟩, fun e => by rw [he e], e, hmc, he0, fun q => by cases q⟩
  cases mx with
  | none => cases mx' with
    | some _ => exact hmx.elim
    | none =>
      cases hi with
      | none => cases hi' with
        | some _ => exact hhi.elim
        | none => exact low false r (Le.refl r) cap cap' n hn (Nat.le_refl _) hc (.inr ⟨rfl, rfl⟩)
      | some v => cases hi' with
        | none => exact hhi.elim
        | some v' =>
          refine SR.b (Q := fun _ m m' => m = cap ∧ m' = cap') (SR.p ⟨rfl, rfl⟩) fun r0 m m' l0 e => ?_
          obtain ⟨rfl, rfl⟩ := e
          refine SR.b (SR.sliceBoundLe m m' hc _ (by simpa using hk) (VR.mono l0 _ _ hhi)) fun r2 h h' l2 e => ?_
          obtain ⟨rfl, e⟩ := e
          exact low false r2 (l0.trans l2) m m' h e (Nat.le_refl _) hc (.inr ⟨rfl, rfl⟩)
  | some m => cases mx' with
    | none => exact hmx.elim
    | some m' =>
      refine SR.b (SR.sliceBoundLe cap cap' hc _ (by simpa using hk) hmx) fun r2 x x' l2 e => ?_
      obtain ⟨rfl, ex⟩ := e
      cases hi with
      | none => cases hi' with
        | some _ => exact hhi.elim
        | none => exact SR.stuck _ _
      | some v => cases hi' with
        | none => exact hhi.elim
        | some v' =>
          refine SR.b (SR.sliceBoundQ x _ (VR.mono l2 _ _ hhi)) fun r3 h h' l3 e => ?_
          obtain ⟨rfl, e⟩ := e
          exact low true r3 (l2.trans l3) x x h e ex (Nat.le_refl _) (.inl rfl)
def evenB : Value → Bool
  | .slice (some a) _ _ => Nat.beq (a.block % 2) 0
  | _ => true
/-- What a slice operation's bounds must lie within; of a row that an append made, from its beginning on. -/
def sliceOK (x : Value) (lo hi mx : Option Value) : Bool :=
  (evenB x || lo.isNone) && match x with
  | .slice _ n cap => decide (n ≤ cap) && capOK cap (if mx.isSome then mx else hi)
  | _ => true
theorem SR.underlyingQ {r : Env} (t : TypeId) : SR P (fun _ a b => a = b ∧ P.underlying t = some a) (Go.underlying t) (Go.underlying t) r := by
  unfold Go.underlying
  show SR P _ (match P.underlying t with | some d => (pure d : Sem TypeDesc) | none => Go.stuck "no such type") (match P.underlying t with | some d => (pure d : Sem TypeDesc) | none => Go.stuck "no such type") r
  cases P.underlying t with
  | none => exact SR.stuck _ _
  | some d => exact SR.p ⟨rfl, rfl⟩
theorem SR.boundsEq {r : Env} (b : Bool) (n cap : Nat) {lo lo' hi hi' mx mx' : Option Value} (hlo : OV r lo lo') (hhi : OV r hi hi') (hmx : OV r mx mx') : SR P Eqq (Instr.sliceBounds b n cap lo hi mx) (Instr.sliceBounds b n cap lo' hi' mx') r := by
  unfold Instr.sliceBounds
  have one : ∀ (r1 : Env), Le r r1 → ∀ {u u' : Option Value}, OV r u u' → ∀ (y : Nat) (c : BoundsCode) (v v' : Value), u = some v → u' = some v' → SR P Eqq (Instr.sliceBound v y c) (Instr.sliceBound v' y c) r1 := by
    intro r1 l1 u u' hu y c v v' e e'
    subst e e'
    exact SR.sliceBound _ _ (VR.mono l1 _ _ hu)
  have low : ∀ (sm : Bool) (r1 : Env), Le r r1 → ∀ (m h : Nat), SR P Eqq
      (match (generalizing := false) lo with | some v => (do let l ← Instr.sliceBound v h (if sm = true then .slice3C else .sliceB); pure (l, h, m)) | none => (do let l ← pure 0; pure (l, h, m)))
      (match (generalizing := false) lo' with | some v => (do let l ← Instr.sliceBound v h (if sm = true then .slice3C else .sliceB); pure (l, h, m)) | none => (do let l ← pure 0; pure (l, h, m))) r1 := by
    intro sm r1 l1 m h
    cases lo with
    | none => cases lo' with
      | none => exact SR.p rfl
      | some _ => exact hlo.elim
    | some v => cases lo' with
      | none => exact hlo.elim
      | some v' =>
        refine SR.b (one r1 l1 hlo h _ v v' rfl rfl) fun r2 l l' l2 e => ?_
        cases e
        exact SR.p rfl
  cases mx with
  | none => cases mx' with
    | some _ => exact hmx.elim
    | none =>
      cases hi with
      | none => cases hi' with
        | some _ => exact hhi.elim
        | none => exact low false r (Le.refl r) cap n
      | some v => cases hi' with
        | none => exact hhi.elim
        | some v' =>
          refine SR.b (Q := fun _ m m' => m = cap ∧ m' = cap) (SR.p ⟨rfl, rfl⟩) fun r0 m m' l0 e => ?_
          obtain ⟨rfl, rfl⟩ := e
          refine SR.b (one r0 l0 hhi _ _ v v' rfl rfl) fun r2 h h' l2 e => ?_
          cases e
          exact low false r2 (l0.trans l2) m' h
  | some m => cases mx' with
    | none => exact hmx.elim
    | some m' =>
      refine SR.b (one r (Le.refl r) hmx cap _ m m' rfl rfl) fun r2 x x' l2 e => ?_
      cases e
      cases hi with
      | none => cases hi' with
        | some _ => exact hhi.elim
        | none => exact SR.stuck _ _
      | some v => cases hi' with
        | none => exact hhi.elim
        | some v' =>
          refine SR.b (one r2 l2 hhi x _ v v' rfl rfl) fun r3 h h' l3 e => ?_
          cases e
          exact low true r3 (l2.trans l3) x h
theorem VR.sl {r : Env} {a a' : Addr} (h : AR r a a') (n c : Nat) : VR r (.slice (some a) n c) (.slice (some a') n c) :=
  (VRe r).2.2.2.2.2.2.2.2.1 _ _ _ _ |>.2 ⟨a', c, h.choose_spec.1, ⟨fun _ => rfl, Nat.le_refl _, fun _ => .inl rfl⟩, .inr h, rfl⟩
theorem SR.slice {r : Env} (t : TypeId) {x x' : Value} {lo lo' hi hi' mx mx' : Option Value} (hx : VR r x x') (hlo : OV r lo lo') (hhi : OV r hi hi') (hmx : OV r mx mx') (hk : sliceOK x lo hi mx = true) :
    SR P VR (Instr.slice t x lo hi mx) (Instr.slice t x' lo' hi' mx') r := by
  have es : mx'.isSome = mx.isSome := by cases mx <;> cases mx' <;> first | rfl | exact hmx.elim
  unfold Instr.slice
  refine SR.b (SR.underlyingQ t) fun r1 d d' l1 e => ?_
  obtain ⟨e, hud⟩ := e
  cases e
  cases d with
  | string =>
    cases x with
    | string s =>
      cases hx
      dsimp only
      rw [es]
      split
      · exact SR.stuck _ _
      · refine SR.b (SR.boundsEq false s.size s.size (hlo.mono l1) (hhi.mono l1) (show OV r1 none none from trivial)) fun r2 p q l2 e => ?_
        cases e
        exact SR.p rfl
    | _ => exact SR.stuck _ _
  | slice el =>
    cases x with
    | slice b n cap =>
      cases b with
      | none =>
        cases hx
        refine SR.b (SR.boundsEq true n cap (hlo.mono l1) (hhi.mono l1) (hmx.mono l1)) fun r2 p q l2 e => ?_
        cases e
        obtain ⟨l, h, m⟩ := p
        refine SR.b (SR.sizeOf _) fun r3 z z' l3 e => ?_
        cases e
        refine SR.p ?_
        split <;> exact rfl
      | some a =>
        obtain ⟨a', cap', h1, h3, h5, rfl⟩ := hx
        simp only [sliceOK, Bool.and_eq_true, decide_eq_true_eq, Bool.or_eq_true] at hk
        obtain ⟨hk0, hk⟩ := hk
        refine SR.b (SR.sliceBounds true n hk.1 h3.2.1 (hlo.mono l1) (hhi.mono l1) (hmx.mono l1) hk.2) fun r2 p q l2 e => ?_
        obtain ⟨l, h, m⟩ := p
        obtain ⟨l', h', m'⟩ := q
        obtain ⟨⟨e1, e2, e3, e5⟩, e4, e6, e7, e8, e9⟩ := e
        dsimp only at e1 e2 e3 e5 e6 e7 e8 e9
        subst e1 e2
        refine SR.b (SR.sizeOf _) fun r3 z z' l3 e => ?_
        cases e
        refine SR.p ?_
        have lle := l1.trans (l2.trans l3)
        have hadd : ∀ (q : Addr) (k : Nat), (q.add k).block = q.block := fun q k => by unfold Addr.add; split <;> rfl
        rcases hk0 with hk0 | hk0
        · have hev : a.block % 2 = 0 := Nat.eq_of_beq_eq_true hk0
          have hm : m' = m := by have := e4 (h3.1 hev); simp only [Prod.mk.injEq] at this; exact this.2.2.symm
          subst hm
          have hcap : ∀ (b b' : Addr), b.block = a.block → CapOK r3 b (m' - l) b' (m' - l) := fun _ _ _ => ⟨fun _ => rfl, Nat.le_refl _, fun _ => .inl rfl⟩
          by_cases em : m' = l
          · rw [if_pos em, if_pos em]
            exact (VRe r3).2.2.2.2.2.2.2.2.1 _ _ _ _ |>.2 ⟨a', _, lle _ _ h1, hcap _ _ rfl, h5.imp (fun q => ⟨by omega, by omega⟩) fun q => q.mono lle, rfl⟩
          · rw [if_neg em, if_neg em]
            refine (VRe r3).2.2.2.2.2.2.2.2.1 _ _ _ _ |>.2 ⟨a'.add (l * z), _, by rw [hadd, hadd]; exact lle _ _ h1, hcap _ _ (hadd _ _), ?_, rfl⟩
            rcases h5 with h5 | h5
            · exact .inl ⟨by omega, by omega⟩
            · exact .inr ((h5.mono lle).add _)
        · have hl0 : l = 0 := e9 (by cases lo with | none => rfl | some _ => cases hk0)
          subst hl0
          have add0 : ∀ (q : Addr), q.add (0 * z) = q := fun q => by rw [Nat.zero_mul]; rfl
          have same : ∀ (q : Addr) (k : Nat), (if k = 0 then some q else (some q).map (·.add (0 * z))) = some q := fun q k => by
            split
            · rfl
            · show some (q.add (0 * z)) = some q
              rw [add0]
          rw [same, same]
          refine (VRe r3).2.2.2.2.2.2.2.2.1 _ _ _ _ |>.2 ⟨a', _, lle _ _ h1, ⟨fun e => ?_, by omega, fun ho => ?_⟩, h5.imp (fun q => ⟨by omega, by omega⟩) fun q => q.mono lle, rfl⟩
          · have := e4 (h3.1 e)
            simp only [Prod.mk.injEq] at this
            rw [this.2.2]
          · rcases e8 with e8 | ⟨e8, e10⟩
            · exact .inl (by omega)
            · subst e8 e10
              exact (h3.mono lle).2.2 ho
    | _ => exact SR.stuck _ _
  | pointer arr =>
    cases x with
    | pointer a =>
      cases a with
      | none =>
        cases hx
        exact (VR.closed (r := r1) 3 (Value.iface P.rt.errorString (strVal "invalid memory address or nil pointer dereference")) (Value.iface P.rt.errorString (strVal "invalid memory address or nil pointer dereference")) rfl).2 rfl
      | some a =>
        obtain ⟨a', h1, rfl⟩ := hx
        refine SR.b (Q := AR) (SR.p (h1.mono l1)) fun r2 q q' l2 hq => ?_
        refine SR.b (SR.underlying arr) fun r3 d d' l3 e => ?_
        cases e
        cases d with
        | array k el =>
          dsimp only
          have ll := l1.trans (l2.trans l3)
          refine SR.b (SR.boundsEq false k k (hlo.mono ll) (hhi.mono ll) (hmx.mono ll)) fun r4 p p' l4 e => ?_
          cases e
          obtain ⟨l, h, m⟩ := p
          refine SR.b (SR.sizeOf _) fun r5 z z' l5 e => ?_
          cases e
          refine SR.p ?_
          have hq := hq.mono (l3.trans (l4.trans l5))
          split
          · exact VR.sl hq _ _
          · exact VR.sl (hq.add _) _ _
        | _ => exact SR.stuck _ _
    | _ => exact SR.stuck _ _
  | _ => exact SR.stuck _ _
end
end Go.Proofs.YtmjblbgalkjmiaaGreat.EX
/- What is built, lengths, copies, calls. -/
namespace Go.Proofs.YtmjblbgalkjmiaaGreat.EX
open Go
section
variable {P : Program}
theorem SR.sliceAt {r : Env} (t : TypeId) {x x' : Value} {lo lo' hi hi' mx mx' : Option Value} (hx : VR r x x') (hlo : OV r lo lo') (hhi : OV r hi hi') (hmx : OV r mx mx') (hk : sliceOK x lo hi mx = true) :
    SR P VR (Instr.sliceAt t x lo hi mx) (Instr.sliceAt t x' lo' hi' mx') r := by
  unfold Instr.sliceAt
  refine SR.b (SR.underlying t) fun r1 d d' l1 e => ?_
  cases e
  cases d with
  | array k el =>
    dsimp only
    refine SR.b (SR.sureAddr (hx.mono l1)) fun r2 q q' l2 hq => ?_
    have ll := l1.trans l2
    refine SR.b (SR.boundsEq false k k (hlo.mono ll) (hhi.mono ll) (hmx.mono ll)) fun r4 p p' l4 e => ?_
    cases e
    obtain ⟨l, h, m⟩ := p
    refine SR.b (SR.sizeOf _) fun r5 z z' l5 e => ?_
    cases e
    refine SR.p ?_
    have hq := hq.mono (l4.trans l5)
    split
    · exact VR.sl hq _ _
    · exact VR.sl (hq.add _) _ _
  | _ => exact SR.slice t (hx.mono l1) (hlo.mono l1) (hhi.mono l1) (hmx.mono l1) hk
theorem AVs.size {r : Env} {a a' : Array Value} (h : AVs r a a') : a'.size = a.size := by simpa using VRs.length h
theorem AVs.set {r : Env} {a a' : Array Value} (h : AVs r a a') (i : Nat) {v v' : Value} (hv : VR r v v') : AVs r (a.setIfInBounds i v) (a'.setIfInBounds i v') := by
  unfold AVs at *
  simp only [Array.toList_setIfInBounds]
  exact VRs.set hv h i
/-- Numbered values alike. -/
def PL (r : Env) : List (Nat × Value) → List (Nat × Value) → Prop
  | [], l => l = []
  | x :: s, l => ∃ v' s', VR r x.2 v' ∧ PL r s s' ∧ l = (x.1, v') :: s'
theorem PL.mono {r r' : Env} (hl : Le r r') : ∀ {l l' : List (Nat × Value)}, PL r l l' → PL r' l l'
  | [], _, h => h
  | _ :: _, _, ⟨v', s', h1, h2, h3⟩ => ⟨v', s', h1.mono hl, PL.mono hl h2, h3⟩
def OAV (r : Env) : Option (Array Value) → Option (Array Value) → Prop
  | none, none => True
  | some a, some b => AVs r a b
  | _, _ => False
theorem fold_alike {r : Env} (off : Nat) : ∀ (l l' : List Value) (k : Nat) (a a' : Array Value), VRs r l l' → AVs r a a' →
    AVs r ((l.zipIdx k).foldl (fun cs (c, j) => cs.setIfInBounds (off + j) c) a) ((l'.zipIdx k).foldl (fun cs (c, j) => cs.setIfInBounds (off + j) c) a')
  | [], l', k, a, a', h, ha => by cases h; exact ha
  | x :: s, l', k, a, a', ⟨x', s', h1, h2, h3⟩, ha => by
    subst h3
    simp only [List.zipIdx_cons, List.foldl_cons]
    exact fold_alike off s s' (k + 1) _ _ h2 (ha.set _ h1)
theorem fill_alike {r : Env} (place : Nat → Option (Nat × Nat)) : ∀ (ps ps' : List (Nat × Value)) (a a' : Array Value), PL r ps ps' → AVs r a a' → OAV r (Instr.fill place a ps) (Instr.fill place a' ps')
  | [], ps', a, a', h, ha => by cases h; exact ha
  | (i, v) :: s, ps', a, a', ⟨v', s', h1, h2, h3⟩, ha => by
    subst h3
    unfold Instr.fill
    dsimp only
    cases place i with
    | none => trivial
    | some p =>
      obtain ⟨off, size⟩ := p
      dsimp only
      have hc := VRs.cells v v' h1
      have hn : v'.cells.size = v.cells.size := by simpa using VRs.length hc
      rw [hn, ha.size]
      split
      · trivial
      · refine fill_alike place s s' _ _ h2 ?_
        have := fold_alike off v.cells.toList v'.cells.toList 0 a a' hc ha
        rw [← Array.foldl_toList, ← Array.foldl_toList, Array.toList_zipIdx, Array.toList_zipIdx]
        exact this
/-- A tree that asks for nothing but what is the same everywhere. -/
def Quiet (P : Program) {α : Type} (s : Sem α) : Prop := ∀ r, SR P Eqq s s r
theorem Quiet.b {α β : Type} {s : Sem α} {f : α → Sem β} (h : Quiet P s) (k : ∀ a, Quiet P (f a)) : Quiet P (s >>= f) := fun r => SR.b (h r) fun r' a a' _ e => by cases e; exact k a r'
theorem Quiet.mapM {α β : Type} (f : α → Sem β) (h : ∀ a, Quiet P (f a)) (as : Array α) : Quiet P (as.mapM f) := by
  have key : ∀ l : List α, Quiet P (l.mapM f) := by
    intro l
    induction l with
    | nil => rw [List.mapM_nil]; exact fun r => SR.p rfl
    | cons a l ih => rw [List.mapM_cons]; exact Quiet.b (h a) fun b => Quiet.b ih fun bs r => SR.p rfl
  rw [Array.mapM_eq_mapM_toList, map_eq_pure_bind]
  exact Quiet.b (key _) fun _ r => SR.p rfl
theorem SR.build {r : Env} (hz : Zc P) (t : TypeId) {ps ps' : Array (Nat × Value)} (h : PL r ps.toList ps'.toList) : SR P VR (Instr.build t ps) (Instr.build t ps') r := by
  unfold Instr.build
  refine SR.b (SR.zeroValue hz t) fun r1 z z' l1 e => ?_
  obtain ⟨rfl, hzz⟩ := e
  have hc : AVs r1 z.cells z.cells := VRs.cells z z hzz
  refine SR.b (SR.underlying t) fun r2 d d' l2 e => ?_
  cases e
  cases d with
  | struct fields =>
    dsimp only
    have hm : ∀ (r : Env), SR P Eqq (fields.mapM fun f => do pure (f.offset, ← Go.sizeOf f.type)) (fields.mapM fun f => do pure (f.offset, ← Go.sizeOf f.type)) r := by
      exact Quiet.mapM _ (fun f => Quiet.b (fun r => SR.sizeOf _) fun n r => SR.p rfl) fields
    refine SR.b (hm r2) fun r3 pl pl' l3 e => ?_
    cases e
    have := fill_alike (fun i => pl[i]?) ps.toList ps'.toList z.cells z.cells (h.mono (l1.trans (l2.trans l3))) (hc.mono (l2.trans l3))
    revert this
    generalize Instr.fill (fun i => pl[i]?) z.cells ps.toList = A
    generalize Instr.fill (fun i => pl[i]?) z.cells ps'.toList = B
    intro this
    cases A with
    | none => exact SR.stuck _ _
    | some a => cases B with
      | none => exact this.elim
      | some b => exact SR.p (VR.agg this)
  | array k el =>
    dsimp only
    refine SR.b (SR.sizeOf _) fun r3 n n' l3 e => ?_
    cases e
    have := fill_alike (fun i => some (i * n, n)) ps.toList ps'.toList z.cells z.cells (h.mono (l1.trans (l2.trans l3))) (hc.mono (l2.trans l3))
    revert this
    generalize Instr.fill (fun i => some (i * n, n)) z.cells ps.toList = A
    generalize Instr.fill (fun i => some (i * n, n)) z.cells ps'.toList = B
    intro this
    cases A with
    | none => exact SR.stuck _ _
    | some a => cases B with
      | none => exact this.elim
      | some b => exact SR.p (VR.agg this)
  | _ => exact SR.stuck _ _
end
end Go.Proofs.YtmjblbgalkjmiaaGreat.EX
/- Rows that are made, lengths, copies, calls. -/
namespace Go.Proofs.YtmjblbgalkjmiaaGreat.EX
open Go
section
variable {P : Program}
theorem VRs.of_all {r : Env} : ∀ (l : List Value), (∀ x ∈ l, VR r x x) → VRs r l l
  | [], _ => rfl
  | x :: s, h => ⟨x, s, h x (by simp), VRs.of_all s fun y hy => h y (by simp [hy]), rfl⟩
theorem VRs.mem {r : Env} : ∀ {l : List Value}, VRs r l l → ∀ x ∈ l, VR r x x
  | [], _, x, hx => by simp at hx
  | y :: s, ⟨y', s', h1, h2, h3⟩, x, hx => by
    cases h3
    rcases List.mem_cons.1 hx with e | e
    · rw [e]; exact h1
    · exact VRs.mem h2 x e
/-- A row of zero values is like itself. -/
theorem zeros_alike {r : Env} (z : Array Value) (h : AVs r z z) (n : Nat) : AVs r ((Array.range n).map (z[· % z.size]!)) ((Array.range n).map (z[· % z.size]!)) := by
  unfold AVs
  refine VRs.of_all _ fun x hx => ?_
  simp only [Array.toList_map, List.mem_map] at hx
  obtain ⟨i, _, rfl⟩ := hx
  by_cases hi : i % z.size < z.size
  · rw [getElem!_pos z _ hi]
    exact VRs.mem h _ (by simp)
  · rw [getElem!_neg z _ hi]
    exact rfl
theorem SR.askRoom {r : Env} (n : Nat) : SR P Eqq (askRoom n) (askRoom n) r := by
  unfold Go.askRoom
  split
  · exact rfl
  · exact SR.p rfl
theorem SR.rtError {α : Type} {Q : Env → α → α → Prop} {r : Env} (m : String) : SR P Q (runtimePanic (.error m)) (runtimePanic (.error m)) r :=
  (VR.closed (r := r) 3 (Value.iface P.rt.errorString (strVal m)) (Value.iface P.rt.errorString (strVal m)) rfl).2 rfl
theorem SR.buildSlice {r : Env} (hz : Zc P) (t : TypeId) (len : Nat) {ps ps' : Array (Nat × Value)} (h : PL r ps.toList ps'.toList) : SR P VR (Instr.buildSlice t len ps) (Instr.buildSlice t len ps') r := by
  unfold Instr.buildSlice
  refine SR.b (SR.underlying t) fun r1 d d' l1 e => ?_
  cases e
  cases d with
  | slice el =>
    dsimp only
    refine SR.b (SR.sizeOf _) fun r2 n n' l2 e => ?_
    cases e
    have tail : ∀ (why : String) (r3 : Env), Le r r3 → ∀ z : Array Value, AVs r3 z z → SR P VR
        (match Instr.fill (fun i => some (i * n, n)) ((Array.range (len * n)).map (z[· % z.size]!)) ps.toList with
          | some cells => (do pure (.slice (some (← Go.newRow el cells)) len len))
          | _ => Go.stuck why)
        (match Instr.fill (fun i => some (i * n, n)) ((Array.range (len * n)).map (z[· % z.size]!)) ps'.toList with
          | some cells => (do pure (.slice (some (← Go.newRow el cells)) len len))
          | _ => Go.stuck why) r3 := by
      intro why r3 l3 z hzz
      have := fill_alike (fun i => some (i * n, n)) ps.toList ps'.toList _ _ (h.mono l3) (zeros_alike z hzz (len * n))
      revert this
      generalize Instr.fill (fun i => some (i * n, n)) ((Array.range (len * n)).map (z[· % z.size]!)) ps.toList = A
      generalize Instr.fill (fun i => some (i * n, n)) ((Array.range (len * n)).map (z[· % z.size]!)) ps'.toList = B
      intro this
      cases A with
      | none => exact SR.stuck _ _
      | some a => cases B with
        | none => exact this.elim
        | some b => exact SR.b (SR.newRow el this) fun _ _ _ _ ha => SR.p (VR.sl ha _ _)
    split
    · exact SR.unsup _ _
    · split
      · refine SR.b (Q := fun r a b => a = b ∧ AVs r a b) (SR.p ⟨rfl, rfl⟩) fun r4 z z' l4 e => ?_
        obtain ⟨rfl, e⟩ := e
        exact tail _ r4 (l1.trans (l2.trans l4)) z e
      · refine SR.b (SR.zeroValue hz el) fun r4 z z' l4 e => ?_
        obtain ⟨rfl, e⟩ := e
        refine SR.b (Q := fun r a b => a = b ∧ AVs r a b) (SR.p ⟨rfl, VRs.cells z z e⟩) fun r5 z z' l5 e => ?_
        obtain ⟨rfl, e⟩ := e
        exact tail _ r5 (l1.trans (l2.trans (l4.trans l5))) z e
  | _ => exact SR.stuck _ _
theorem SR.asInt {r : Env} {v v' : Value} (h : VR r v v') : SR P Eqq (asInt v) (asInt v') r := by
  unfold Go.asInt
  refine SR.b (SR.asIntOf h) fun r1 k k' l1 e => ?_
  cases e
  exact SR.p rfl
theorem SR.makeSlice {r : Env} (hz : Zc P) (t : TypeId) {n n' c c' : Value} (hn : VR r n n') (hc : VR r c c') : SR P VR (Instr.makeSlice t n c) (Instr.makeSlice t n' c') r := by
  unfold Instr.makeSlice
  refine SR.b (SR.underlying t) fun r1 d d' l1 e => ?_
  cases e
  cases d with
  | slice el =>
    dsimp only
    refine SR.b (SR.asInt (hn.mono l1)) fun r2 x x' l2 e => ?_
    cases e
    refine SR.b (SR.asInt (hc.mono (l1.trans l2))) fun r3 y y' l3 e => ?_
    cases e
    refine SR.b (SR.typeInfo el) fun r4 i i' l4 e => ?_
    cases e
    have tail : ∀ r5 : Env, SR P VR
        (do Go.askRoom ((IntKind.i64.wrap y).toNat * i.bytes)
            let n := (IntKind.i64.wrap y).toNat * (← Go.sizeOf el)
            let zero ← if n = 0 then pure #[] else do pure (← Go.zeroValue el).cells
            let a ← Go.newRow el ((Array.range n).map (zero[· % zero.size]!))
            pure (.slice (some a) (IntKind.i64.wrap x).toNat (IntKind.i64.wrap y).toNat))
        (do Go.askRoom ((IntKind.i64.wrap y).toNat * i.bytes)
            let n := (IntKind.i64.wrap y).toNat * (← Go.sizeOf el)
            let zero ← if n = 0 then pure #[] else do pure (← Go.zeroValue el).cells
            let a ← Go.newRow el ((Array.range n).map (zero[· % zero.size]!))
            pure (.slice (some a) (IntKind.i64.wrap x).toNat (IntKind.i64.wrap y).toNat)) r5 := by
      intro r5
      refine SR.b (SR.askRoom _) fun r6 _ _ l6 _ => ?_
      refine SR.b (SR.sizeOf _) fun r7 k k' l7 e => ?_
      cases e
      dsimp only
      have fin : ∀ (r8 : Env) (z : Array Value), AVs r8 z z → SR P VR
          (do let a ← Go.newRow el ((Array.range ((IntKind.i64.wrap y).toNat * k)).map (z[· % z.size]!))
              pure (.slice (some a) (IntKind.i64.wrap x).toNat (IntKind.i64.wrap y).toNat))
          (do let a ← Go.newRow el ((Array.range ((IntKind.i64.wrap y).toNat * k)).map (z[· % z.size]!))
              pure (.slice (some a) (IntKind.i64.wrap x).toNat (IntKind.i64.wrap y).toNat)) r8 := fun r8 z hzz =>
        SR.b (SR.newRow el (zeros_alike z hzz _)) fun _ _ _ _ ha => SR.p (VR.sl ha _ _)
      split
      · refine SR.b (Q := fun r a b => a = b ∧ AVs r a b) (SR.p ⟨rfl, rfl⟩) fun r4 z z' l4 e => ?_
        obtain ⟨rfl, e⟩ := e
        exact fin r4 z e
      · refine SR.b (SR.zeroValue hz el) fun r4 z z' l4 e => ?_
        obtain ⟨rfl, e⟩ := e
        refine SR.b (Q := fun r a b => a = b ∧ AVs r a b) (SR.p ⟨rfl, VRs.cells z z e⟩) fun r5 z z' l5 e => ?_
        obtain ⟨rfl, e⟩ := e
        exact fin r5 z e
    split
    · split
      · exact SR.rtError _
      · split
        · exact SR.rtError _
        · exact SR.b (Q := Eqq) ⟨rfl, fun hf => by cases hf⟩ fun r6 q q' _ e => by cases e; exact SR.rtError _
    · exact tail r4
  | _ => exact SR.stuck _ _
end
end Go.Proofs.YtmjblbgalkjmiaaGreat.EX
/- Copies, lengths, calls. -/
namespace Go.Proofs.YtmjblbgalkjmiaaGreat.EX
open Go
section
variable {P : Program}
/-- A slice whose length is at least so much, or a string. -/
def lenOK (n : Nat) : Value → Bool
  | .slice _ k _ => decide (n ≤ k)
  | _ => true
theorem SR.firstCells {r : Env} (z n : Nat) {v v' : Value} (h : VR r v v') (hk : lenOK n v = true) : SR P AVs (Builtin.firstCells z n v) (Builtin.firstCells z n v') r := by
  cases v with
  | slice a k c =>
    cases a with
    | none => cases h; exact SR.p rfl
    | some a =>
      obtain ⟨a', c', h1, h2, h5, rfl⟩ := h
      simp only [lenOK, decide_eq_true_eq] at hk
      rcases h5 with h5 | h5
      · have : n * z = 0 := by rw [show n = 0 by omega, Nat.zero_mul]
        show SR P AVs (Go.loadCells a (n * z)) (Go.loadCells a' (n * z)) r
        rw [this]
        exact SR.p rfl
      · exact SR.loadCells _ h5
  | string s =>
    cases h
    refine SR.p ?_
    refine VRs.of_all _ fun x hx => ?_
    simp only [Array.toList_map, List.mem_map] at hx
    obtain ⟨i, _, rfl⟩ := hx
    exact rfl
  | _ => exact SR.stuck _ _
theorem SR.lenOf {r : Env} {v v' : Value} (h : VR r v v') : SR P Eqq (Builtin.lenOf v) (Builtin.lenOf v') r := by
  cases v with
  | slice a k c =>
    cases a with
    | none => cases h; exact SR.p rfl
    | some a => obtain ⟨a', c', _, _, _, rfl⟩ := h; exact SR.p rfl
  | string s => cases h; exact SR.p rfl
  | _ => exact SR.stuck _ _
theorem SR.lenOfQ {r : Env} {v v' : Value} (h : VR r v v') : SR P (fun _ a b => a = b ∧ lenOK a v = true) (Builtin.lenOf v) (Builtin.lenOf v') r := by
  cases v with
  | slice a k c =>
    cases a with
    | none => cases h; exact SR.p ⟨rfl, by simp [lenOK]⟩
    | some a => obtain ⟨a', c', _, _, _, rfl⟩ := h; exact SR.p ⟨rfl, by simp [lenOK]⟩
  | string s => cases h; exact SR.p ⟨rfl, rfl⟩
  | _ => exact SR.stuck _ _
theorem SR.firstCellsQ {r : Env} (z n : Nat) {v v' : Value} (h : VR r v v') (hk : lenOK n v = true) : SR P (fun r a b => AVs r a b ∧ (n = 0 → a.size = 0)) (Builtin.firstCells z n v) (Builtin.firstCells z n v') r := by
  by_cases hn : n = 0
  · subst hn
    cases v with
    | slice a k c =>
      cases a with
      | none => cases h; exact SR.p ⟨rfl, fun _ => rfl⟩
      | some a =>
        obtain ⟨a', c', h1, h2, h5, rfl⟩ := h
        show SR P _ (Go.loadCells a (0 * z)) (Go.loadCells a' (0 * z)) r
        rw [Nat.zero_mul]
        exact SR.p ⟨rfl, fun _ => rfl⟩
    | string s =>
      cases h
      refine SR.p ⟨?_, fun _ => by simp⟩
      refine VRs.of_all _ fun x hx => ?_
      simp only [Array.toList_map, List.mem_map] at hx
      obtain ⟨i, _, rfl⟩ := hx
      exact rfl
    | _ => exact SR.stuck _ _
  · exact SR.mono _ _ r (SR.firstCells z n h hk) fun r a b k => ⟨k, fun e => absurd e hn⟩
theorem VRs.at {r : Env} {a a' : Array Value} (h : AVs r a a') (i : Nat) : OV r a[i]? a'[i]? := by
  cases he : a[i]? with
  | none =>
    have : a'[i]? = none := by
      rw [Array.getElem?_eq_none_iff] at he ⊢
      rw [h.size]; exact he
    rw [this]; trivial
  | some v =>
    obtain ⟨v', hv', hr⟩ := VRs.get? h (i := i) (v := v) (by simpa using he)
    have : a'[i]? = some v' := by simpa using hv'
    rw [this]
    exact hr
theorem SR.len {r : Env} (ts : Array TypeId) (t : TypeId) {a a' : Array Value} (h : AVs r a a') : SR P VR (Builtin.len_ ts t a) (Builtin.len_ ts t a') r := by
  unfold Builtin.len_
  have h0 := VRs.at h 0
  revert h0
  generalize a[0]? = x
  generalize a'[0]? = x'
  intro h0
  cases ts[0]? with
  | none => exact SR.stuck _ _
  | some ty =>
    cases x with
    | none => exact SR.stuck _ _
    | some x => cases x' with
      | none => exact h0.elim
      | some x' =>
        dsimp only
        refine SR.b (SR.underlying ty) fun r1 d d' l1 e => ?_
        cases e
        have h1 : VR r1 x x' := VR.mono l1 _ _ h0
        cases d with
        | string => cases x with
          | string s => cases h1; exact SR.p rfl
          | _ => exact SR.stuck _ _
        | array k el => exact SR.p rfl
        | pointer arr =>
          dsimp only
          refine SR.b (SR.underlying arr) fun r2 d d' l2 e => ?_
          cases e
          cases d with
          | array k el => exact SR.p rfl
          | _ => exact SR.stuck _ _
        | slice el => cases x with
          | slice b k c => cases b with
            | none => cases h1; exact SR.p rfl
            | some b => obtain ⟨a', c', _, _, _, rfl⟩ := h1; exact SR.p rfl
          | _ => exact SR.stuck _ _
        | map k el => cases x with
          | map m => cases m with
            | none => cases h1; exact SR.p rfl
            | some m =>
              obtain ⟨m', hm, rfl⟩ := h1
              refine ⟨hm, fun o o' ho => ?_⟩
              cases o with
              | map es c =>
                obtain ⟨es⟩ := es
                obtain ⟨es', he, rfl⟩ := ho
                have : es'.length = es.length := by
                  revert he
                  clear h
                  induction es generalizing es' with
                  | nil => intro he; cases he; rfl
                  | cons x s ih => rintro ⟨_, v, s', _, h3, rfl⟩; simp [ih s' h3]
                show VR r1 (goInt (es.length : Nat)) (goInt (es'.length : Nat))
                rw [this]
                exact rfl
              | _ => exact SR.stuck _ _
          | _ => exact SR.stuck _ _
        | chan _ _ => cases x with
          | chan m => cases m with
            | none => cases h1; exact SR.p rfl
            | some m => exact h1.elim
          | _ => exact SR.stuck _ _
        | _ => exact SR.stuck _ _
theorem SR.copy {r : Env} (ts : Array TypeId) (t : TypeId) {a a' : Array Value} (h : AVs r a a') : SR P VR (Builtin.copy_ ts t a) (Builtin.copy_ ts t a') r := by
  unfold Builtin.copy_
  have h0 := VRs.at h 0
  have h1 := VRs.at h 1
  revert h0 h1
  generalize a[0]? = x
  generalize a'[0]? = x'
  generalize a[1]? = y
  generalize a'[1]? = y'
  intro h0 h1
  cases ts[0]? with
  | none => exact SR.stuck _ _
  | some ty =>
    cases x with
    | none => exact SR.stuck _ _
    | some x => cases x' with
      | none => exact h0.elim
      | some x' => cases y with
        | none => exact SR.stuck _ _
        | some y => cases y' with
          | none => exact h1.elim
          | some y' =>
            dsimp only
            refine SR.b (SR.underlying ty) fun r1 d d' l1 e => ?_
            cases e
            have k0 : VR r1 x x' := VR.mono l1 _ _ h0
            have k1 : VR r1 y y' := VR.mono l1 _ _ h1
            cases d with
            | slice el =>
              cases x with
              | slice b dl c =>
                have tail : ∀ (b b' : Option Addr) (n : Nat) (r2 : Env) (cs cs' : Array Value), (OA r2 b b' ∨ (cs.size = 0 ∧ b.isSome ∧ b'.isSome)) → AVs r2 cs cs' → SR P VR
                    (match (generalizing := false) b with | some a => (do Go.storeCells a cs.toList; pure (goInt n)) | _ => (do pure (goInt n)))
                    (match (generalizing := false) b' with | some a => (do Go.storeCells a cs'.toList; pure (goInt n)) | _ => (do pure (goInt n))) r2 := by
                  intro b b' n r2 cs cs' hb hcs
                  cases b with
                  | none => cases b' with
                    | none => exact SR.p rfl
                    | some _ => rcases hb with hb | hb
                                · exact hb.elim
                                · cases hb.2.1
                  | some a => cases b' with
                    | none => rcases hb with hb | hb
                              · exact hb.elim
                              · cases hb.2.2
                    | some a' =>
                      rcases hb with hb | hb
                      · exact SR.b (SR.storeCells _ _ 0 r2 hb hcs) fun _ _ _ _ _ => SR.p rfl
                      · have e1 : cs.toList = [] := by have := hb.1; simpa using this
                        have e2 : cs'.toList = [] := by have := hcs.size; have h := hb.1; rw [h] at this; simpa using this
                        rw [e1, e2]
                        exact SR.p rfl
                have fin : ∀ (b b' : Option Addr), (OA r1 b b' ∨ (dl = 0 ∧ b.isSome ∧ b'.isSome)) → SR P VR
                    (do let n := Nat.min (← Builtin.lenOf y) dl
                        let cells ← Builtin.firstCells (← Go.sizeOf el) n y
                        match b with | some a => (do Go.storeCells a cells.toList; pure (goInt n)) | _ => (do pure (goInt n)))
                    (do let n := Nat.min (← Builtin.lenOf y') dl
                        let cells ← Builtin.firstCells (← Go.sizeOf el) n y'
                        match b' with | some a => (do Go.storeCells a cells.toList; pure (goInt n)) | _ => (do pure (goInt n))) r1 := by
                  intro b b' hb
                  refine SR.b (SR.lenOfQ k1) fun r2 n n' l2 e => ?_
                  obtain ⟨rfl, hl⟩ := e
                  refine SR.b (SR.sizeOf el) fun r3 z z' l3 e => ?_
                  cases e
                  refine SR.b (SR.firstCellsQ z (Nat.min n dl) (VR.mono (l2.trans l3) _ _ k1) ?_) fun r4 cs cs' l4 e => ?_
                  · cases y with
                    | slice q k c => simp only [lenOK, decide_eq_true_eq] at hl ⊢; exact Nat.le_trans (Nat.min_le_left _ _) hl
                    | _ => rfl
                  · refine tail b b' _ r4 cs cs' ?_ e.1
                    rcases hb with hb | hb
                    · exact .inl (hb.mono (l2.trans (l3.trans l4)))
                    · exact .inr ⟨e.2 (by rw [hb.1]; exact Nat.min_zero n), hb.2⟩
                cases b with
                | none => cases k0; exact fin none none (.inl trivial)
                | some b0 =>
                  obtain ⟨a', c2, h1, h2, h5, rfl⟩ := k0
                  refine fin (some b0) (some a') ?_
                  rcases h5 with h5 | h5
                  · exact .inr ⟨h5.1, rfl, rfl⟩
                  · exact .inl h5
              | _ => exact SR.stuck _ _
            | _ => exact SR.stuck _ _
theorem AVs.append {r : Env} {a a' b b' : Array Value} (h : AVs r a a') (k : AVs r b b') : AVs r (a ++ b) (a' ++ b') := by
  unfold AVs at *
  simp only [Array.toList_append]
  exact VRs.append h k
theorem AVs.map {r : Env} {ev ev' : Operand → Value} (xs : Array Operand) (h : ∀ x ∈ xs.toList, VR r (ev x) (ev' x)) : AVs r (xs.map ev) (xs.map ev') := by
  unfold AVs
  simp only [Array.toList_map]
  generalize xs.toList = l at h
  induction l with
  | nil => rfl
  | cons x s ih => exact ⟨ev' x, s.map ev', h x (by simp), ih fun y hy => h y (by simp [hy]), rfl⟩
/-- A function that has a body is entered. -/
theorem SR.callFunc {r : Env} (f : FuncId) {a a' : Array Value} (h : AVs r a a') (hb : ∃ fn c, P.funcs[f]? = some fn ∧ fn.body = some c ∧ (fn.name == "runtime.NumGoroutine") = false) : SR P NR (callFunc f a) (callFunc f a') r := by
  obtain ⟨fn, c, h1, h2, h3⟩ := hb
  unfold Go.callFunc
  refine SR.b (Q := fun _ p q => p = P ∧ q = P) ⟨rfl, rfl⟩ fun r1 p q l1 e => ?_
  obtain ⟨rfl, rfl⟩ := e
  rw [h1]
  dsimp only
  rw [h3, h2]
  exact SR.p ⟨a', h.mono l1, rfl⟩
end
end Go.Proofs.YtmjblbgalkjmiaaGreat.EX
/- More operations alike: held against nil. -/
namespace Go.Proofs.YtmjblbgalkjmiaaGreat.EX
open Go
section
variable {P : Program}
def nilish : Value → Bool
  | .pointer none | .slice none _ _ | .map none | .nilFunc | .nilIface => true
  | _ => false
/-- What is not nil. -/
def refish : Value → Bool
  | .pointer (some _) | .slice (some _) _ _ | .map (some _) | .func .. | .iface .. => true
  | _ => false
theorem nilish_cases {y : Value} (h : nilish y = true) : y = .pointer none ∨ (∃ n c, y = .slice none n c) ∨ y = .map none ∨ y = .nilFunc ∨ y = .nilIface := by
  cases y with
  | pointer a => cases a with
    | none => exact .inl rfl
    | some a => cases h
  | slice a n c => cases a with
    | none => exact .inr (.inl ⟨n, c, rfl⟩)
    | some a => cases h
  | map a => cases a with
    | none => exact .inr (.inr (.inl rfl))
    | some a => cases h
  | nilFunc => exact .inr (.inr (.inr (.inl rfl)))
  | nilIface => exact .inr (.inr (.inr (.inr rfl)))
  | _ => cases h
theorem nilish_alike {r : Env} {v v' : Value} (hv : nilish v = true) (k : VR r v v') : v' = v := by
  rcases nilish_cases hv with rfl | ⟨n, c, rfl⟩ | rfl | rfl | rfl <;> exact k
theorem SR.equalNil1 {r : Env} (d : Nat) (t : TypeId) {x x' y : Value} (hx : VR r x x') (hy : nilish y = true) (hn : refish x = true) : SR P Eqq (Op.equalIn (d + 1) t x y) (Op.equalIn (d + 1) t x' y) r := by
  unfold Op.equalIn
  refine SR.b (SR.underlying t) fun r1 u u' l e => ?_
  cases e
  clear l
  cases x with
  | pointer a =>
    cases a with
    | none => cases hn
    | some a =>
      obtain ⟨c, _, rfl⟩ := hx
      rcases nilish_cases hy with rfl | ⟨_, _, rfl⟩ | rfl | rfl | rfl <;> (cases u <;> first | exact SR.p rfl | exact SR.stuck _ _ | exact SR.unsup _ _)
  | slice a n c =>
    cases a with
    | none => cases hn
    | some a =>
      obtain ⟨_, _, _, _, _, rfl⟩ := hx
      rcases nilish_cases hy with rfl | ⟨_, _, rfl⟩ | rfl | rfl | rfl <;> (cases u <;> first | exact SR.p rfl | exact SR.stuck _ _ | exact SR.unsup _ _)
  | map a =>
    cases a with
    | none => cases hn
    | some a =>
      obtain ⟨_, _, rfl⟩ := hx
      rcases nilish_cases hy with rfl | ⟨_, _, rfl⟩ | rfl | rfl | rfl <;> (cases u <;> first | exact SR.p rfl | exact SR.stuck _ _ | exact SR.unsup _ _)
  | iface t' v =>
    obtain ⟨_, _, rfl⟩ := hx
    rcases nilish_cases hy with rfl | ⟨_, _, rfl⟩ | rfl | rfl | rfl <;> (cases u <;> first | exact SR.p rfl | exact SR.stuck _ _ | exact SR.unsup _ _)
  | func fn f c =>
    obtain ⟨f⟩ := f
    obtain ⟨c⟩ := c
    simp only [VRe] at hx
    obtain ⟨_, _, _, _, rfl⟩ := hx
    rcases nilish_cases hy with rfl | ⟨_, _, rfl⟩ | rfl | rfl | rfl <;> (cases u <;> first | exact SR.p rfl | exact SR.stuck _ _ | exact SR.unsup _ _)
  | _ => cases hn
theorem SR.equalNil2 {r : Env} (d : Nat) (t : TypeId) {x x' y : Value} (hx : VR r x x') (hy : nilish y = true) (hn : refish x = true) : SR P Eqq (Op.equalIn (d + 1) t y x) (Op.equalIn (d + 1) t y x') r := by
  unfold Op.equalIn
  refine SR.b (SR.underlying t) fun r1 u u' l e => ?_
  cases e
  clear l
  cases x with
  | pointer a =>
    cases a with
    | none => cases hn
    | some a =>
      obtain ⟨c, _, rfl⟩ := hx
      rcases nilish_cases hy with rfl | ⟨_, _, rfl⟩ | rfl | rfl | rfl <;> (cases u <;> first | exact SR.p rfl | exact SR.stuck _ _ | exact SR.unsup _ _)
  | slice a n c =>
    cases a with
    | none => cases hn
    | some a =>
      obtain ⟨_, _, _, _, _, rfl⟩ := hx
      rcases nilish_cases hy with rfl | ⟨_, _, rfl⟩ | rfl | rfl | rfl <;> (cases u <;> first | exact SR.p rfl | exact SR.stuck _ _ | exact SR.unsup _ _)
  | map a =>
    cases a with
    | none => cases hn
    | some a =>
      obtain ⟨_, _, rfl⟩ := hx
      rcases nilish_cases hy with rfl | ⟨_, _, rfl⟩ | rfl | rfl | rfl <;> (cases u <;> first | exact SR.p rfl | exact SR.stuck _ _ | exact SR.unsup _ _)
  | iface t' v =>
    obtain ⟨_, _, rfl⟩ := hx
    rcases nilish_cases hy with rfl | ⟨_, _, rfl⟩ | rfl | rfl | rfl <;> (cases u <;> first | exact SR.p rfl | exact SR.stuck _ _ | exact SR.unsup _ _)
  | func fn f c =>
    obtain ⟨f⟩ := f
    obtain ⟨c⟩ := c
    simp only [VRe] at hx
    obtain ⟨_, _, _, _, rfl⟩ := hx
    rcases nilish_cases hy with rfl | ⟨_, _, rfl⟩ | rfl | rfl | rfl <;> (cases u <;> first | exact SR.p rfl | exact SR.stuck _ _ | exact SR.unsup _ _)
  | _ => cases hn
/-- One is nil, and the other isn't. -/
def nilPair (x y : Value) : Bool := (refish x && nilish y) || (nilish x && refish y)
theorem SR.equalNil {r : Env} (t : TypeId) {x x' y y' : Value} (hx : VR r x x') (hy : VR r y y') (h : nilPair x y = true) : SR P Eqq (Op.equal t x y) (Op.equal t x' y') r := by
  unfold nilPair at h
  simp only [Bool.or_eq_true, Bool.and_eq_true] at h
  rcases h with ⟨h1, h2⟩ | ⟨h1, h2⟩
  · have := nilish_alike h2 hy
    subst this
    exact SR.equalNil1 9999 t hx h2 h1
  · have := nilish_alike h1 hx
    subst this
    exact SR.equalNil2 9999 t hy h1 h2
theorem refish_alike {r : Env} {v v' : Value} (hv : refish v = true) (k : VR r v v') : refish v' = true := by
  cases v with
  | pointer a => cases a with
    | none => cases hv
    | some a => obtain ⟨_, _, rfl⟩ := k; rfl
  | slice a n c => cases a with
    | none => cases hv
    | some a => obtain ⟨_, _, _, _, _, rfl⟩ := k; rfl
  | map a => cases a with
    | none => cases hv
    | some a => obtain ⟨_, _, rfl⟩ := k; rfl
  | iface t v => obtain ⟨_, _, rfl⟩ := k; rfl
  | func fn f c =>
    obtain ⟨f⟩ := f
    obtain ⟨c⟩ := c
    simp only [VRe] at k
    obtain ⟨_, _, _, _, rfl⟩ := k
    rfl
  | _ => cases hv
theorem guard_nil {op : BinOp} {t : TypeId} {x y : Operand} {a b : Value} (h : nilPair a b = true) : eqGuard op t x y a b = pure () := by
  unfold nilPair at h
  simp only [Bool.or_eq_true, Bool.and_eq_true] at h
  have e : ∀ a b : Value, (refish a = true ∧ nilish b = true) ∨ (nilish a = true ∧ refish b = true) → eqGuard op t x y a b = pure () := by
    intro a b h
    unfold eqGuard
    rcases h with ⟨h1, h2⟩ | ⟨h1, h2⟩
    · rcases nilish_cases h2 with rfl | ⟨_, _, rfl⟩ | rfl | rfl | rfl <;> cases a <;> first | (cases h1; done) | (cases op <;> rfl)
    · rcases nilish_cases h1 with rfl | ⟨_, _, rfl⟩ | rfl | rfl | rfl <;> cases b <;> first | (cases h2; done) | (cases op <;> rfl)
  exact e a b h
theorem bin_eql {t : TypeId} {a b : Value} (h : nilPair a b = true) : Go.binOp .eql t a b = (do pure (.bool (← Op.equal t a b))) ∧ Go.binOp .neq t a b = (do pure (.bool (!(← Op.equal t a b)))) := by
  unfold nilPair at h
  simp only [Bool.or_eq_true, Bool.and_eq_true] at h
  rcases h with ⟨h1, h2⟩ | ⟨h1, h2⟩
  · rcases nilish_cases h2 with rfl | ⟨_, _, rfl⟩ | rfl | rfl | rfl <;> cases a <;> first | (cases h1; done) | exact ⟨rfl, rfl⟩
  · rcases nilish_cases h1 with rfl | ⟨_, _, rfl⟩ | rfl | rfl | rfl <;> cases b <;> first | (cases h2; done) | exact ⟨rfl, rfl⟩
end
end Go.Proofs.YtmjblbgalkjmiaaGreat.EX
/- More operations alike: type assertions, capacities, bytes to text. -/
namespace Go.Proofs.YtmjblbgalkjmiaaGreat.EX
open Go
section
variable {P : Program}
theorem VRs.pair {r : Env} {a a' b b' : Value} (h : VR r a a') (k : VR r b b') : VR r (.tuple #[a, b]) (.tuple #[a', b']) := by
  simp only [VRe]
  exact ⟨[a', b'], ⟨a', [b'], h, ⟨b', [], k, rfl, rfl⟩, rfl⟩, rfl⟩
theorem VR.bl (r : Env) (b : Bool) : VR r (.bool b) (.bool b) := rfl
theorem SR.assertFails {r : Env} (hz : Zc P) (t : TypeId) : SR P VR (do pure (.tuple #[← Go.zeroValue t, .bool false])) (do pure (.tuple #[← Go.zeroValue t, .bool false])) r :=
  SR.b (SR.zeroValue hz t) fun r1 a b l h => by
    obtain ⟨rfl, h⟩ := h
    exact SR.p (VRs.pair h (VR.bl r1 false))
theorem SR.typeAssert {r : Env} (hz : Zc P) (xt t : TypeId) {x x' : Value} (hx : VR r x x') : SR P VR (Instr.typeAssert x xt t true) (Instr.typeAssert x' xt t true) r := by
  unfold Instr.typeAssert
  simp only [if_true]
  refine SR.b (SR.underlying t) fun r1 u u' l e => ?_
  cases e
  have hx := hx.mono l
  cases x with
  | nilIface =>
    have : x' = .nilIface := hx
    subst this
    cases u <;> exact SR.assertFails hz t
  | iface d v =>
    have hx0 := hx
    obtain ⟨v', hv, rfl⟩ := hx
    cases u with
    | interface want =>
      refine SR.b (SR.typeInfo d) fun r2 i i' l2 e => ?_
      cases e
      cases Instr.missingMethod want i.methods with
      | none => exact SR.p (VRs.pair (hx0.mono l2) (VR.bl r2 true))
      | some m => exact SR.assertFails hz t
    | _ =>
      show SR P VR (if d = t then _ else _) (if d = t then _ else _) r1
      by_cases e : d = t
      · rw [if_pos e, if_pos e]
        exact SR.p (VRs.pair hv (VR.bl r1 true))
      · rw [if_neg e, if_neg e]
        exact SR.assertFails hz t
  | _ => cases u <;> exact SR.stuck _ _
/-- A capacity that is just that. -/
def capKnown : Option Value → Bool
  | some (.slice none _ _) => true
  | some (.slice (some a) _ _) => Nat.beq (a.block % 2) 0
  | _ => false
theorem SR.cap {r : Env} (ts : Array TypeId) (t : TypeId) {a a' : Array Value} (h : AVs r a a') (hk : capKnown a[0]? = true) : SR P VR (Builtin.cap_ ts t a) (Builtin.cap_ ts t a') r := by
  unfold Builtin.cap_
  have h0 := VRs.at h 0
  cases e : a[0]? with
  | none => rw [e] at hk; cases hk
  | some x =>
    rw [e] at hk h0
    cases e' : a'[0]? with
    | none => rw [e'] at h0; exact h0.elim
    | some x' =>
      rw [e'] at h0
      have hx : VR r x x' := h0
      cases ts[0]? with
      | none => exact SR.stuck _ _
      | some ty =>
        dsimp only
        refine SR.b (SR.underlying ty) fun r1 u u' l e => ?_
        cases e
        have hx := hx.mono l
        cases x with
        | slice p n c =>
          have key : ∃ p' , x' = .slice p' n c := by
            cases p with
            | none => exact ⟨none, hx⟩
            | some p =>
              obtain ⟨a2, c', h1, h2, h5, rfl⟩ := hx
              have : p.block % 2 = 0 := Nat.eq_of_beq_eq_true hk
              rw [h2.1 this]
              exact ⟨_, rfl⟩
          obtain ⟨p', rfl⟩ := key
          cases u with
          | array n e => exact SR.p rfl
          | pointer e =>
            refine SR.b (SR.underlying e) fun r2 v v' l2 e => ?_
            cases e
            cases v <;> first | exact SR.stuck _ _ | exact SR.p rfl
          | slice e => exact SR.p rfl
          | _ => exact SR.stuck _ _
        | _ => cases hk
theorem bytes_alike {r : Env} : ∀ (l l' : List Value), VRs r l l' → ∀ (s : ByteArray), SR P Eqq (forIn l s fun c s => match c with | .int .u8 n => pure (ForInStep.yield (s.push (UInt8.ofNat n.toNat))) | _ => stuck "bytesToString: byte expected") (forIn l' s fun c s => match c with | .int .u8 n => pure (ForInStep.yield (s.push (UInt8.ofNat n.toNat))) | _ => stuck "bytesToString: byte expected") r
  | [], l', h, s => by cases h; exact SR.p rfl
  | x :: l, l', h, s => by
    obtain ⟨x', l'', hx, hl, rfl⟩ := h
    rw [List.forIn_cons, List.forIn_cons]
    refine SR.b (Q := Eqq) ?_ fun r1 y y' lr e => ?_
    · cases x with
      | int k n => cases hx; cases k <;> first | exact SR.p rfl | exact SR.stuck _ _
      | _ => exact SR.stuck _ _
    · cases e
      cases y with
      | done s => exact SR.p rfl
      | yield s => exact bytes_alike l l'' (VRs.mono lr _ _ hl) s
theorem SR.known {α : Type} {Q : Env → α → α → Prop} {r : Env} {t : TypeId} {d : TypeDesc} (h : P.underlying t = some d) {f f' : TypeDesc → Sem α} (k : SR P Q (f d) (f' d) r) : SR P Q (Go.underlying t >>= f) (Go.underlying t >>= f') r := by
  have e : ∀ g : TypeDesc → Sem α, (Go.underlying t >>= g) = .program fun p => (match p.underlying t with | some d => (pure d : Sem TypeDesc) | none => Go.stuck "no such type").bind g := fun g => rfl
  rw [e f, e f']
  show SR P Q ((match P.underlying t with | some d => (pure d : Sem TypeDesc) | none => Go.stuck "no such type").bind f) ((match P.underlying t with | some d => (pure d : Sem TypeDesc) | none => Go.stuck "no such type").bind f') r
  rw [h]
  exact k
theorem SR.bytesToString {r : Env} {x x' : Value} (hx : VR r x x')   : SR P VR (Conv.bytesToString x) (Conv.bytesToString x') r := by
  unfold Conv.bytesToString
  cases x with
  | slice p n c =>
    cases p with
    | none => cases hx; exact SR.p rfl
    | some p =>
      have hx0 := hx
      obtain ⟨a2, c', h1, h2, h5, rfl⟩ := hx
      dsimp only
      refine SR.b (Q := AVs) ?_ fun r1 a a' l ha => ?_
      · rcases h5 with h5 | h5
        · rw [h5.1]; exact SR.p rfl
        · exact SR.loadCells _ h5
      · rw [← Array.forIn_toList, ← Array.forIn_toList]
        refine SR.b (bytes_alike _ _ ha _) fun r2 s s' l2 e => ?_
        cases e
        exact SR.p rfl
  | _ => exact SR.stuck _ _
end
end Go.Proofs.YtmjblbgalkjmiaaGreat.EX
/- More operations alike: appends in place, calls through interfaces. -/
namespace Go.Proofs.YtmjblbgalkjmiaaGreat.EX
open Go
section
variable {P : Program}
theorem SR.knownI {α : Type} {Q : Env → α → α → Prop} {r : Env} {t : TypeId} {d : TypeInfo} (h : P.info? t = some d) {f f' : TypeInfo → Sem α} (k : SR P Q (f d) (f' d) r) : SR P Q (Go.typeInfo t >>= f) (Go.typeInfo t >>= f') r := by
  have e : ∀ g : TypeInfo → Sem α, (Go.typeInfo t >>= g) = .program fun p => (match p.info? t with | some d => (pure d : Sem TypeInfo) | none => Go.stuck "no such type").bind g := fun g => rfl
  rw [e f, e f']
  show SR P Q ((match P.info? t with | some d => (pure d : Sem TypeInfo) | none => Go.stuck "no such type").bind f) ((match P.info? t with | some d => (pure d : Sem TypeInfo) | none => Go.stuck "no such type").bind f') r
  rw [h]
  exact k
/-- How long what is appended is. -/
def lenV : Value → Option Nat
  | .slice _ n _ => some n
  | .string s => some s.size
  | _ => none
def notInt : Option TypeDesc → Bool
  | some (.int _) => false
  | some _ => true
  | none => false
/-- An append that is done in place. -/
def appB (P : Program) (ts : Array TypeId) (args : Array Value) : Bool :=
  match ts[1]?, args[0]?, args[1]? with
  | some xt, some s, some x => match s with
    | .slice _ n c => notInt (P.underlying xt) && (match lenV x with | some m => decide (n + m ≤ c) | none => false)
    | _ => false
  | _, _, _ => false
theorem SR.append {r : Env} (ts : Array TypeId) (t : TypeId) {a a' : Array Value} (h : AVs r a a') (hk : appB P ts a = true) : SR P VR (Builtin.append_ ts t a) (Builtin.append_ ts t a') r := by
  have h0 := VRs.at h 0
  have h1 := VRs.at h 1
  unfold appB at hk
  cases e1 : ts[1]? with
  | none => rw [e1] at hk; cases hk
  | some xt =>
    rw [e1] at hk
    cases e2 : a[0]? with
    | none => rw [e2] at hk; cases hk
    | some s =>
      rw [e2] at hk h0
      cases e3 : a[1]? with
      | none => rw [e3] at hk; cases hk
      | some x =>
        rw [e3] at hk h1
        cases e2' : a'[0]? with
        | none => rw [e2'] at h0; exact h0.elim
        | some s' =>
          rw [e2'] at h0
          have hs : VR r s s' := h0
          cases e3' : a'[1]? with
          | none => rw [e3'] at h1; exact h1.elim
          | some x' =>
            rw [e3'] at h1
            have hx : VR r x x' := h1
            unfold Builtin.append_
            rw [e1, e2, e3, e2', e3']
            cases e4 : ts[0]? with
            | none => exact SR.stuck _ _
            | some st =>
              dsimp only
              cases s with
              | slice base n c =>
                have hk' : notInt (P.underlying xt) = true ∧ ∃ m, lenV x = some m ∧ n + m ≤ c := by
                  dsimp only at hk
                  simp only [Bool.and_eq_true] at hk
                  refine ⟨hk.1, ?_⟩
                  have := hk.2
                  split at this
                  · rename_i m hm; exact ⟨m, hm, by simpa using this⟩
                  · cases this
                obtain ⟨hni, m, hm, hle⟩ := hk'
                cases hu : P.underlying xt with
                | none => rw [hu] at hni; cases hni
                | some xd =>
                  rw [hu] at hni
                  have hs2 : ∃ base' c', s' = .slice base' n c' := by
                    cases base with
                    | none => exact ⟨_, _, hs⟩
                    | some q => obtain ⟨a2, c', _, _, _, rfl⟩ := hs; exact ⟨_, _, rfl⟩
                  obtain ⟨base', c', rfl⟩ := hs2
                  refine SR.b (SR.underlying st) fun r1 u u' l e => ?_
                  cases e
                  have hs := hs.mono l
                  have hx := hx.mono l
                  cases u <;> first | exact SR.stuck _ _ | skip
                  rename_i elem
                  dsimp only
                  refine SR.b (SR.sizeOf elem) fun r2 sz sz' l2 e => ?_
                  cases e
                  have hs := hs.mono l2
                  have hx := hx.mono l2
                  refine SR.known hu ?_
                  have hni' : ∀ k, xd ≠ .int k := fun k e => by subst e; cases hni
                  clear hni hu
                  split
                  · rename_i k; exact absurd rfl (hni' k)
                  · simp only [pure_bind, Bool.false_eq_true, if_false, Bool.not_false, if_true]
                    have hlen : ∀ (f f' : Nat → Sem Value), SR P VR (f m) (f' m) r2 → SR P VR (Builtin.lenOf x >>= f) (Builtin.lenOf x' >>= f') r2 := by
                      intro f f' hf
                      cases x with
                      | slice q k c =>
                        cases hm
                        have : ∃ q' c', x' = .slice q' m c' := by
                          cases q with
                          | none => exact ⟨_, _, hx⟩
                          | some q => obtain ⟨a2, c', _, _, _, rfl⟩ := hx; exact ⟨_, _, rfl⟩
                        obtain ⟨q', c', rfl⟩ := this
                        exact hf
                      | string b =>
                        cases hm
                        cases hx
                        exact hf
                      | _ => cases hm
                    have hlk : lenOK m x = true := by
                      cases x with
                      | slice q k c => cases hm; simp [lenOK]
                      | _ => rfl
                    cases base with
                    | none =>
                      have : Value.slice base' n c' = .slice none n c := hs
                      cases this
                      dsimp only
                      refine hlen _ _ ?_
                      rw [if_pos hle, if_pos hle]
                      refine SR.b (SR.firstCellsQ sz m hx hlk) fun r3 v v' l3 hv => ?_
                      exact SR.p rfl
                    | some p =>
                      obtain ⟨a2, c2, g1, g3, g5, hq⟩ := hs
                      cases hq
                      dsimp only
                      refine hlen _ _ ?_
                      have hle' : n + m ≤ c' := Nat.le_trans hle g3.2.1
                      rw [if_pos hle, if_pos hle']
                      refine SR.b (SR.firstCellsQ sz m hx hlk) fun r3 v v' l3 hv => ?_
                      have hres : ∀ r4, Le r3 r4 → VR r4 (.slice (some p) (n + m) c) (.slice (some a2) (n + m) c') := fun r4 l4 => ⟨a2, c', l4 _ _ (l3 _ _ g1), g3.mono (l3.trans l4), g5.imp (fun e => by omega) fun q => q.mono (l3.trans l4), rfl⟩
                      rcases g5 with g5 | g5
                      · have hm0 : m = 0 := by omega
                        have h1 := hv.2 hm0
                        have h2 : v.toList = [] := by simpa using h1
                        have h3 : v'.toList = [] := by
                          have := VRs.length hv.1
                          rw [h2] at this
                          exact List.eq_nil_of_length_eq_zero this
                        rw [h2, h3]
                        exact SR.p (hres r3 (Le.refl r3))
                      · refine SR.b (SR.storeCells _ _ 0 r3 (AR.add (g5.mono l3) _) hv.1) fun r4 _ _ l4 _ => ?_
                        exact SR.p (hres r4 l4)
              | _ => cases hk
end
end Go.Proofs.YtmjblbgalkjmiaaGreat.EX
/- More operations alike: calls through interfaces. -/
namespace Go.Proofs.YtmjblbgalkjmiaaGreat.EX
open Go
section
variable {P : Program}
def bodiedF (P : Program) (f : FuncId) : Bool :=
  match P.funcs[f]? with
  | some fn => fn.body.isSome
  | none => false
def recvB (d : Option TypeDesc) (pr : Bool) : Bool :=
  match d with
  | some (.pointer _) => pr
  | some _ => !pr
  | none => false
def methB (P : Program) (t : TypeId) (name : String) : Option FuncId :=
  match P.info? t with
  | some i => match i.methods.find? (·.name == name) with
    | some m => match m.func with
      | some (f, pr) => if m.path.isEmpty && bodiedF P f && recvB (P.underlying t) pr then some f else none
      | none => none
    | none => none
  | none => none
def invB (P : Program) (v : Value) (name : String) : Bool :=
  match v with
  | .iface t _ => (methB P t name).isSome
  | _ => false
theorem SR.method {r : Env} {t : TypeId} {v v' : Value} (hv : VR r v v') {name : String} {f : FuncId} (h : methB P t name = some f) (k : Nat) : SR P (fun r a b => a.1 = f ∧ b.1 = f ∧ VR r a.2 b.2) (Go.method (k + 1) t v name) (Go.method (k + 1) t v' name) r := by
  unfold methB at h
  split at h
  · rename_i i hi
    split at h
    · rename_i m hm
      split at h
      · rename_i f' pr hf
        split at h
        · rename_i hc
          cases h
          simp only [Bool.and_eq_true] at hc
          obtain ⟨⟨h1, h2⟩, h3⟩ := hc
          unfold Go.method
          refine SR.knownI hi ?_
          rw [hm]
          have hp : m.path.toList = [] := by
            have : m.path = #[] := by simpa using h1
            rw [this]
          dsimp only
          rw [hp, hf]
          show SR P _ (do let y ← receiverAt t (.val v) pr _; pure (f, y)) (do let y ← receiverAt t (.val v') pr _; pure (f, y)) r
          refine SR.b (Q := VR) ?_ fun r1 a b l q => SR.p ⟨rfl, rfl, q⟩
          unfold receiverAt
          cases hu : P.underlying t with
          | none => rw [hu] at h3; cases h3
          | some d =>
            rw [hu] at h3
            refine SR.known hu ?_
            cases d with
            | pointer e =>
              have : pr = true := h3
              subst this
              exact SR.p hv
            | _ =>
              have : pr = false := by simpa [recvB] using h3
              subst this
              exact SR.p hv
        · cases h
      · cases h
    · cases h
  · cases h
theorem bodiedF_of (hn : NG P) {f : FuncId} (h : bodiedF P f = true) : ∃ fn c, P.funcs[f]? = some fn ∧ fn.body = some c ∧ (fn.name == "runtime.NumGoroutine") = false := by
  unfold bodiedF at h
  split at h
  · rename_i fn hf
    obtain ⟨c, hc⟩ := Option.isSome_iff_exists.1 h
    exact ⟨fn, c, hf, hc, hn f fn hf⟩
  · cases h
theorem methB_bodied {t : TypeId} {name : String} {f : FuncId} (h : methB P t name = some f) : bodiedF P f = true := by
  unfold methB at h
  split at h
  · split at h
    · split at h
      · split at h
        · rename_i hc
          cases h
          simp only [Bool.and_eq_true] at hc
          exact hc.1.2
        · cases h
      · cases h
    · cases h
  · cases h
theorem SR.invokeM (hn : NG P) {r : Env} {ev ev' : Operand → Value} (c : Call) (ty : TypeId) (x : Operand) (name : String) (hc : c.callee = .invoke x name) (hx : VR r (ev x) (ev' x)) (ha : ∀ a ∈ c.args.toList, VR r (ev a) (ev' a)) (hk : invB P (ev x) name = true) :
    SR P NR (do let d ← resolve ev c ty; invoke d.target d.args) (do let d ← resolve ev' c ty; invoke d.target d.args) r := by
  have hargs := AVs.map c.args ha
  unfold Go.resolve
  rw [hc]
  dsimp only
  revert hx hk
  generalize ev x = v
  generalize ev' x = v'
  intro hx hk
  cases v with
  | iface t u =>
    obtain ⟨u', hu, rfl⟩ := hx
    obtain ⟨f, hf⟩ := Option.isSome_iff_exists.1 (show (methB P t name).isSome = true from hk)
    have e1 : ∀ (w : Value) (as : Array Value), (do let d ← (pure { target := .fn (.method name) #[], args := #[w] ++ as } : Sem Deferred); invoke d.target d.args) = callMethod w name as := fun w as => by
      show invoke (.fn (.method name) #[]) (#[w] ++ as) = _
      unfold Go.invoke
      have h0 : (#[w] ++ as)[0]? = some w := by simp [Array.getElem?_append]
      have h1 : (#[w] ++ as).extract 1 (#[w] ++ as).size = as := by
        apply Array.ext_getElem?
        intro i
        simp
      dsimp only
      rw [h0, h1]
    have e2 := e1 (.iface t u) (c.args.map ev)
    have e3 := e1 (.iface t u') (c.args.map ev')
    have e4 : SR P NR (callMethod (.iface t u) name (c.args.map ev)) (callMethod (.iface t u') name (c.args.map ev')) r → SR P NR (do let d ← (pure { target := .fn (.method name) #[], args := #[.iface t u] ++ c.args.map ev } : Sem Deferred); invoke d.target d.args) (do let d ← (pure { target := .fn (.method name) #[], args := #[.iface t u'] ++ c.args.map ev' } : Sem Deferred); invoke d.target d.args) r := fun h => by rw [e2, e3]; exact h
    refine e4 ?_
    unfold callMethod
    have hd0 : 0 < Made.depth := by decide
    have hd : ∃ k, P.types.size + Made.depth = k + 1 := ⟨P.types.size + (Made.depth - 1), by omega⟩
    obtain ⟨k, hk2⟩ := hd
    show SR P NR ((Go.method (P.types.size + Made.depth) t u name).bind fun y => Go.callFunc y.1 (#[y.2] ++ c.args.map ev)) ((Go.method (P.types.size + Made.depth) t u' name).bind fun y => Go.callFunc y.1 (#[y.2] ++ c.args.map ev')) r
    rw [hk2]
    refine SR.bind _ _ r (SR.method hu hf k) fun r1 a b l q => ?_
    obtain ⟨q1, q2, q3⟩ := q
    rw [q1, q2]
    exact SR.callFunc f (AVs.append (show AVs r1 #[a.2] #[b.2] from ⟨b.2, [], q3, rfl, rfl⟩) (hargs.mono l)) (bodiedF_of hn (methB_bodied hf))
  | _ => cases hk
end
end Go.Proofs.YtmjblbgalkjmiaaGreat.EX
/- More operations alike: parts of arrays and bytes of texts. -/
namespace Go.Proofs.YtmjblbgalkjmiaaGreat.EX
open Go
section
variable {P : Program}
theorem SR.index {r : Env} (t : TypeId) {x x' i i' : Value} (hx : VR r x x') (hi : VR r i i') : SR P VR (Instr.index t x i) (Instr.index t x' i') r := by
  unfold Instr.index
  refine SR.b (SR.asIntOf hi) fun r1 a b l e => ?_
  cases e
  obtain ⟨k, n⟩ := a
  dsimp only
  refine SR.b (SR.underlying t) fun r2 d d' l2 e => ?_
  cases e
  have hx := hx.mono (l.trans l2)
  cases d with
  | array len el =>
    cases x with
    | agg cs =>
      obtain ⟨cs⟩ := cs
      simp only [VRe] at hx
      obtain ⟨cs', h, rfl⟩ := hx
      dsimp only
      split
      · refine SR.b (SR.sizeOf _) fun r3 z z' l3 e => ?_
        cases e
        exact SR.part _ _ (show AVs r3 ⟨cs⟩ ⟨cs'⟩ from VRs.mono l3 _ _ h)
      · exact SR.boundsPanic _ _ _ _
    | _ => exact SR.stuck _ _
  | string =>
    cases x with
    | string s =>
      cases hx
      dsimp only
      split
      · exact SR.p rfl
      · exact SR.boundsPanic _ _ _ _
    | _ => exact SR.stuck _ _
  | _ => exact SR.stuck _ _
end
end Go.Proofs.YtmjblbgalkjmiaaGreat.EX
/- More operations alike: ranges over maps. -/
namespace Go.Proofs.YtmjblbgalkjmiaaGreat.EX
open Go
section
variable {P : Program}
theorem ER.born {r : Env} : ∀ {l l' : List MapEntry}, ER r l l' → l'.map (·.born) = l.map (·.born)
  | [], l', h => by cases h; rfl
  | x :: s, l', h => by
    obtain ⟨_, v, s', _, h2, rfl⟩ := h
    simp [ER.born h2]
theorem ER.filter {r : Env} (p : Nat → Bool) : ∀ {l l' : List MapEntry}, ER r l l' → ER r (l.filter fun e => p e.born) (l'.filter fun e => p e.born)
  | [], l', h => by cases h; rfl
  | x :: s, l', h => by
    obtain ⟨g, v, s', h1, h2, rfl⟩ := h
    have ih := ER.filter p h2
    simp only [List.filter_cons]
    cases p x.born with
    | true => simp only [if_true]; exact ⟨g, v, _, h1, ih, rfl⟩
    | false => simpa using ih
theorem ER.append {r : Env} : ∀ {l l' m m' : List MapEntry}, ER r l l' → ER r m m' → ER r (l ++ m) (l' ++ m')
  | [], l', m, m', h, k => by cases h; exact k
  | x :: s, l', m, m', h, k => by
    obtain ⟨g, v, s', h1, h2, rfl⟩ := h
    exact ⟨g, v, s' ++ m', h1, ER.append h2 k, rfl⟩
theorem ER.length {r : Env} {l l' : List MapEntry} (h : ER r l l') : l'.length = l.length := by
  have := congrArg List.length (ER.born h)
  simpa using this
theorem ER.all {r : Env} (p : Nat → Bool) {l l' : List MapEntry} (h : ER r l l') : (l'.all fun e => p e.born) = l.all fun e => p e.born := by
  have := congrArg (fun q => List.all q p) (ER.born h)
  simpa [List.all_map, Function.comp_def] using this
theorem ER.at {r : Env} : ∀ {l l' : List MapEntry}, ER r l l' → ∀ (i : Nat), match l[i]?, l'[i]? with
    | some e, some e' => e'.key = e.key ∧ e'.born = e.born ∧ VR r e.key e.key ∧ VR r e.val e'.val
    | none, none => True
    | _, _ => False
  | [], l', h, i => by cases h; simp
  | x :: s, l', h, i => by
    obtain ⟨g, v, s', h1, h2, rfl⟩ := h
    cases i with
    | zero => simpa using ⟨(g r x.key).2 rfl, h1⟩
    | succ i => simpa using ER.at h2 i
theorem SR.range {r : Env} (t : TypeId) {x x' : Value} (hx : VR r x x') : SR P VR (Instr.range t x) (Instr.range t x') r := by
  unfold Instr.range
  have fin : ∀ (r1 : Env) (o o' : Obj), OR r1 o o' → SR P VR (do pure (.pointer (some ⟨← newObj o, 0, none⟩))) (do pure (.pointer (some ⟨← newObj o', 0, none⟩))) r1 := fun r1 o o' ho =>
    SR.b (Q := fun r b b' => AR r ⟨b, 0, none⟩ ⟨b', 0, none⟩) ⟨ho, fun r' b b' _ hb hs => AR.flat (a := ⟨b, 0, none⟩) hb hs⟩ fun r2 b b' l hb => SR.p hb.ptr
  refine SR.b (SR.underlying t) fun r1 d d' l e => ?_
  cases e
  have hx := hx.mono l
  cases d with
  | string =>
    cases x with
    | string s => cases hx; exact fin r1 _ _ rfl
    | _ => exact SR.stuck _ _
  | map k v =>
    cases x with
    | map m =>
      cases m with
      | none => cases hx; exact fin r1 _ _ rfl
      | some m =>
        obtain ⟨m', hm, rfl⟩ := hx
        dsimp only
        refine SR.b (Q := OR) ⟨hm, fun o o' ho => ho⟩ fun r2 o o' l2 ho => ?_
        cases o with
        | map es c =>
          obtain ⟨es⟩ := es
          simp only [OR] at ho
          obtain ⟨es', he, rfl⟩ := ho
          exact fin r2 _ _ ⟨m', l2 _ _ hm, rfl⟩
        | _ => exact SR.stuck _ _
    | _ => exact SR.stuck _ _
  | _ => exact SR.stuck _ _
end
end Go.Proofs.YtmjblbgalkjmiaaGreat.EX
/- More operations alike: the next one of a range, the entry at hand. -/
namespace Go.Proofs.YtmjblbgalkjmiaaGreat.EX
open Go
section
variable {P : Program}
theorem SR.setO {r : Env} {b b' : Nat} {o o' : Obj} (hb : r b b') (ho : OR r o o') : SR P (fun _ _ _ => True) (Go.setObj b o) (Go.setObj b' o') r := ⟨hb, ho, trivial⟩
/-- What may come next, alike. -/
def CandR (r : Env) : Option (Option MapEntry) → Option (Option MapEntry) → Prop
  | none, none => True
  | some none, some none => True
  | some (some e), some (some e') => e'.key = e.key ∧ e'.born = e.born ∧ VR r e.key e.key ∧ VR r e.val e'.val
  | _, _ => False
theorem cand_alike {r : Env} {a a' b b' : List MapEntry} (ha : ER r a a') (hb : ER r b b') :
    ((if a'.isEmpty = true then [none] else []) ++ (a' ++ b').map some).length = ((if a.isEmpty = true then [none] else []) ++ (a ++ b).map some).length ∧
    ∀ i : Nat, CandR r (((if a.isEmpty = true then [none] else []) ++ (a ++ b).map some)[i]?) (((if a'.isEmpty = true then [none] else []) ++ (a' ++ b').map some)[i]?) := by
  have e1 : a'.isEmpty = a.isEmpty := by
    cases a with
    | nil => cases ha; rfl
    | cons x s => obtain ⟨_, v, s', _, _, rfl⟩ := ha; rfl
  have hab := ER.append ha hb
  have hl := ER.length hab
  rw [e1]
  refine ⟨by rw [List.length_append, List.length_append, List.length_map, List.length_map, hl], fun i => ?_⟩
  have core : ∀ j : Nat, CandR r (((a ++ b).map some)[j]?) (((a' ++ b').map some)[j]?) := fun j => by
    have := ER.at hab j
    rw [List.getElem?_map, List.getElem?_map]
    cases h1 : (a ++ b)[j]? with
    | none =>
      cases h2 : (a' ++ b')[j]? with
      | none => trivial
      | some e' => rw [h1, h2] at this; exact this.elim
    | some e =>
      cases h2 : (a' ++ b')[j]? with
      | none => rw [h1, h2] at this; exact this.elim
      | some e' => rw [h1, h2] at this; exact this
  cases a.isEmpty with
  | true =>
    simp only [if_true, List.singleton_append]
    cases i with
    | zero => trivial
    | succ i => simpa using core i
  | false => simpa using core i
/-- What may come next. -/
def candA (seen : Array Nat) (since : Nat) (l : List MapEntry) : Array (Option MapEntry) :=
  (if (Array.filter (fun x => decide (x.born < since)) (Array.filter (fun e => !seen.contains e.born) ⟨l⟩)).isEmpty = true then #[none] else #[]) ++
    Array.map some (Array.filter (fun x => decide (x.born < since)) (Array.filter (fun e => !seen.contains e.born) ⟨l⟩) ++ Array.filter (fun x => decide (x.born ≥ since)) (Array.filter (fun e => !seen.contains e.born) ⟨l⟩))
theorem candA_list (seen : Array Nat) (since : Nat) (l : List MapEntry) : (candA seen since l).toList =
    (if ((l.filter fun e => !seen.contains e.born).filter fun x => decide (x.born < since)).isEmpty = true then [none] else []) ++ (((l.filter fun e => !seen.contains e.born).filter fun x => decide (x.born < since)) ++ ((l.filter fun e => !seen.contains e.born).filter fun x => decide (x.born ≥ since))).map some := by
  have e : (Array.filter (fun x => decide (x.born < since)) (Array.filter (fun e => !seen.contains e.born) (⟨l⟩ : Array MapEntry))).isEmpty = ((l.filter fun e => !seen.contains e.born).filter fun x => decide (x.born < since)).isEmpty := by
    rw [← Array.isEmpty_toList, Array.toList_filter, Array.toList_filter]
  unfold candA
  rw [e, Array.toList_append, Array.toList_map, Array.toList_append]
  simp only [Array.toList_filter]
  congr 1
  split <;> rfl
/-- A pointer to a block that isn't an append's. -/
def evenP : Value → Bool
  | .pointer (some a) => Nat.beq (a.block % 2) 0
  | _ => true
theorem SR.next {r : Env} (s : Bool) (t : TypeId) {x x' : Value} (hx : VR r x x') (hev : evenP x = true) : SR P VR (Instr.next x s t) (Instr.next x' s t) r := by
  unfold Instr.next
  cases x with
  | pointer a =>
    cases a with
    | none => cases hx; exact SR.stuck _ _
    | some a =>
      obtain ⟨a', hc, rfl⟩ := hx
      rw [hc.even (Nat.eq_of_beq_eq_true hev)]
      replace hc := hc.choose_spec.1
      generalize a'.block = c at hc
      obtain ⟨b, off, sp⟩ := a
      cases off with
      | succ n => exact SR.stuck _ _
      | zero =>
        dsimp only
        have over : ∀ r1 : Env, SR P VR (pure (.tuple #[.bool false])) (pure (.tuple #[.bool false])) r1 := fun r1 => SR.p ((VR.closed 3 (.tuple #[.bool false]) (.tuple #[.bool false]) rfl).2 rfl)
        refine SR.b (Q := OR) ⟨hc, fun o o' ho => ho⟩ fun r1 o o' l1 ho => ?_
        cases o with
        | stringIter str pos =>
          cases ho
          cases s with
          | true =>
            dsimp only
            split
            · refine SR.b (SR.setO (l1 _ _ hc) (by rfl)) fun r2 _ _ l2 _ => ?_
              exact SR.p ((VR.closed 3 _ _ rfl).2 rfl)
            · exact over r1
          | false => exact SR.stuck _ _
        | mapIter m since seen last =>
          cases s with
          | true => cases m <;> exact SR.stuck _ _
          | false =>
            cases m with
            | none => cases ho; exact over r1
            | some m =>
              obtain ⟨m', hm, rfl⟩ := ho
              dsimp only
              refine SR.b (Q := OR) ⟨hm, fun o o' ho => ho⟩ fun r2 o o' l2 ho => ?_
              cases o with
              | map es clock =>
                obtain ⟨l⟩ := es
                simp only [OR] at ho
                obtain ⟨l', he, rfl⟩ := ho
                dsimp only
                have e1 : (⟨l'⟩ : Array MapEntry).isEmpty = (⟨l⟩ : Array MapEntry).isEmpty := by
                  have := ER.length he
                  rw [Bool.eq_iff_iff, Array.isEmpty_iff_size_eq_zero, Array.isEmpty_iff_size_eq_zero]
                  show l'.length = 0 ↔ l.length = 0
                  rw [this]
                have e2 : (⟨l'⟩ : Array MapEntry).all (fun e => decide (e.born ≥ last)) = (⟨l⟩ : Array MapEntry).all (fun e => decide (e.born ≥ last)) := by
                  have := ER.all (fun b => decide (b ≥ last)) he
                  simpa using this
                rw [e1, e2]
                split
                · exact SR.unsup _ _
                · show SR P VR (do
                      let k ← choose (.mapNext (candA seen since l).size)
                      match (candA seen since l)[k]? with
                      | some (some e) => do
                        Go.setObj b (Obj.mapIter (some m) since (seen.push e.born) clock)
                        pure (Value.tuple #[Value.bool true, e.key, e.val])
                      | some none => pure (Value.tuple #[Value.bool false])
                      | none => Go.stuck "Next: no such candidate") (do
                      let k ← choose (.mapNext (candA seen since l').size)
                      match (candA seen since l')[k]? with
                      | some (some e) => do
                        Go.setObj c (Obj.mapIter (some m') since (seen.push e.born) clock)
                        pure (Value.tuple #[Value.bool true, e.key, e.val])
                      | some none => pure (Value.tuple #[Value.bool false])
                      | none => Go.stuck "Next: no such candidate") r2
                  have hf := ER.filter (fun b => !seen.contains b) he
                  obtain ⟨h1, h2⟩ := cand_alike (ER.filter (fun b => decide (b < since)) hf) (ER.filter (fun b => decide (b ≥ since)) hf)
                  rw [← candA_list, ← candA_list] at h1
                  have h2' : ∀ i : Nat, CandR r2 (candA seen since l)[i]? (candA seen since l')[i]? := fun i => by
                    have := h2 i
                    rw [← candA_list, ← candA_list] at this
                    simpa using this
                  have hsz : (candA seen since l').size = (candA seen since l).size := by simpa using h1
                  refine SR.b (Q := fun _ a b => a = 0 ∧ b = 0) ⟨by rw [hsz], fun _ => ⟨rfl, rfl⟩⟩ fun r3 k k' l3 e => ?_
                  obtain ⟨rfl, rfl⟩ := e
                  have h0 := h2' 0
                  cases q1 : (candA seen since l)[0]? with
                  | none => exact SR.stuck _ _
                  | some y =>
                    cases q2 : (candA seen since l')[0]? with
                    | none => rw [q1, q2] at h0; cases y <;> exact h0.elim
                    | some y' =>
                      rw [q1, q2] at h0
                      cases y with
                      | none => cases y' with
                        | none => exact over r3
                        | some _ => exact h0.elim
                      | some e => cases y' with
                        | none => exact h0.elim
                        | some e' =>
                          obtain ⟨g1, g2, g3, g4⟩ := h0
                          dsimp only
                          rw [g1, g2]
                          refine SR.b (SR.setO (l3 _ _ (l2 _ _ (l1 _ _ hc))) ⟨m', l3 _ _ (l2 _ _ hm), rfl⟩) fun r4 _ _ l4 _ => ?_
                          refine SR.p ?_
                          simp only [VRe]
                          exact ⟨_, ⟨_, _, VR.bl r4 true, ⟨_, _, g3.mono (l3.trans l4), ⟨_, _, g4.mono (l3.trans l4), rfl, rfl⟩, rfl⟩, rfl⟩, rfl⟩
              | _ => exact SR.stuck _ _
        | _ => cases s <;> exact SR.stuck _ _
  | _ => exact SR.stuck _ _
theorem ER.find {r : Env} (st : Nat) : ∀ {l l' : List MapEntry}, ER r l l' → match l.find? (fun e => e.born == st), l'.find? (fun e => e.born == st) with
    | some e, some e' => e'.key = e.key ∧ VR r e.key e.key ∧ VR r e.val e'.val
    | none, none => True
    | _, _ => False
  | [], l', h => by cases h; simp
  | x :: s, l', h => by
    obtain ⟨g, v, s', h1, h2, rfl⟩ := h
    simp only [List.find?_cons]
    cases x.born == st with
    | true => exact ⟨rfl, (g r x.key).2 rfl, h1⟩
    | false => exact ER.find st h2
theorem SR.entry {r : Env} {x x' : Value} (hx : VR r x x') (hev : evenP x = true) : SR P VR (Instr.entry x) (Instr.entry x') r := by
  unfold Instr.entry
  cases x with
  | pointer a =>
    cases a with
    | none => cases hx; exact SR.stuck _ _
    | some a =>
      obtain ⟨a', hc, rfl⟩ := hx
      rw [hc.even (Nat.eq_of_beq_eq_true hev)]
      replace hc := hc.choose_spec.1
      generalize a'.block = c at hc
      obtain ⟨b, off, sp⟩ := a
      cases off with
      | succ n => exact SR.stuck _ _
      | zero =>
        dsimp only
        refine SR.b (Q := OR) ⟨hc, fun o o' ho => ho⟩ fun r1 o o' l1 ho => ?_
        cases o with
        | mapIter m since seen last =>
          cases m with
          | none => cases ho; exact SR.stuck _ _
          | some m =>
            obtain ⟨m', hm, rfl⟩ := ho
            dsimp only
            cases seen.back? with
            | none => exact SR.stuck _ _
            | some st =>
              dsimp only
              refine SR.b (Q := OR) ⟨hm, fun o o' ho => ho⟩ fun r2 o o' l2 ho => ?_
              cases o with
              | map es clock =>
                obtain ⟨l⟩ := es
                simp only [OR] at ho
                obtain ⟨l', he, rfl⟩ := ho
                dsimp only
                split
                · exact SR.unsup _ _
                · have hf := ER.find st he
                  rw [← Array.find?_toList, ← Array.find?_toList]
                  dsimp only
                  cases q1 : l.find? (fun e => e.born == st) with
                  | none => exact SR.unsup _ _
                  | some e =>
                    cases q2 : l'.find? (fun e => e.born == st) with
                    | none => rw [q1, q2] at hf; exact hf.elim
                    | some e' =>
                      rw [q1, q2] at hf
                      obtain ⟨g1, g2, g3⟩ := hf
                      dsimp only
                      rw [g1]
                      exact SR.p (VRs.pair g2 g3)
              | _ => exact SR.stuck _ _
        | _ => exact SR.stuck _ _
  | _ => exact SR.stuck _ _
end
end Go.Proofs.YtmjblbgalkjmiaaGreat.EX
