/- Two runs of the model that differ in where blocks lie: values alike, trees of operations alike. -/
import Derived.Calls
import Std.Data.TreeMap
namespace Go.Proofs.YtekhnmfmdkfidaaGreat.EX
open Go

/-- Blocks of the run and of the world. -/
abbrev Env := Nat → Nat → Prop
/-- What is known of a slice's capacity at a block that an append made: it is just the other's; or the block's capacity in the world bounds it, and in the run it is the whole block's. -/
def CapOK (r : Env) (a : Addr) (c c' : Nat) : Prop := a.block % 2 = 1 → a.off = 0 → 0 < c → c' = c ∨ ∃ X k, c' ≤ k ∧ r (a.block + 1) X ∧ r (a.block + 3) (X + 1 + k) ∧ r (a.block + 5) (X + 1 + c)
/-- Values alike: the same heads and numbers; blocks by r; a slice's capacity is the other's, or, where its block is odd (made by an append), a lower bound of it; where it holds nothing its offset doesn't matter. -/
def VR (r : Env) : Value → Value → Prop :=
  Value.rec (motive_1 := fun _ => Value → Prop) (motive_2 := fun _ => Array Value → Prop) (motive_3 := fun _ => List Value → Prop)
    (fun b v => v = .bool b) (fun k n v => v = .int k n) (fun k n v => v = .float k n) (fun k x y v => v = .complex k x y) (fun s v => v = .string s)
    (fun a v => match a with | none => v = .pointer none | some a => ∃ c, r a.block c ∧ v = .pointer (some { a with block := c }))
    (fun a n c v => match a with | none => v = .slice none n c | some a => ∃ b c' a', r a.block b ∧ (a.block % 2 = 0 → c' = c) ∧ (c ≤ c' ∧ CapOK r a c c') ∧ a'.block = b ∧ ((n = 0 ∧ c = 0) ∨ a' = { a with block := b }) ∧ v = .slice (some a') n c')
    (fun m v => match m with | none => v = .map none | some m => ∃ b, r m b ∧ v = .map (some b))
    (fun m v => match m with | none => v = .chan none | some _ => False)
    (fun fn _ _ p q v => ∃ f' c', p f' ∧ q c' ∧ v = .func fn f' c')
    (fun v => v = .nilFunc)
    (fun t _ p v => ∃ x', p x' ∧ v = .iface t x')
    (fun v => v = .nilIface)
    (fun _ p v => ∃ cs', p cs' ∧ v = .agg cs')
    (fun _ p v => ∃ cs', p cs' ∧ v = .tuple cs')
    (fun _ p l => p l.toList)
    (fun l => l = [])
    (fun _ _ p q l => ∃ x' s', p x' ∧ q s' ∧ l = x' :: s')
/-- Rows of values alike. -/
def VRs (r : Env) : List Value → List Value → Prop
  | [], l => l = []
  | x :: s, l => ∃ x' s', VR r x x' ∧ VRs r s s' ∧ l = x' :: s'
theorem VRs_eq (r : Env) : ∀ (l l' : List Value), (VR r (.agg ⟨l⟩) (.agg ⟨l'⟩)) = VRs r l l'
  | [], l' => by
    have : VR r (.agg ⟨[]⟩) (.agg ⟨l'⟩) = ∃ cs' : Array Value, cs'.toList = [] ∧ Value.agg ⟨l'⟩ = .agg cs' := rfl
    rw [this]
    simp only [VRs, Value.agg.injEq, eq_iff_iff]
    constructor
    · rintro ⟨cs, h, rfl⟩; exact h
    · intro h; exact ⟨_, h, rfl⟩
  | x :: s, l' => by
    have : VR r (.agg ⟨x :: s⟩) (.agg ⟨l'⟩) = ∃ cs' : Array Value, (∃ x' s', VR r x x' ∧ (∃ c : Array Value, VR r (.agg ⟨s⟩) (.agg c) ∧ s' = c.toList) ∧ cs'.toList = x' :: s') ∧ Value.agg ⟨l'⟩ = .agg cs' := by
      show (∃ cs' : Array Value, (∃ x' s', VR r x x' ∧ _ ∧ cs'.toList = x' :: s') ∧ Value.agg ⟨l'⟩ = .agg cs') = _
      apply propext
      constructor
      · rintro ⟨cs, ⟨x', s', h1, h2, h3⟩, h4⟩
        exact ⟨cs, ⟨x', s', h1, ⟨⟨s'⟩, ⟨⟨s'⟩, h2, rfl⟩, rfl⟩, h3⟩, h4⟩
      · rintro ⟨cs, ⟨x', s', h1, ⟨c, ⟨c', h2, h5⟩, rfl⟩, h3⟩, h4⟩
        cases h5
        exact ⟨cs, ⟨x', _, h1, h2, h3⟩, h4⟩
    rw [this]
    simp only [VRs, Value.agg.injEq, eq_iff_iff]
    constructor
    · rintro ⟨cs, ⟨x', s', h1, ⟨c, h2, rfl⟩, h3⟩, rfl⟩
      rw [show c = ⟨c.toList⟩ from rfl, VRs_eq] at h2
      exact ⟨x', _, h1, h2, h3⟩
    · rintro ⟨x', s', h1, h2, h3⟩
      refine ⟨_, ⟨x', s', h1, ⟨⟨s'⟩, ?_, rfl⟩, h3⟩, rfl⟩
      rw [VRs_eq]
      exact h2
theorem VRa (r : Env) (l : List Value) (c : Array Value) : (∃ cs', VR r (.agg ⟨l⟩) (.agg cs') ∧ c = cs') ↔ VRs r l c.toList := by
  constructor
  · rintro ⟨cs, h, rfl⟩
    rw [show c = ⟨c.toList⟩ from rfl, VRs_eq] at h
    exact h
  · intro h
    refine ⟨c, ?_, rfl⟩
    rw [show c = ⟨c.toList⟩ from rfl, VRs_eq]
    exact h
theorem VRe (r : Env) : (∀ a v, VR r (.bool a) v ↔ v = .bool a) ∧ (∀ k n v, VR r (.int k n) v ↔ v = .int k n) ∧ (∀ k n v, VR r (.float k n) v ↔ v = .float k n) ∧ (∀ k a b v, VR r (.complex k a b) v ↔ v = .complex k a b) ∧
    (∀ s v, VR r (.string s) v ↔ v = .string s) ∧ (∀ v, VR r (.pointer none) v ↔ v = .pointer none) ∧ (∀ a v, VR r (.pointer (some a)) v ↔ ∃ c, r a.block c ∧ v = .pointer (some { a with block := c })) ∧
    (∀ n c v, VR r (.slice none n c) v ↔ v = .slice none n c) ∧ (∀ a n c v, VR r (.slice (some a) n c) v ↔ ∃ b c' a', r a.block b ∧ (a.block % 2 = 0 → c' = c) ∧ (c ≤ c' ∧ CapOK r a c c') ∧ a'.block = b ∧ ((n = 0 ∧ c = 0) ∨ a' = { a with block := b }) ∧ v = .slice (some a') n c') ∧
    (∀ v, VR r (.map none) v ↔ v = .map none) ∧ (∀ m v, VR r (.map (some m)) v ↔ ∃ b, r m b ∧ v = .map (some b)) ∧ (∀ v, VR r (.chan none) v ↔ v = .chan none) ∧ (∀ m v, VR r (.chan (some m)) v ↔ False) ∧
    (∀ fn f c v, VR r (.func fn ⟨f⟩ ⟨c⟩) v ↔ ∃ f' c', VRs r f f' ∧ VRs r c c' ∧ v = .func fn ⟨f'⟩ ⟨c'⟩) ∧ (∀ v, VR r .nilFunc v ↔ v = .nilFunc) ∧ (∀ t x v, VR r (.iface t x) v ↔ ∃ x', VR r x x' ∧ v = .iface t x') ∧
    (∀ v, VR r .nilIface v ↔ v = .nilIface) ∧ (∀ cs v, VR r (.agg ⟨cs⟩) v ↔ ∃ cs', VRs r cs cs' ∧ v = .agg ⟨cs'⟩) ∧ (∀ cs v, VR r (.tuple ⟨cs⟩) v ↔ ∃ cs', VRs r cs cs' ∧ v = .tuple ⟨cs'⟩) := by
  have key : ∀ (l : List Value) (p : Array Value → Prop), (p = fun c => VR r (.agg ⟨l⟩) (.agg c)) → ∀ c, p c ↔ VRs r l c.toList := by
    intro l p hp c
    rw [hp, show c = ⟨c.toList⟩ from rfl]
    show VR r (.agg ⟨l⟩) (.agg ⟨c.toList⟩) ↔ _
    rw [VRs_eq]
  refine ⟨fun _ _ => .rfl, fun _ _ _ => .rfl, fun _ _ _ => .rfl, fun _ _ _ _ => .rfl, fun _ _ => .rfl, fun _ => .rfl, fun _ _ => .rfl, fun _ _ _ => .rfl, fun _ _ _ _ => .rfl, fun _ => .rfl, fun _ _ => .rfl, fun _ => .rfl, fun _ _ => .rfl, ?_, fun _ => .rfl, fun _ _ _ => .rfl, fun _ => .rfl, ?_, ?_⟩
  · intro fn f c v
    constructor
    · rintro ⟨f', c', h1, h2, rfl⟩
      exact ⟨f'.toList, c'.toList, by rw [← VRs_eq]; exact ⟨f', h1, rfl⟩, by rw [← VRs_eq]; exact ⟨c', h2, rfl⟩, rfl⟩
    · rintro ⟨f', c', h1, h2, rfl⟩
      rw [← VRs_eq] at h1 h2
      obtain ⟨a, h1, e1⟩ := h1
      obtain ⟨b, h2, e2⟩ := h2
      cases e1
      cases e2
      exact ⟨_, _, h1, h2, rfl⟩
  · intro cs v
    constructor
    · rintro ⟨c, h, rfl⟩
      exact ⟨c.toList, by rw [← VRs_eq]; exact ⟨c, h, rfl⟩, rfl⟩
    · rintro ⟨c, h, rfl⟩
      rw [← VRs_eq] at h
      exact h
  · intro cs v
    constructor
    · rintro ⟨c, h, rfl⟩
      exact ⟨c.toList, by rw [← VRs_eq]; exact ⟨c, h, rfl⟩, rfl⟩
    · rintro ⟨c, h, rfl⟩
      rw [← VRs_eq] at h
      obtain ⟨a, h, e⟩ := h
      cases e
      exact ⟨_, h, rfl⟩

/-- Addresses alike. -/
def AR (r : Env) (a a' : Addr) : Prop := ∃ c, r a.block c ∧ a' = { a with block := c }

theorem VRs.length {r : Env} : ∀ {l l' : List Value}, VRs r l l' → l'.length = l.length
  | [], l', h => by simp only [VRs] at h; subst h; rfl
  | x :: s, l', h => by
    simp only [VRs] at h
    obtain ⟨x', s', _, h2, rfl⟩ := h
    simp [VRs.length h2]
theorem VRs.getD {r : Env} (d d' : Value) (hd : VR r d d') : ∀ {l l' : List Value}, VRs r l l' → ∀ i, VR r (l.getD i d) (l'.getD i d')
  | [], l', h, i => by simp only [VRs] at h; subst h; simpa using hd
  | x :: s, l', h, i => by
    simp only [VRs] at h
    obtain ⟨x', s', h1, h2, rfl⟩ := h
    cases i with
    | zero => simpa using h1
    | succ i => simpa using VRs.getD d d' hd h2 i

/-- A longer relation of blocks. -/
def Le (r r' : Env) : Prop := ∀ a b, r a b → r' a b
theorem CapOK.mono {r r' : Env} (h : Le r r') {a : Addr} {c c' : Nat} (k : CapOK r a c c') : CapOK r' a c c' := fun h1 h2 h3 => (k h1 h2 h3).imp id fun ⟨X, q, g1, g2, g3, g4⟩ => ⟨X, q, g1, h _ _ g2, h _ _ g3, h _ _ g4⟩
theorem VRs.mono_of {r r' : Env} : ∀ (l l' : List Value), (∀ x ∈ l, ∀ v, VR r x v → VR r' x v) → VRs r l l' → VRs r' l l'
  | [], _, _, k => k
  | x :: s, _, h, ⟨x', s', h1, h2, h3⟩ => ⟨x', s', h x (by simp) _ h1, VRs.mono_of s s' (fun y hy => h y (by simp [hy])) h2, h3⟩
theorem VR.mono_n {r r' : Env} (h : Le r r') : ∀ (n : Nat) (v v' : Value), SizeOf.sizeOf v ≤ n → VR r v v' → VR r' v v' := by
  intro n
  induction n with
  | zero => intro v v' hn; cases v <;> simp at hn
  | succ n ih =>
    intro v v' hn k
    cases v with
    | pointer a => cases a with
      | none => exact k
      | some a => obtain ⟨c, h1, h2⟩ := k; exact ⟨c, h _ _ h1, h2⟩
    | slice a _ _ => cases a with
      | none => exact k
      | some a => obtain ⟨b, c, a', h1, h2, h3, h4⟩ := k; exact ⟨b, c, a', h _ _ h1, h2, ⟨h3.1, h3.2.mono h⟩, h4⟩
    | map a => cases a with
      | none => exact k
      | some a => obtain ⟨c, h1, h2⟩ := k; exact ⟨c, h _ _ h1, h2⟩
    | chan a => cases a <;> exact k
    | func fn f c =>
      obtain ⟨f⟩ := f
      obtain ⟨c⟩ := c
      simp only [VRe] at k ⊢
      obtain ⟨f', c', h1, h2, h3⟩ := k
      exact ⟨f', c', VRs.mono_of _ _ (fun x hx v hv => ih x v (by have := List.sizeOf_lt_of_mem hx; simp at hn; omega) hv) h1, VRs.mono_of _ _ (fun x hx v hv => ih x v (by have := List.sizeOf_lt_of_mem hx; simp at hn; omega) hv) h2, h3⟩
    | iface t x =>
      simp only [VRe] at k ⊢
      obtain ⟨x', h1, h2⟩ := k
      exact ⟨x', ih x x' (by simp at hn; omega) h1, h2⟩
    | agg cs =>
      obtain ⟨cs⟩ := cs
      simp only [VRe] at k ⊢
      obtain ⟨x', h1, h2⟩ := k
      exact ⟨x', VRs.mono_of _ _ (fun x hx v hv => ih x v (by have := List.sizeOf_lt_of_mem hx; simp at hn; omega) hv) h1, h2⟩
    | tuple cs =>
      obtain ⟨cs⟩ := cs
      simp only [VRe] at k ⊢
      obtain ⟨x', h1, h2⟩ := k
      exact ⟨x', VRs.mono_of _ _ (fun x hx v hv => ih x v (by have := List.sizeOf_lt_of_mem hx; simp at hn; omega) hv) h1, h2⟩
    | _ => exact k
theorem VR.mono {r r' : Env} (h : Le r r') (v v' : Value) (k : VR r v v') : VR r' v v' := VR.mono_n h _ v v' (Nat.le_refl _) k
theorem VRs.mono {r r' : Env} (h : Le r r') (l l' : List Value) (k : VRs r l l') : VRs r' l l' := VRs.mono_of l l' (fun x _ v hv => VR.mono h x v hv) k

/-- A value without blocks. -/
def Rig (k : Value) : Prop := ∀ r v, VR r k v ↔ v = k
/-- Entries of maps alike: the keys bear no blocks. -/
def ER (r : Env) : List MapEntry → List MapEntry → Prop
  | [], l => l = []
  | x :: s, l => Rig x.key ∧ ∃ v s', VR r x.val v ∧ ER r s s' ∧ l = ⟨x.key, v, x.born⟩ :: s'
theorem ER.mono {r r' : Env} (h : Le r r') : ∀ (l l' : List MapEntry), ER r l l' → ER r' l l'
  | [], _, k => k
  | _x :: _s, _, ⟨g, b, c, h1, h2, h3⟩ => ⟨g, b, c, VR.mono h _ _ h1, ER.mono h _ _ h2, h3⟩

/-- Objects alike. A row of the world may go on behind what the run knows of it. -/
def OR (r : Env) : Obj → Obj → Prop
  | .cells ⟨cs⟩ t f, o => f = (0, 0) ∧ ∃ cs' rest, VRs r cs cs' ∧ o = .cells ⟨cs' ++ rest⟩ t (0, 0)
  | .map ⟨es⟩ c, o => ∃ es', ER r es es' ∧ o = .map ⟨es'⟩ c
  | .mapIter (some m) a s b, o => ∃ m', r m m' ∧ o = .mapIter (some m') a s b
  | .stringIter s p, o => o = .stringIter s p
  | .mapIter none a s b, o => o = .mapIter none a s b
  | _, _ => False
theorem OR.mono {r r' : Env} (h : Le r r') : ∀ (o o' : Obj), OR r o o' → OR r' o o'
  | .cells ⟨cs⟩ t f, _, k => by simp only [OR] at k ⊢; obtain ⟨h0, cs', rest, h1, h2⟩ := k; exact ⟨h0, cs', rest, VRs.mono h _ _ h1, h2⟩
  | .map ⟨es⟩ c, _, k => by simp only [OR] at k ⊢; obtain ⟨es', h1, h2⟩ := k; exact ⟨es', ER.mono h _ _ h1, h2⟩
  | .mapIter (some m) a s b, _, k => by simp only [OR] at k ⊢; obtain ⟨m', h1, h2⟩ := k; exact ⟨m', h _ _ h1, h2⟩
  | .stringIter s p, _, k => k
  | .mapIter none .., _, k => k
  | .pending .., _, k | .view .., _, k | .number .., _, k | .chan .., _, k | .loop .., _, k | .deferred .., _, k | .coro .., _, k | .finalizers .., _, k => by simp only [OR] at k

/-- Two trees of operations that do the same. -/
def SR (P : Program) {α : Type} (Q : Env → α → α → Prop) : Sem α → Sem α → Env → Prop
  | .pure a, .pure b, r => Q r a b
  | .load m a k, .load m' a' k', r => m = m' ∧ AR r a a' ∧ ∀ v v', VR r v v' → SR P Q (k v) (k' v') r
  | .store m a v k, .store m' a' v' k', r => m = m' ∧ AR r a a' ∧ VR r v v' ∧ SR P Q k k' r
  | .new o k, .new o' k', r => OR r o o' ∧ ∀ r' b b', Le r r' → r' b b' → SR P Q (k b) (k' b') r'
  | .getObj b k, .getObj b' k', r => r b b' ∧ ∀ o o', OR r o o' → SR P Q (k o) (k' o') r
  | .setObj b o k, .setObj b' o' k', r => r b b' ∧ OR r o o' ∧ SR P Q k k' r
  | .frozen a k, .frozen a' k', r => AR r a a' ∧ SR P Q (k false) (k' false) r
  | .choose q k, .choose q' k', r => q = q' ∧ (q.forced = true → SR P Q (k 0) (k' 0) r)
  | .program k, .program k', r => SR P Q (k P) (k' P) r
  | .mark _ k, .mark _ k', r => SR P Q k k' r
  | .halt (.panic v), .halt (.panic v'), r => VR r v v'
  | .halt (.panic _), _, _ => False
  | .halt _, _, _ => True
  | .shape .., _, _ => True
  | .freeze .., _, _ => True
  | .sys .., _, _ => True
  | _, _, _ => False

theorem SR.bind {P : Program} {α β : Type} {Q : Env → α → α → Prop} {R : Env → β → β → Prop} {f f' : α → Sem β} : ∀ (s s' : Sem α) (r : Env), SR P Q s s' r → (∀ r' a a', Le r r' → Q r' a a' → SR P R (f a) (f' a') r') → SR P R (s.bind f) (s'.bind f') r := by
  intro s
  induction s with
  | pure a =>
    intro s' r h k
    cases s' <;> simp only [SR] at h
    exact k r _ _ (fun _ _ h => h) h
  | load m a k ih =>
    intro s' r h q
    cases s' <;> simp only [SR] at h
    obtain ⟨h1, h2, h3⟩ := h
    simp only [Sem.bind, SR]
    exact ⟨h1, h2, fun v v' hv => ih v _ r (h3 v v' hv) q⟩
  | store m a v k ih =>
    intro s' r h q
    cases s' <;> simp only [SR] at h
    obtain ⟨h1, h2, h3, h4⟩ := h
    simp only [Sem.bind, SR]
    exact ⟨h1, h2, h3, ih _ r h4 q⟩
  | new o k ih =>
    intro s' r h q
    cases s' <;> simp only [SR] at h
    obtain ⟨h1, h2⟩ := h
    simp only [Sem.bind, SR]
    exact ⟨h1, fun r' b b' hl hb => ih b _ r' (h2 r' b b' hl hb) fun r'' a a' hl' hq => q r'' a a' (fun x y h => hl' _ _ (hl _ _ h)) hq⟩
  | shape x k ih => intro s' r h q; cases s' <;> first | trivial | (simp only [Sem.bind, SR])
  | freeze a n k ih => intro s' r h q; cases s' <;> first | trivial | (simp only [Sem.bind, SR])
  | frozen a k ih =>
    intro s' r h q
    cases s' <;> simp only [SR] at h
    simp only [Sem.bind, SR]
    exact ⟨h.1, ih _ _ r h.2 q⟩
  | getObj b k ih =>
    intro s' r h q
    cases s' <;> simp only [SR] at h
    simp only [Sem.bind, SR]
    exact ⟨h.1, fun o o' ho => ih o _ r (h.2 o o' ho) q⟩
  | setObj b o k ih =>
    intro s' r h q
    cases s' <;> simp only [SR] at h
    simp only [Sem.bind, SR]
    exact ⟨h.1, h.2.1, ih _ r h.2.2 q⟩
  | choose c k ih =>
    intro s' r h q
    cases s' <;> simp only [SR] at h
    simp only [Sem.bind, SR]
    exact ⟨h.1, fun hf => ih _ _ r (h.2 hf) q⟩
  | sys c k ih => intro s' r h q; cases s' <;> first | trivial | (simp only [Sem.bind, SR])
  | program k ih =>
    intro s' r h q
    cases s' <;> simp only [SR] at h
    simp only [Sem.bind, SR]
    exact ih _ _ r h q
  | mark m k ih =>
    intro s' r h q
    cases s' <;> simp only [SR] at h
    simp only [Sem.bind, SR]
    exact ih _ r h q
  | halt x =>
    intro s' r h q
    cases x with
    | panic v =>
      cases s' with
      | halt y =>
        cases y <;> simp only [SR] at h
        simpa only [Sem.bind, SR] using h
      | _ => simp only [SR] at h
    | _ => cases s' <;> first | trivial | (simp only [Sem.bind, SR])
end Go.Proofs.YtekhnmfmdkfidaaGreat.EX
/- A heap as a tree, and runs of trees of operations on it. -/
namespace Go.Proofs.YtekhnmfmdkfidaaGreat.EX
open Go
/-- A tree by the number's bits; the order and the sizes of Std's tree are not used. -/
abbrev T (α : Type) := Std.DTreeMap.Internal.Impl Nat fun _ => Option α
def T.get {α : Type} : T α → Nat → Option α
  | .leaf, _ => none
  | .inner _ _ v l r, k => if k = 0 then v else if k % 2 = 1 then T.get l (k / 2) else T.get r (k / 2 - 1)
def T.single {α : Type} (v : Option α) : Nat → Nat → T α
  | 0, _ => .leaf
  | n + 1, k => if k = 0 then .inner 0 0 v .leaf .leaf else if k % 2 = 1 then .inner 0 0 none (T.single v n (k / 2)) .leaf else .inner 0 0 none .leaf (T.single v n (k / 2 - 1))
def T.set {α : Type} : T α → Nat → Option α → T α
  | .leaf, k, v => T.single v (k + 1) k
  | .inner _ _ x l r, k, v => if k = 0 then .inner 0 0 v l r else if k % 2 = 1 then .inner 0 0 x (T.set l (k / 2) v) r else .inner 0 0 x l (T.set r (k / 2 - 1) v)
theorem T.get_single {α : Type} (v : Option α) : ∀ (n k j : Nat), k < n → (T.single v n k).get j = if j = k then v else none := by
  intro n
  induction n with
  | zero => intro k j h; omega
  | succ n ih =>
    intro k j h
    unfold T.single
    split
    · subst k
      by_cases hj : j = 0
      · simp [T.get, hj]
      · simp [T.get, hj]
    · split
      · rw [T.get]
        by_cases hj : j = 0
        · have : ¬ (0 = k) := by omega
          simp [hj, this]
        · simp only [if_neg hj]
          split
          · rw [ih _ _ (by omega)]
            by_cases e : j = k
            · simp [e]
            · rw [if_neg e, if_neg (by omega)]
          · have : ¬ j = k := by intro e; subst e; contradiction
            simp [T.get, this]
      · rw [T.get]
        by_cases hj : j = 0
        · have : ¬ (0 = k) := by omega
          simp [hj, this]
        · simp only [if_neg hj]
          split
          · have : ¬ j = k := by intro e; subst e; contradiction
            simp [T.get, this]
          · rw [ih _ _ (by omega)]
            by_cases e : j = k
            · simp [e]
            · rw [if_neg e, if_neg (by omega)]
theorem T.get_set {α : Type} (v : Option α) : ∀ (t : T α) (k j : Nat), (t.set k v).get j = if j = k then v else t.get j := by
  intro t
  induction t with
  | leaf => intro k j; simp only [T.set, T.get]; exact T.get_single v (k + 1) k j (by omega)
  | inner s x y l r ihl ihr =>
    intro k j
    unfold T.set
    split
    · subst k
      by_cases hj : j = 0 <;> simp [T.get, hj]
    · split
      · rw [T.get, T.get]
        by_cases hj : j = 0
        · have : ¬ (0 = k) := by omega
          simp [hj, this]
        · simp only [if_neg hj]
          split
          · rw [ihl]
            by_cases e : j = k
            · simp [e]
            · rw [if_neg e, if_neg (by omega)]
          · have : ¬ j = k := by intro e; subst e; contradiction
            simp [this]
      · rw [T.get, T.get]
        by_cases hj : j = 0
        · have : ¬ (0 = k) := by omega
          simp [hj, this]
        · simp only [if_neg hj]
          split
          · have : ¬ j = k := by intro e; subst e; contradiction
            simp [this]
          · rw [ihr]
            by_cases e : j = k
            · simp [e]
            · rw [if_neg e, if_neg (by omega)]
end Go.Proofs.YtekhnmfmdkfidaaGreat.EX
/- Runs of trees of operations on a heap that is a tree: what they answer, every world alike answers. -/
namespace Go.Proofs.YtekhnmfmdkfidaaGreat.EX
open Go
/-- A value of one cell. -/
def oneC : Value → Bool
  | .agg _ | .tuple _ => false
  | _ => true
structure Hp where
  t : T Obj
  n : Nat
def runX (P : Program) {α : Type} : Sem α → Hp → Option (Except Value α × Hp)
  | .pure a, h => some (.ok a, h)
  | .load _ a k, h => match h.t.get a.block with
    | some (.cells ⟨cs⟩ _ _) => if a.spot.isSome then none else match cs[a.off]? with
      | some v => runX P (k v) h
      | none => none
    | _ => none
  | .store _ a v k, h => if oneC v then match h.t.get a.block with
    | some (.cells ⟨cs⟩ t f) => if a.spot.isSome then none else if a.off < cs.length then runX P k ⟨h.t.set a.block (some (.cells ⟨cs.set a.off v⟩ t f)), h.n⟩ else none
    | _ => none
    else none
  | .new o k, h => runX P (k (2 * h.n)) ⟨h.t.set (2 * h.n) (some o), h.n + 1⟩
  | .getObj b k, h => match h.t.get b with
    | some (.cells ..) => none
    | some o => runX P (k o) h
    | none => none
  | .setObj b o k, h => match h.t.get b with
    | some (.cells ..) => none
    | some _ => match o with
      | .cells .. => none
      | o => runX P k ⟨h.t.set b (some o), h.n⟩
    | none => none
  | .frozen a k, h => match h.t.get a.block with
    | some (.cells ..) => runX P (k false) h
    | _ => none
  | .choose q k, h => if q.forced then runX P (k 0) h else none
  | .program k, h => runX P (k P) h
  | .mark _ k, h => runX P k h
  | .halt (.panic v), h => some (.error v, h)
  | _, _ => none

/-- A heap and a world alike. -/
structure HR (r : Env) (h : Hp) (w : World) : Prop where
  live : ∀ b o, h.t.get b = some o → ∃ c o', r b c ∧ w.heap[c]? = some o' ∧ OR r o o'
  fn : ∀ b c c', r b c → r b c' → c = c'
  inj : ∀ b b' c, (h.t.get b).isSome → (h.t.get b').isSome → r b c → r b' c → b = b'
  lt : ∀ b c, r b c → b < 2 * h.n
  odd : ∀ b c, r b c → b % 2 = 1 → b + 7 ≤ 2 * h.n
  caps : ∀ b c X k c0 cs t z, b % 2 = 1 → r b c → r (b + 1) X → r (b + 3) (X + 1 + k) → r (b + 5) (X + 1 + c0) → h.t.get b = some (.cells ⟨cs⟩ t z) → ∃ cs' z', w.heap[c]? = some (.cells cs' t z') ∧ k * cs.length ≤ cs'.size * c0
theorem HR.size {r : Env} {h : Hp} {w : World} (H : HR r h w) {b c : Nat} (hb : (h.t.get b).isSome) (hr : r b c) : c < w.heap.size := by
  obtain ⟨o, ho⟩ := Option.isSome_iff_exists.1 hb
  obtain ⟨c1, o1, k1, k2, _⟩ := H.live b o ho
  cases H.fn _ _ _ hr k1
  exact (Array.getElem?_eq_some_iff.1 k2).1
/-- What a run leaves as it was. -/
structure Fr (r r' : Env) (h h' : Hp) (w w' : World) : Prop where
  le : Le r r'
  lt : ∀ b c, r b c → b < 2 * h.n
  size : w.heap.size ≤ w'.heap.size
  n : h.n ≤ h'.n
  new : ∀ b c, r' b c → c < w.heap.size ∨ b < 2 * h.n → r b c ∨ (2 * h.n ≤ b ∧ ∃ b0, (h.t.get b0).isSome ∧ r b0 c)
  old : ∀ b, b < 2 * h.n → (h'.t.get b).isSome → (h.t.get b).isSome
  heap : ∀ c, c < w.heap.size → (∀ b, (h.t.get b).isSome → ¬ r b c) → w'.heap[c]? = w.heap[c]?
  os : w'.os = w.os
  tape : w'.tape = w.tape
  output : w'.output = w.output
theorem Fr.refl {r : Env} {h : Hp} {w : World} (k : HR r h w) : Fr r r h h w w :=
  ⟨fun _ _ h => h, fun b c h => k.lt b c h, Nat.le_refl _, Nat.le_refl _, fun _ _ h _ => .inl h, fun _ _ h => h, fun _ _ _ => rfl, rfl, rfl, rfl⟩
theorem Fr.trans {r r' r'' : Env} {h h' h'' : Hp} {w w' w'' : World} (a : Fr r r' h h' w w') (b : Fr r' r'' h' h'' w' w'') : Fr r r'' h h'' w w'' := by
  refine ⟨fun x y k => b.le _ _ (a.le _ _ k), a.lt, Nat.le_trans a.size b.size, Nat.le_trans a.n b.n, fun x y k hk => ?_, fun x hx k => ?_, fun c hc hn => ?_, b.os.trans a.os, b.tape.trans a.tape, b.output.trans a.output⟩
  · have hbn : 2 * h.n ≤ 2 * h'.n := Nat.mul_le_mul_left 2 a.n
    rcases b.new x y k (hk.elim (fun h => Or.inl (Nat.lt_of_lt_of_le h a.size)) fun h => Or.inr (Nat.lt_of_lt_of_le h hbn)) with k1 | ⟨hx, b0, hb0, hr0⟩
    · exact a.new x y k1 hk
    · have hc : y < w.heap.size := hk.elim id fun h => by omega
      rcases a.new b0 y hr0 (.inl hc) with q | ⟨_, b1, q1, q2⟩
      · exact .inr ⟨by omega, b0, a.old b0 (a.lt b0 y q) hb0, q⟩
      · exact .inr ⟨by omega, b1, q1, q2⟩
  · exact a.old x hx (b.old x (Nat.lt_of_lt_of_le hx (Nat.mul_le_mul_left 2 a.n)) k)
  · rw [b.heap c (Nat.lt_of_lt_of_le hc a.size) fun x hx k => ?_, a.heap c hc hn]
    rcases a.new _ _ k (.inl hc) with k' | ⟨_, b1, q1, q2⟩
    case inr => exact hn b1 q1 q2
    exact hn x (a.old x (a.lt _ _ k') hx) k'

theorem VRs.get? {r : Env} : ∀ {l l' : List Value}, VRs r l l' → ∀ {i : Nat} {v : Value}, l[i]? = some v → ∃ v', l'[i]? = some v' ∧ VR r v v'
  | [], l', h, i, v, e => by simp at e
  | x :: s, l', h, i, v, e => by
    simp only [VRs] at h
    obtain ⟨x', s', h1, h2, rfl⟩ := h
    cases i with
    | zero => simp at e; subst e; exact ⟨x', by simp, h1⟩
    | succ i => simp at e; simpa using VRs.get? h2 e
theorem VRs.set {r : Env} {v v' : Value} (hv : VR r v v') : ∀ {l l' : List Value}, VRs r l l' → ∀ (i : Nat), VRs r (l.set i v) (l'.set i v')
  | [], l', h, i => by simp only [VRs] at h; subst h; simp [VRs]
  | x :: s, l', h, i => by
    simp only [VRs] at h
    obtain ⟨x', s', h1, h2, rfl⟩ := h
    cases i with
    | zero => simp only [List.set, VRs]; exact ⟨v', s', hv, h2, rfl⟩
    | succ i => simp only [List.set, VRs]; exact ⟨x', s'.set i v', h1, VRs.set hv h2 i, rfl⟩
theorem VR.oneC {r : Env} : ∀ (v v' : Value), VR r v v' → EX.oneC v = true → EX.oneC v' = true
  | .bool _, _, h, _ | .int .., _, h, _ | .float .., _, h, _ | .complex .., _, h, _ | .string _, _, h, _ | .pointer none, _, h, _ | .slice none _ _, _, h, _ | .map none, _, h, _ | .chan none, _, h, _ | .nilFunc, _, h, _ | .nilIface, _, h, _ => by simp only [VRe] at h; subst h; rfl
  | .pointer (some a), _, h, _ => by simp only [VRe] at h; obtain ⟨c, _, rfl⟩ := h; rfl
  | .slice (some a) _ _, _, h, _ => by simp only [VRe] at h; obtain ⟨b, c, a', _, _, _, _, _, rfl⟩ := h; rfl
  | .map (some a), _, h, _ => by simp only [VRe] at h; obtain ⟨c, _, rfl⟩ := h; rfl
  | .chan (some a), _, h, _ => by simp only [VRe] at h
  | .func fn ⟨f⟩ ⟨c⟩, _, h, _ => by simp only [VRe] at h; obtain ⟨f', c', _, _, rfl⟩ := h; rfl
  | .iface t x, _, h, _ => by simp only [VRe] at h; obtain ⟨x', _, rfl⟩ := h; rfl
  | .agg _, _, _, k | .tuple _, _, _, k => by cases k

/-- A live block written over. -/
theorem HR.put {r : Env} {h : Hp} {w : World} (H : HR r h w) {b c : Nat} {o o' : Obj} (hb : (h.t.get b).isSome) (hc : r b c) (ho : OR r o o')
    (hl : ∀ cs t z, o = .cells ⟨cs⟩ t z → ∃ cs0 z0 cs' z', h.t.get b = some (.cells ⟨cs0⟩ t z0) ∧ cs.length = cs0.length ∧ o' = .cells cs' t z' ∧ ∀ c0 z1, w.heap[c]? = some (.cells c0 t z1) → cs'.size = c0.size) :
    HR r ⟨h.t.set b (some o), h.n⟩ { w with heap := w.heap.setIfInBounds c o' } ∧ Fr r r h ⟨h.t.set b (some o), h.n⟩ w { w with heap := w.heap.setIfInBounds c o' } := by
  have hlt := H.size hb hc
  have live : ∀ q, ((h.t.set b (some o)).get q).isSome → (h.t.get q).isSome := fun q hq => by
    simp only [T.get_set] at hq
    by_cases e : q = b
    · rw [e]; exact hb
    · rwa [if_neg e] at hq
  refine ⟨⟨fun x u hx => ?_, H.fn, fun x y z hx hy => H.inj x y z (live x hx) (live y hy), H.lt, H.odd, fun x cx X k c0 cs t z ho1 h1 h2 h3 h4 h5 => ?_⟩, ⟨fun _ _ h => h, fun x y k => H.lt x y k, by simp, Nat.le_refl _, fun _ _ h _ => .inl h, fun x _ hx => live x hx, fun z hz hn => ?_, rfl, rfl, rfl⟩⟩
  · simp only [T.get_set] at hx
    by_cases e : x = b
    · subst e
      rw [if_pos rfl] at hx
      cases hx
      exact ⟨c, o', hc, by simp [hlt], ho⟩
    · rw [if_neg e] at hx
      obtain ⟨c1, o1, k1, k2, k3⟩ := H.live x u hx
      refine ⟨c1, o1, k1, ?_, k3⟩
      have : c ≠ c1 := fun q => e (H.inj x b c (by rw [hx]; rfl) hb (q ▸ k1) hc)
      simp [Array.getElem?_setIfInBounds_ne this, k2]
  · simp only [T.get_set] at h5
    by_cases e : x = b
    · subst e
      rw [if_pos rfl] at h5
      cases h5
      cases H.fn _ _ _ hc h1
      obtain ⟨cs0, z0, cs', z', q1, q2, q3, q4⟩ := hl cs t z rfl
      obtain ⟨cw, zw, g1, g2⟩ := H.caps x c X k c0 cs0 t z0 ho1 h1 h2 h3 h4 q1
      refine ⟨cs', z', by simp [hlt, q3], ?_⟩
      rw [q2, q4 cw zw g1]
      exact g2
    · rw [if_neg e] at h5
      obtain ⟨cw, zw, g1, g2⟩ := H.caps x cx X k c0 cs t z ho1 h1 h2 h3 h4 h5
      have : c ≠ cx := fun q => e (H.inj x b c (by rw [h5]; rfl) hb (q ▸ h1) hc)
      exact ⟨cw, zw, by simp [Array.getElem?_setIfInBounds_ne this, g1], g2⟩
  · have : c ≠ z := fun q => hn b hb (q ▸ hc)
    simp [Array.getElem?_setIfInBounds_ne this]

/-- A new block. -/
theorem HR.push {r : Env} {h : Hp} {w : World} (H : HR r h w) {o o' : Obj} (ho : OR r o o') :
    let r' : Env := fun b c => r b c ∨ (b = 2 * h.n ∧ c = w.heap.size)
    HR r' ⟨h.t.set (2 * h.n) (some o), h.n + 1⟩ { w with heap := w.heap.push o' } ∧ Fr r r' h ⟨h.t.set (2 * h.n) (some o), h.n + 1⟩ w { w with heap := w.heap.push o' } := by
  intro r'
  have hle : Le r r' := fun _ _ h => .inl h
  have old : ∀ x y, x < 2 * h.n → r' x y → r x y := fun x y hx k => k.elim id fun e => by omega
  refine ⟨⟨fun x u hx => ?_, fun x y z k1 k2 => ?_, fun x y z hx hy k1 k2 => ?_, fun x y k => ?_, fun x y k ho1 => ?_, fun x cx X k c0 cs t z ho1 h1 h2 h3 h4 h5 => ?_⟩, ⟨hle, fun x y k => H.lt x y k, by simp, by simp, fun x y k hk => ?_, fun x hlt hx => ?_, fun z hz _ => ?_, rfl, rfl, rfl⟩⟩
  · simp only [T.get_set] at hx
    by_cases e : x = 2 * h.n
    · rw [if_pos e] at hx
      cases hx
      exact ⟨w.heap.size, o', .inr ⟨e, rfl⟩, by simp, OR.mono hle _ _ ho⟩
    · rw [if_neg e] at hx
      obtain ⟨c1, o1, k1, k2, k3⟩ := H.live x u hx
      refine ⟨c1, o1, .inl k1, ?_, OR.mono hle _ _ k3⟩
      have := H.size (by rw [hx]; rfl) k1
      simp [Array.getElem?_push, k2, Nat.ne_of_lt this]
  · rcases k1 with k1 | ⟨e1, e2⟩ <;> rcases k2 with k2 | ⟨e3, e4⟩
    · exact H.fn _ _ _ k1 k2
    · have := H.lt _ _ k1; omega
    · have := H.lt _ _ k2; omega
    · omega
  · simp only [T.get_set] at hx hy
    rcases k1 with k1 | ⟨e1, e2⟩ <;> rcases k2 with k2 | ⟨e3, e4⟩
    · have h1 := H.lt _ _ k1
      have h2 := H.lt _ _ k2
      rw [if_neg (by omega)] at hx hy
      exact H.inj _ _ _ hx hy k1 k2
    · have h1 := H.lt _ _ k1
      rw [if_neg (by omega)] at hx
      have := H.size hx k1
      omega
    · have h1 := H.lt _ _ k2
      rw [if_neg (by omega)] at hy
      have := H.size hy k2
      omega
    · omega
  · rcases k with k | ⟨e1, e2⟩
    · have := H.lt _ _ k
      show x < 2 * (h.n + 1)
      omega
    · show x < 2 * (h.n + 1)
      omega
  · rcases k with k | ⟨e1, e2⟩
    · have := H.odd _ _ k ho1
      show x + 7 ≤ 2 * (h.n + 1)
      omega
    · omega
  · rcases h1 with h1 | ⟨h1, _⟩
    case inr => omega
    have hb := H.odd _ _ h1 ho1
    simp only [T.get_set] at h5
    rw [if_neg (by omega)] at h5
    obtain ⟨cw, zw, g1, g2⟩ := H.caps x cx X k c0 cs t z ho1 h1 (old _ _ (by omega) h2) (old _ _ (by omega) h3) (old _ _ (by omega) h4) h5
    have := H.size (by rw [h5]; rfl) h1
    exact ⟨cw, zw, by simp [Array.getElem?_push, g1, Nat.ne_of_lt this], g2⟩
  · rcases k with k | ⟨e1, e2⟩
    · exact .inl k
    · exfalso; omega
  · simp only [T.get_set] at hx
    rwa [if_neg (by omega)] at hx
  · have : z ≠ w.heap.size := by omega
    simp [Array.getElem?_push, this]

theorem OR.nocells {r : Env} : ∀ (o o' : Obj), OR r o o' → (∀ cs t f, o ≠ .cells cs t f) → ∀ cs t f, o' ≠ .cells cs t f
  | .cells cs t f, _, _, h, _, _, _ => fun _ => h cs t f rfl
  | .map ⟨es⟩ c, _, k, _, _, _, _ => by simp only [OR] at k; obtain ⟨es', _, rfl⟩ := k; intro q; cases q
  | .mapIter (some m) a s b, _, k, _, _, _, _ => by simp only [OR] at k; obtain ⟨es', _, rfl⟩ := k; intro q; cases q
  | .stringIter s p, _, k, _, _, _, _ => by simp only [OR] at k; subst k; intro q; cases q
  | .mapIter none .., _, k, _, _, _, _ => by simp only [OR] at k; subst k; intro q; cases q
  | .pending .., _, k, _, _, _, _ | .view .., _, k, _, _, _, _ | .number .., _, k, _, _, _, _ | .chan .., _, k, _, _, _, _ | .loop .., _, k, _, _, _, _ | .deferred .., _, k, _, _, _, _ | .coro .., _, k, _, _, _, _ | .finalizers .., _, k, _, _, _, _ => by simp only [OR] at k

/-- New blocks come behind all that is. -/
def Tidy (h : Hp) : Prop := ∀ b, 2 * h.n ≤ b → h.t.get b = none

/-- What a run answers, every world alike answers; and what it doesn't know of stays as it is. -/
theorem run_SR {P : Program} {α : Type} {Q : Env → α → α → Prop} : ∀ (s s' : Sem α) (r : Env) (h : Hp) (w : World), SR P Q s s' r → HR r h w → Tidy h → ∀ x h1, runX P s h = some (x, h1) →
    ∃ r' w', HR r' h1 w' ∧ Tidy h1 ∧ Fr r r' h h1 w w' ∧ match x with
      | .ok v => ∃ v', s'.run P w = .ok v' w' ∧ Q r' v v'
      | .error v => ∃ v', s'.run P w = .halt (.panic v') w' ∧ VR r' v v' := by
  intro s
  induction s with
  | pure a =>
    intro s' r h w hs H hT x h1 e
    cases s' <;> simp only [SR] at hs
    simp only [runX] at e
    cases e
    exact ⟨r, w, H, hT, .refl H, _, rfl, hs⟩
  | load m a k ih =>
    intro s' r h w hs H hT x h1 e
    cases s' <;> simp only [SR] at hs
    obtain ⟨rfl, ⟨c, hc, rfl⟩, hk⟩ := hs
    simp only [runX] at e
    split at e
    · rename_i cs t f hb
      split at e
      · cases e
      · rename_i hsp
        split at e
        · rename_i v hv
          obtain ⟨c1, o1, k1, k2, k3⟩ := H.live _ _ hb
          cases H.fn _ _ _ hc k1
          simp only [OR] at k3
          obtain ⟨rfl, cs', rest, k4, rfl⟩ := k3
          obtain ⟨v', hv', hvr⟩ := VRs.get? k4 hv
          have hcell : w.cell? { a with block := c } = some v' := by
            simp only [World.cell?, k2]
            simp only [Bool.not_eq_true] at hsp
            simp [hsp, List.getElem?_append_left (List.getElem?_eq_some_iff.1 hv').1, hv']
          obtain ⟨r', w', q1, q2, q3, q4⟩ := ih v _ r h w (hk v v' hvr) H hT x h1 e
          refine ⟨r', w', q1, q2, q3, ?_⟩
          simp only [Sem.run, hcell]
          exact q4
        · cases e
    · cases e
  | store m a v k ih =>
    intro s' r h w hs H hT x h1 e
    cases s' <;> simp only [SR] at hs
    rename_i v' k'
    obtain ⟨rfl, ⟨c, hc, rfl⟩, hv, hk⟩ := hs
    simp only [runX] at e
    split at e
    · rename_i hone
      split at e
      · rename_i cs t f hb
        split at e
        · cases e
        · rename_i hsp
          split at e
          · rename_i hlt
            obtain ⟨c1, o1, k1, k2, k3⟩ := H.live _ _ hb
            cases H.fn _ _ _ hc k1
            simp only [OR] at k3
            obtain ⟨rfl, cs', rest, k4, rfl⟩ := k3
            have hl := VRs.length k4
            obtain ⟨H', F'⟩ := H.put (o := .cells ⟨cs.set a.off v⟩ t (0, 0)) (o' := .cells ⟨cs'.set a.off v' ++ rest⟩ t (0, 0)) (by rw [hb]; rfl) hc (by simp only [OR]; exact ⟨trivial, _, rest, VRs.set hv k4 _, rfl⟩) (fun cs1 t1 z1 e1 => by
              cases e1
              refine ⟨cs, _, _, _, hb, by simp, rfl, fun c0 z1 e1 => ?_⟩
              rw [k2] at e1
              cases e1
              simp)
            obtain ⟨r', w', q1, q2, q3, q4⟩ := ih _ r _ _ hk H' (fun b hb' => by
              simp only [T.get_set]
              rw [if_neg (by intro e; subst e; have := H.lt _ _ hc; simp only at hb'; omega)]
              exact hT b hb') x h1 e
            refine ⟨r', w', q1, q2, F'.trans q3, ?_⟩
            have hone' := VR.oneC v v' hv hone
            have hcell : ∃ u, w.cell? { a with block := c } = some u := by
              simp only [World.cell?, k2]
              simp only [Bool.not_eq_true] at hsp
              refine ⟨(cs' ++ rest)[a.off]'(by simp; omega), ?_⟩
              simp [hsp]
            obtain ⟨u, hu⟩ := hcell
            have hfz : w.frozen? { a with block := c } = false := by simp [World.frozen?, k2]
            have hset : w.setCell { a with block := c } v' = { w with heap := w.heap.setIfInBounds c (.cells ⟨cs'.set a.off v' ++ rest⟩ t (0, 0)) } := by
              simp only [World.setCell]
              congr 1
              apply Array.ext_getElem?
              intro i
              have hcl := H.size (by rw [hb]; rfl) hc
              by_cases ei : i = c
              · subst ei
                simp only [Bool.not_eq_true] at hsp
                rw [Array.getElem?_modify, if_pos rfl, k2]
                simp [hcl, hsp, hl, hlt]
              · rw [Array.getElem?_modify, if_neg (Ne.symm ei), Array.getElem?_setIfInBounds_ne (Ne.symm ei)]
            have hrun : (Sem.store m { a with block := c } v' k').run P w = k'.run P (w.setCell { a with block := c } v') := by
              cases v' <;> first | (simp [Sem.run, hu, hfz]; done) | (simp [EX.oneC] at hone')
            rw [hrun, hset]
            exact q4
          · cases e
      · cases e
    · cases e
  | new o k ih =>
    intro s' r h w hs H hT x h1 e
    cases s' <;> simp only [SR] at hs
    rename_i o' k'
    obtain ⟨ho, hk⟩ := hs
    simp only [runX] at e
    obtain ⟨H', F'⟩ := H.push ho
    obtain ⟨r', w', q1, q2, q3, q4⟩ := ih _ _ _ _ _ (hk _ (2 * h.n) w.heap.size F'.le (.inr ⟨rfl, rfl⟩)) H' (fun b hb' => by
      simp only [T.get_set]
      simp only at hb'
      rw [if_neg (by omega)]
      exact hT b (by omega)) x h1 e
    exact ⟨r', w', q1, q2, F'.trans q3, q4⟩
  | shape x k ih => intro s' r h w hs H hT x h1 e; simp only [runX] at e; cases e
  | freeze a n k ih => intro s' r h w hs H hT x h1 e; simp only [runX] at e; cases e
  | frozen a k ih =>
    intro s' r h w hs H hT x h1 e
    cases s' <;> simp only [SR] at hs
    obtain ⟨⟨c, hc, rfl⟩, hk⟩ := hs
    simp only [runX] at e
    split at e
    · rename_i cs t f hb
      obtain ⟨c1, o1, k1, k2, k3⟩ := H.live _ _ hb
      cases H.fn _ _ _ hc k1
      cases cs
      simp only [OR] at k3
      obtain ⟨rfl, cs', rest, k4, rfl⟩ := k3
      obtain ⟨r', w', q1, q2, q3, q4⟩ := ih _ _ r h w hk H hT x h1 e
      refine ⟨r', w', q1, q2, q3, ?_⟩
      simp only [Sem.run]
      have hfz : w.frozen? { a with block := c } = false := by simp [World.frozen?, k2]
      rw [hfz]
      exact q4
    · cases e
  | getObj b k ih =>
    intro s' r h w hs H hT x h1 e
    cases s' <;> simp only [SR] at hs
    rename_i b' k'
    obtain ⟨hb', hk⟩ := hs
    simp only [runX] at e
    cases hb : h.t.get b with
    | none => rw [hb] at e; cases e
    | some o =>
      rw [hb] at e
      have hnc : ∀ cs t f, o ≠ .cells cs t f := fun cs t f q => by subst q; cases e
      have e' : runX P (k o) h = some (x, h1) := by
        cases o <;> first | exact e | exact absurd rfl (hnc _ _ _)
      obtain ⟨c1, o1, k1, k2, k3⟩ := H.live _ _ hb
      cases H.fn _ _ _ hb' k1
      obtain ⟨r', w', q1, q2, q3, q4⟩ := ih _ _ r h w (hk _ _ k3) H hT x h1 e'
      refine ⟨r', w', q1, q2, q3, ?_⟩
      have hno := OR.nocells _ _ k3 hnc
      have : (Sem.getObj b' k').run P w = (k' o1).run P w := by
        simp only [Sem.run, k2]
      rw [this]
      exact q4
  | setObj b o k ih =>
    intro s' r h w hs H hT x h1 e
    cases s' <;> simp only [SR] at hs
    rename_i b' o' k'
    obtain ⟨hb', ho, hk⟩ := hs
    simp only [runX] at e
    cases hb : h.t.get b with
    | none => rw [hb] at e; cases e
    | some u =>
      rw [hb] at e
      have hnc : ∀ cs t f, u ≠ .cells cs t f := fun cs t f q => by subst q; cases e
      have hnn : ∀ cs t f, o ≠ .cells cs t f := fun cs t f q => by
        subst q
        cases u <;> first | cases e | exact absurd rfl (hnc _ _ _)
      have e' : runX P k ⟨h.t.set b (some o), h.n⟩ = some (x, h1) := by
        cases u <;> first | exact absurd rfl (hnc _ _ _) | (cases o <;> first | exact e | exact absurd rfl (hnn _ _ _))
      obtain ⟨c1, o1, k1, k2, k3⟩ := H.live _ _ hb
      cases H.fn _ _ _ hb' k1
      obtain ⟨H', F'⟩ := H.put (by rw [hb]; rfl) hb' ho (fun cs t z e => absurd e (hnn _ _ _))
      obtain ⟨r', w', q1, q2, q3, q4⟩ := ih _ r _ _ hk H' (fun x hx => by
        simp only [T.get_set]
        rw [if_neg (by intro e; subst e; have := H.lt _ _ hb'; simp only at hx; omega)]
        exact hT x hx) x h1 e'
      refine ⟨r', w', q1, q2, F'.trans q3, ?_⟩
      have hno := OR.nocells _ _ k3 hnc
      have : (Sem.setObj b' o' k').run P w = k'.run P { w with heap := w.heap.setIfInBounds b' o' } := by
        simp only [Sem.run, k2]
      rw [this]
      exact q4
  | choose c k ih =>
    intro s' r h w hs H hT x h1 e
    cases s' <;> simp only [SR] at hs
    obtain ⟨rfl, hk⟩ := hs
    simp only [runX] at e
    split at e
    · rename_i hf
      obtain ⟨r', w', q1, q2, q3, q4⟩ := ih _ _ r h w (hk hf) H hT x h1 e
      refine ⟨r', w', q1, q2, q3, ?_⟩
      simp only [Sem.run, hf, if_true]
      exact q4
    · cases e
  | sys c k ih => intro s' r h w hs H hT x h1 e; simp only [runX] at e; cases e
  | program k ih =>
    intro s' r h w hs H hT x h1 e
    cases s' <;> simp only [SR] at hs
    simp only [runX] at e
    exact ih _ _ r h w hs H hT x h1 e
  | mark m k ih =>
    intro s' r h w hs H hT x h1 e
    cases s' <;> simp only [SR] at hs
    simp only [runX] at e
    exact ih _ r h w hs H hT x h1 e
  | halt y =>
    intro s' r h w hs H hT x h1 e
    cases y with
    | panic v =>
      cases s' with
      | halt y =>
        cases y <;> simp only [SR] at hs
        simp only [runX] at e
        cases e
        exact ⟨r, w, H, hT, .refl H, _, rfl, hs⟩
      | _ => simp only [SR] at hs
    | _ => simp only [runX] at e; cases e
end Go.Proofs.YtekhnmfmdkfidaaGreat.EX
/- The operations, one by one: related operands give trees that do the same. -/
namespace Go.Proofs.YtekhnmfmdkfidaaGreat.EX
open Go
section
variable {P : Program}
theorem SR.b {α β : Type} {Q : Env → α → α → Prop} {R : Env → β → β → Prop} {f f' : α → Sem β} {s s' : Sem α} {r : Env} (h : SR P Q s s' r) (k : ∀ r' a a', Le r r' → Q r' a a' → SR P R (f a) (f' a') r') : SR P R (s >>= f) (s' >>= f') r := SR.bind s s' r h k
theorem Le.refl (r : Env) : Le r r := fun _ _ h => h
theorem Le.trans {a b c : Env} (h : Le a b) (k : Le b c) : Le a c := fun _x _y q => k _ _ (h _ _ q)
theorem SR.p {α : Type} {Q : Env → α → α → Prop} {a a' : α} {r : Env} (h : Q r a a') : SR P Q (pure a) (pure a') r := h
/-- Alike: the same. -/
def Eqq {α : Type} : Env → α → α → Prop := fun _ a b => a = b
theorem SR.stuck {α : Type} {Q : Env → α → α → Prop} {r : Env} (x : String) (s : Sem α) : SR P Q (stuck x) s r := by
  cases s <;> first | trivial | (simp only [Go.stuck, SR])
theorem SR.unsup {α : Type} {Q : Env → α → α → Prop} {r : Env} (x : Unsupported) (s : Sem α) : SR P Q (unsupported x) s r := by
  cases s <;> first | trivial | (simp only [Go.unsupported, SR])
theorem SR.typeInfo {r : Env} (t : TypeId) : SR P Eqq (typeInfo t) (typeInfo t) r := by
  unfold Go.typeInfo
  show SR P Eqq (match P.info? t with | some i => pure i | none => Go.stuck _) (match P.info? t with | some i => pure i | none => Go.stuck _) r
  split
  · exact SR.p rfl
  · exact SR.stuck _ _
theorem SR.underlying {r : Env} (t : TypeId) : SR P Eqq (underlying t) (underlying t) r := by
  unfold Go.underlying
  show SR P Eqq (match P.underlying t with | some i => pure i | none => Go.stuck _) (match P.underlying t with | some i => pure i | none => Go.stuck _) r
  split
  · exact SR.p rfl
  · exact SR.stuck _ _
theorem SR.sizeOf {r : Env} (t : TypeId) : SR P Eqq (Go.sizeOf t) (Go.sizeOf t) r := by
  unfold Go.sizeOf
  refine SR.b (SR.typeInfo t) fun r' a a' _ h => ?_
  cases h
  exact SR.p rfl
theorem SR.isAgg {r : Env} (t : TypeId) : SR P Eqq (Go.isAgg t) (Go.isAgg t) r := by
  unfold Go.isAgg
  refine SR.b (SR.underlying t) fun r' a a' _ h => ?_
  cases h
  split <;> exact SR.p rfl
theorem AR.add {r : Env} {a a' : Addr} (h : AR r a a') (n : Nat) : AR r (a.add n) (a'.add n) := by
  obtain ⟨c, hc, rfl⟩ := h
  unfold Addr.add
  split
  · exact ⟨c, hc, rfl⟩
  · exact ⟨c, hc, rfl⟩
theorem AR.mono {r r' : Env} (hl : Le r r') {a a' : Addr} (h : AR r a a') : AR r' a a' := by
  obtain ⟨c, hc, rfl⟩ := h
  exact ⟨c, hl _ _ hc, rfl⟩
theorem SR.load {r : Env} {a a' : Addr} (h : AR r a a') : SR P VR (Go.load a) (Go.load a') r := ⟨rfl, h, fun _ _ hv => hv⟩
theorem VRs.snoc {r : Env} {v v' : Value} (hv : VR r v v') : ∀ {l l' : List Value}, VRs r l l' → VRs r (l ++ [v]) (l' ++ [v'])
  | [], l', h => by cases h; exact ⟨v', [], hv, rfl, rfl⟩
  | x :: s, l', ⟨x', s', h1, h2, h3⟩ => by subst h3; exact ⟨x', s' ++ [v'], h1, VRs.snoc hv h2, rfl⟩
/-- Rows of cells alike. -/
def AVs (r : Env) (a a' : Array Value) : Prop := VRs r a.toList a'.toList
theorem SR.loadCellsFrom {a a' : Addr} : ∀ (n i : Nat) (acc acc' : Array Value) (r : Env), AR r a a' → AVs r acc acc' → SR P AVs (Go.loadCellsFrom a i n acc) (Go.loadCellsFrom a' i n acc') r
  | 0, _, _, _, _, _, hv => SR.p hv
  | n + 1, i, acc, acc', r, h, hv => by
    unfold Go.loadCellsFrom
    refine SR.b (SR.load (h.add i)) fun r' v v' hl hq => ?_
    exact SR.loadCellsFrom n (i + 1) _ _ r' (h.mono hl) (by
      unfold AVs
      simp only [Array.toList_push]
      exact VRs.snoc hq (VRs.mono hl _ _ hv))
theorem SR.loadCells {a a' : Addr} {r : Env} (n : Nat) (h : AR r a a') : SR P AVs (Go.loadCells a n) (Go.loadCells a' n) r := SR.loadCellsFrom n 0 #[] #[] r h rfl
theorem SR.storeCells {a a' : Addr} : ∀ (l l' : List Value) (i : Nat) (r : Env), AR r a a' → VRs r l l' → SR P (fun _ _ _ => True) (Go.storeCells a l i) (Go.storeCells a' l' i) r
  | [], l', i, r, h, hv => by cases hv; exact SR.p trivial
  | v :: s, l', i, r, h, ⟨v', s', h1, h2, h3⟩ => by
    subst h3
    unfold Go.storeCells
    refine SR.b (Q := fun _ _ _ => True) ⟨rfl, h.add i, h1, trivial⟩ fun r' _ _ hl _ => ?_
    exact SR.storeCells s s' (i + 1) r' (h.mono hl) (VRs.mono hl _ _ h2)
theorem VR.agg {r : Env} {a a' : Array Value} (h : AVs r a a') : VR r (.agg a) (.agg a') := by
  obtain ⟨a⟩ := a
  obtain ⟨a'⟩ := a'
  simp only [VRe]
  exact ⟨a', h, rfl⟩
theorem SR.loadVar {a a' : Addr} {r : Env} (t : TypeId) (h : AR r a a') : SR P VR (Go.loadVar t a) (Go.loadVar t a') r := by
  unfold Go.loadVar
  refine SR.b (SR.isAgg t) fun r1 x x' l1 e => ?_
  cases e
  split
  · refine SR.b (SR.sizeOf t) fun r2 n n' l2 e => ?_
    cases e
    refine SR.b (SR.loadCells n (h.mono (l1.trans l2))) fun r3 c c' l3 hc => ?_
    exact SR.p (VR.agg hc)
  · exact SR.load (h.mono l1)
theorem VRs.cells {r : Env} : ∀ (v v' : Value), VR r v v' → VRs r v.cells.toList v'.cells.toList := by
  intro v v' h
  have one : ∀ {x x' : Value}, VR r x x' → VRs r [x] [x'] := fun h => ⟨_, [], h, rfl, rfl⟩
  cases v with
  | agg cs =>
    obtain ⟨cs⟩ := cs
    simp only [VRe] at h
    obtain ⟨cs', h, rfl⟩ := h
    exact h
  | pointer a => cases a with
    | none => cases h; exact one rfl
    | some a => have h' := h; obtain ⟨c, _, rfl⟩ := h; exact one h'
  | slice a _ _ => cases a with
    | none => cases h; exact one rfl
    | some a => have h' := h; obtain ⟨b, c, a', _, _, _, _, _, rfl⟩ := h; exact one h'
  | map a => cases a with
    | none => cases h; exact one rfl
    | some a => have h' := h; obtain ⟨c, _, rfl⟩ := h; exact one h'
  | chan a => cases a with
    | none => cases h; exact one rfl
    | some a => cases h
  | func fn f c => obtain ⟨f⟩ := f; obtain ⟨c⟩ := c; have h' := h; simp only [VRe] at h; obtain ⟨_, _, _, _, rfl⟩ := h; exact one h'
  | iface t x => have h' := h; obtain ⟨_, _, rfl⟩ := h; exact one h'
  | tuple cs => obtain ⟨cs⟩ := cs; have h' := h; simp only [VRe] at h; obtain ⟨_, _, rfl⟩ := h; exact one h'
  | _ => cases h; exact one rfl
theorem SR.storeVar {a a' : Addr} {r : Env} (t : TypeId) {v v' : Value} (h : AR r a a') (hv : VR r v v') : SR P (fun _ _ _ => True) (Go.storeVar t a v) (Go.storeVar t a' v') r := by
  unfold Go.storeVar
  refine SR.b (SR.sizeOf t) fun r1 x x' l1 e => ?_
  cases e
  have hc := VRs.cells v v' hv
  have hn : v'.cells.size = v.cells.size := by simpa using VRs.length hc
  rw [hn]
  dsimp only
  split
  · exact SR.stuck _ _
  · exact SR.storeCells _ _ 0 r1 (h.mono l1) (VRs.mono l1 _ _ hc)
theorem SR.newVar {r : Env} (t : TypeId) {v v' : Value} (hv : VR r v v') : SR P AR (Go.newVar t v) (Go.newVar t v') r := by
  have hc := VRs.cells v v' hv
  refine ⟨?_, fun r' b b' _ hb => ⟨b', hb, rfl⟩⟩
  show OR r (.cells v.cells t) (.cells v'.cells t)
  rw [show v.cells = ⟨v.cells.toList⟩ from rfl]
  simp only [OR]
  exact ⟨trivial, v'.cells.toList, [], hc, by simp⟩
end
end Go.Proofs.YtekhnmfmdkfidaaGreat.EX
/- Operations on operands without blocks: they do the same by themselves. -/
namespace Go.Proofs.YtekhnmfmdkfidaaGreat.EX
open Go
section
variable {P : Program}
/-- A tree that asks for nothing but the program. -/
def runP (P : Program) {α : Type} : Sem α → Option α
  | .pure a => some a
  | .program k => runP P (k P)
  | .mark _ k => runP P k
  | .choose q k => if q.forced then runP P (k 0) else none
  | _ => none
theorem run_runP {α : Type} : ∀ (s : Sem α) (x : α), runP P s = some x → ∀ w, s.run P w = .ok x w := by
  intro s
  induction s with
  | pure a => intro x h w; cases h; rfl
  | program k ih => intro x h w; exact ih _ x h w
  | mark m k ih => intro x h w; exact ih x h w
  | choose q k ih =>
    intro x h w
    simp only [runP] at h
    split at h
    · rename_i hf
      simp only [Sem.run, hf, if_true]
      exact ih _ x h w
    · cases h
  | _ => intro x h w; cases h
/-- A value without blocks. -/
def closed : Nat → Value → Bool
  | 0, _ => false
  | _ + 1, .bool _ | _ + 1, .int .. | _ + 1, .float .. | _ + 1, .complex .. | _ + 1, .string _ | _ + 1, .pointer none | _ + 1, .slice none _ _ | _ + 1, .map none | _ + 1, .chan none | _ + 1, .nilFunc | _ + 1, .nilIface => true
  | n + 1, .func _ f c => f.toList.all (closed n) && c.toList.all (closed n)
  | n + 1, .iface _ x => closed n x
  | n + 1, .agg cs => cs.toList.all (closed n)
  | n + 1, .tuple cs => cs.toList.all (closed n)
  | _ + 1, _ => false
theorem VRs.closed {r : Env} : ∀ (l l' : List Value), (∀ x ∈ l, ∀ v, VR r x v ↔ v = x) → (VRs r l l' ↔ l' = l)
  | [], l', _ => .rfl
  | x :: s, l', h => by
    have ih := fun s' => VRs.closed s s' (fun y hy => h y (by simp [hy]))
    constructor
    · rintro ⟨x', s', h1, h2, h3⟩
      rw [h3, (h x (by simp) x').1 h1, (ih s').1 h2]
    · intro e
      exact ⟨x, s, (h x (by simp) x).2 rfl, (ih s).2 rfl, e⟩
theorem VR.closed {r : Env} : ∀ (n : Nat) (v v' : Value), EX.closed n v = true → (VR r v v' ↔ v' = v) := by
  intro n
  induction n with
  | zero => intro v v' h; cases h
  | succ n ih =>
    intro v v' h
    have rows : ∀ (l l' : List Value), l.all (EX.closed n) = true → (VRs r l l' ↔ l' = l) := fun l l' hl => VRs.closed l l' fun x hx v => ih x v (List.all_eq_true.1 hl x hx)
    cases v with
    | pointer a => cases a with
      | none => exact .rfl
      | some a => cases h
    | slice a _ _ => cases a with
      | none => exact .rfl
      | some a => cases h
    | map a => cases a with
      | none => exact .rfl
      | some a => cases h
    | chan a => cases a with
      | none => exact .rfl
      | some a => cases h
    | func fn f c =>
      obtain ⟨f⟩ := f
      obtain ⟨c⟩ := c
      simp only [EX.closed, Bool.and_eq_true] at h
      simp only [VRe]
      constructor
      · rintro ⟨f', c', h1, h2, rfl⟩
        rw [(rows _ _ h.1).1 h1, (rows _ _ h.2).1 h2]
      · rintro rfl
        exact ⟨f, c, (rows _ _ h.1).2 rfl, (rows _ _ h.2).2 rfl, rfl⟩
    | iface t x =>
      simp only [EX.closed] at h
      simp only [VRe]
      constructor
      · rintro ⟨x', h1, rfl⟩
        rw [(ih _ _ h).1 h1]
      · rintro rfl
        exact ⟨x, (ih _ _ h).2 rfl, rfl⟩
    | agg cs =>
      obtain ⟨cs⟩ := cs
      simp only [EX.closed] at h
      simp only [VRe]
      constructor
      · rintro ⟨x', h1, rfl⟩
        rw [(rows _ _ h).1 h1]
      · rintro rfl
        exact ⟨cs, (rows _ _ h).2 rfl, rfl⟩
    | tuple cs =>
      obtain ⟨cs⟩ := cs
      simp only [EX.closed] at h
      simp only [VRe]
      constructor
      · rintro ⟨x', h1, rfl⟩
        rw [(rows _ _ h).1 h1]
      · rintro rfl
        exact ⟨cs, (rows _ _ h).2 rfl, rfl⟩
    | _ => exact .rfl

/-- Deferred calls of function values, alike. -/
def DfR (r : Env) (d d' : Deferred) : Prop :=
  match d with
  | ⟨.fn (.func g) cap, args⟩ => ∃ cap' args', VRs r cap.toList cap'.toList ∧ VRs r args.toList args'.toList ∧ d' = ⟨.fn (.func g) cap', args'⟩
  | _ => False
/-- What an operation comes to, alike. -/
def NR (r : Env) : Next → Next → Prop
  | .value v, n => ∃ v', VR r v v' ∧ n = .value v'
  | .skip, n => n = .skip
  | .enter f args, n => ∃ args', AVs r args args' ∧ n = .enter f args'
  | .defer d, n => ∃ d', DfR r d d' ∧ n = .defer d'
  | _, _ => False
theorem SR.mono {α : Type} {Q R : Env → α → α → Prop} (s s' : Sem α) (r : Env) (h : SR P Q s s' r) (k : ∀ r a a', Q r a a' → R r a a') : SR P R s s' r := by
  have := SR.bind (f := Sem.pure) (f' := Sem.pure) s s' r h fun r' a a' _ hq => (show SR P R (.pure a) (.pure a') r' from k _ _ _ hq)
  have e : ∀ s : Sem α, s.bind Sem.pure = s := by
    intro s
    induction s with
    | pure a => rfl
    | load m a k ih => simp only [Sem.bind]; congr 1; funext x; exact ih x
    | store m a v k ih => simp only [Sem.bind]; congr 1
    | new o k ih => simp only [Sem.bind]; congr 1; funext x; exact ih x
    | shape x k ih => simp only [Sem.bind]; congr 1; funext x; exact ih x
    | freeze a n k ih => simp only [Sem.bind]; congr 1
    | frozen a k ih => simp only [Sem.bind]; congr 1; funext x; exact ih x
    | getObj b k ih => simp only [Sem.bind]; congr 1; funext x; exact ih x
    | setObj b o k ih => simp only [Sem.bind]; congr 1
    | choose q k ih => simp only [Sem.bind]; congr 1; funext x; exact ih x
    | sys c k ih => simp only [Sem.bind]; congr 1; funext x; exact ih x
    | program k ih => simp only [Sem.bind]; congr 1; funext x; exact ih x
    | mark m k ih => simp only [Sem.bind]; congr 1
    | halt h => rfl
  rwa [e, e] at this
/-- An operation that yields a value. -/
theorem SR.v {r : Env} {s s' : Sem Value} (h : SR P VR s s' r) : SR P NR (do pure (.value (← s))) (do pure (.value (← s'))) r :=
  SR.b h fun _r' _a a' _ hq => SR.p ⟨a', hq, rfl⟩
theorem SR.u {r : Env} {Q : Env → Unit → Unit → Prop} {s s' : Sem Unit} (h : SR P Q s s' r) : SR P NR (do s; pure .skip) (do s'; pure .skip) r :=
  SR.b h fun _r' _a _a' _ _hq => SR.p rfl
theorem SR.sureAddr {r : Env} {v v' : Value} (h : VR r v v') : SR P AR (Instr.sureAddr v) (Instr.sureAddr v') r := by
  cases v with
  | pointer a => cases a with
    | none => exact SR.stuck _ _
    | some a => obtain ⟨c, h1, rfl⟩ := h; exact SR.p ⟨c, h1, rfl⟩
  | _ => exact SR.stuck _ _
theorem SR.loadAt {r : Env} (t : TypeId) {v v' : Value} (h : VR r v v') : SR P VR (Instr.loadAt t v) (Instr.loadAt t v') r :=
  SR.b (SR.sureAddr h) fun _ _ _ _ ha => SR.loadVar t ha
theorem SR.storeAt {r : Env} (t : TypeId) {v v' x x' : Value} (h : VR r v v') (hx : VR r x x') : SR P (fun _ _ _ => True) (Instr.storeAt t v x) (Instr.storeAt t v' x') r :=
  SR.b (SR.sureAddr h) fun _ _ _ hl ha => SR.storeVar t ha (hx.mono hl)
theorem AR.ptr {r : Env} {a a' : Addr} (h : AR r a a') : VR r (.pointer (some a)) (.pointer (some a')) := by
  obtain ⟨c, hc, rfl⟩ := h
  exact ⟨c, hc, rfl⟩
theorem SR.box {r : Env} (t : TypeId) {v v' : Value} (h : VR r v v') : SR P VR (Instr.box t v) (Instr.box t v') r :=
  SR.b (SR.newVar t h) fun _ _ _ _ ha => SR.p ha.ptr
theorem SR.asIntOf {r : Env} {v v' : Value} (h : VR r v v') : SR P Eqq (asIntOf v) (asIntOf v') r := by
  cases v with
  | int k n => cases h; exact SR.p rfl
  | pointer a => cases a with
    | none => exact SR.stuck _ _
    | some a => exact SR.unsup _ _
  | _ => exact SR.stuck _ _
theorem SR.partAt {r : Env} {a a' : Addr} (x y : Nat) (h : AR r a a') : SR P AR (partAt a x y) (partAt a' x y) r := by
  obtain ⟨c, hc, rfl⟩ := h
  obtain ⟨b, o, s⟩ := a
  cases s <;> trivial
theorem SR.fieldPlace {r : Env} {a a' : Addr} (f : Field) (h : AR r a a') : SR P AR (fieldPlace a f) (fieldPlace a' f) r := by
  unfold Go.fieldPlace
  refine SR.b (SR.sizeOf _) fun r1 n n' l1 e => ?_
  cases e
  split
  · exact SR.partAt _ _ (h.mono l1)
  · exact SR.p ((h.mono l1).add _)
theorem SR.fieldAt {r : Env} (t : TypeId) {v v' : Value} (f : Nat) (h : VR r v v') : SR P VR (Instr.fieldAt t v f) (Instr.fieldAt t v' f) r := by
  unfold Instr.fieldAt
  refine SR.b (SR.underlying t) fun r1 d d' l1 e => ?_
  cases e
  split
  · split
    · refine SR.b (SR.sureAddr (h.mono l1)) fun r2 a a' _ ha => ?_
      exact SR.b (SR.fieldPlace _ ha) fun _ _ _ _ hp => SR.p hp.ptr
    · exact SR.stuck _ _
  · exact SR.stuck _ _
theorem SR.boundsPanic {α : Type} {Q : Env → α → α → Prop} {r : Env} (k : IntKind) (x y : Int) (c : BoundsCode) : SR P Q (boundsPanic k x y c) (boundsPanic k x y c) r := by
  have key : ∀ (r : Env) (b : Bool), SR P Q (runtimePanic (.bounds (IntKind.i64.wrap x) y b c)) (runtimePanic (.bounds (IntKind.i64.wrap x) y b c)) r := fun r b => by
    exact (VR.closed (r := r) 3 (Value.iface P.rt.boundsError (.agg #[.int .i64 (IntKind.i64.wrap x), .int .i64 y, .bool b, .int .u8 c.toNat])) (Value.iface P.rt.boundsError (.agg #[.int .i64 (IntKind.i64.wrap x), .int .i64 y, .bool b, .int .u8 c.toNat])) rfl).2 rfl
  unfold Go.boundsPanic
  dsimp only
  split
  · refine SR.b (Q := Eqq) ⟨rfl, fun hf => ?_⟩ fun r1 s s' _ e => ?_
    · cases hf
    · cases e
      exact key _ _
  · exact key _ _
/-- Where there may be none. -/
def OA (r : Env) : Option Addr → Option Addr → Prop
  | none, none => True
  | some a, some b => AR r a b
  | _, _ => False
theorem OA.mono {r r' : Env} (hl : Le r r') : ∀ {a b : Option Addr}, OA r a b → OA r' a b
  | none, none, _ => trivial
  | some _, some _, h => AR.mono hl h
theorem SR.indexAt {r : Env} (t : TypeId) {x x' i i' : Value} (h : VR r x x') (hi : VR r i i') : SR P VR (Instr.indexAt t x i) (Instr.indexAt t x' i') r := by
  unfold Instr.indexAt
  refine SR.b (SR.asIntOf hi) fun r1 k k' l1 e => ?_
  cases e
  obtain ⟨k, i⟩ := k
  dsimp only
  refine SR.b (SR.underlying t) fun r2 d d' l2 e => ?_
  cases e
  have h2 := h.mono (l1.trans l2)
  have tail : ∀ (why : Unsupported) (b b' : Option Addr) (n : Nat) (el : TypeId) (r3 : Env), (OA r3 b b' ∨ (n = 0 ∧ b.isSome ∧ b'.isSome)) → SR P VR
      (do let u ← Go.underlying t
          match b with
          | some a => if 0 ≤ i ∧ i < n then do pure (.pointer (some (a.add (i.toNat * (← Go.sizeOf el))))) else if (decide (n ≤ 1) && (match u with | .array .. => true | _ => false)) = true then unsupported why else Go.boundsPanic k i n .index
          | none => Go.boundsPanic k i 0 .index)
      (do let u ← Go.underlying t
          match b' with
          | some a => if 0 ≤ i ∧ i < n then do pure (.pointer (some (a.add (i.toNat * (← Go.sizeOf el))))) else if (decide (n ≤ 1) && (match u with | .array .. => true | _ => false)) = true then unsupported why else Go.boundsPanic k i n .index
          | none => Go.boundsPanic k i 0 .index) r3 := by
    intro why b b' n el r3 hb
    refine SR.b (SR.underlying t) fun r4 d d' l4 e => ?_
    cases e
    cases b with
    | none => cases b' with
      | none => exact SR.boundsPanic _ _ _ _
      | some _ => rcases hb with hb | hb; · exact hb.elim
                  · cases hb.2.1
    | some a => cases b' with
      | none => rcases hb with hb | hb; · exact hb.elim
                · cases hb.2.2
      | some a' =>
        dsimp only
        split
        · rename_i hin
          refine SR.b (SR.sizeOf _) fun r5 z z' l5 e => ?_
          cases e
          rcases hb with hb | hb
          · exact SR.p ((AR.mono (l4.trans l5) hb).add _).ptr
          · exfalso; omega
        · generalize (decide (n ≤ 1) && _) = q
          cases q
          · exact SR.boundsPanic _ _ _ _
          · exact SR.unsup _ _
  cases d with
  | array len el =>
    dsimp only
    exact SR.b (SR.sureAddr h2) fun r3 a a' l3 ha => tail _ (some a) (some a') len el r3 (.inl ha)
  | slice el =>
    cases x with
    | slice b n c =>
      cases b with
      | none => cases h2; exact tail .addressObserved none none n el r2 (.inl trivial)
      | some a =>
        obtain ⟨c1, c2, a', h3, h4, h5, h6, h7, rfl⟩ := h2
        refine tail _ (some a) (some a') n el r2 ?_
        rcases h7 with h7 | h7
        · exact .inr ⟨h7.1, rfl, rfl⟩
        · exact .inl (show AR r2 a _ from ⟨c1, h3, h7⟩)
    | _ => exact SR.stuck _ _
  | _ => exact SR.stuck _ _
end
end Go.Proofs.YtekhnmfmdkfidaaGreat.EX
/- More operations: parts, fields, slices, what is made. -/
namespace Go.Proofs.YtekhnmfmdkfidaaGreat.EX
open Go
section
variable {P : Program}
/-- No function has the name that the model answers itself. -/
def NG (P : Program) : Prop := ∀ (f : FuncId) (fn : Func), P.funcs[f]? = some fn → (fn.name == "runtime.NumGoroutine") = false
/-- No zero value bears blocks. -/
def Zc (P : Program) : Prop := (∀ t i v, P.info? t = some i → i.zero = some v → closed 64 v = true) ∧ NG P
theorem VRs.drop {r : Env} : ∀ (n : Nat) {l l' : List Value}, VRs r l l' → VRs r (l.drop n) (l'.drop n)
  | 0, l, l', h => by simpa using h
  | n + 1, [], l', h => by cases h; simp [VRs]
  | n + 1, x :: s, l', ⟨x', s', h1, h2, h3⟩ => by subst h3; simpa using VRs.drop n h2
theorem VRs.take {r : Env} : ∀ (n : Nat) {l l' : List Value}, VRs r l l' → VRs r (l.take n) (l'.take n)
  | 0, l, l', h => by simp [VRs]
  | n + 1, [], l', h => by cases h; simp [VRs]
  | n + 1, x :: s, l', ⟨x', s', h1, h2, h3⟩ => by subst h3; simp only [List.take_succ_cons]; exact ⟨x', s'.take n, h1, VRs.take n h2, rfl⟩
theorem VRs.append {r : Env} : ∀ {l l' m m' : List Value}, VRs r l l' → VRs r m m' → VRs r (l ++ m) (l' ++ m')
  | [], l', m, m', h, k => by cases h; exact k
  | x :: s, l', m, m', ⟨x', s', h1, h2, h3⟩, k => by subst h3; exact ⟨x', s' ++ m', h1, VRs.append h2 k, rfl⟩
theorem AVs.extract {r : Env} {a a' : Array Value} (h : AVs r a a') (i j : Nat) : AVs r (a.extract i j) (a'.extract i j) := by
  unfold AVs at *
  simp only [Array.toList_extract, List.extract_eq_take_drop]
  exact VRs.take _ (VRs.drop _ h)
theorem AVs.mono {r r' : Env} (hl : Le r r') {a a' : Array Value} (h : AVs r a a') : AVs r' a a' := VRs.mono hl _ _ h
theorem SR.asAgg {r : Env} {v v' : Value} (h : VR r v v') : SR P AVs (asAgg v) (asAgg v') r := by
  cases v with
  | agg cs => obtain ⟨cs⟩ := cs; simp only [VRe] at h; obtain ⟨cs', h, rfl⟩ := h; exact SR.p h
  | _ => exact SR.stuck _ _
theorem SR.part {r : Env} (t : TypeId) {a a' : Array Value} (off : Nat) (h : AVs r a a') : SR P VR (part t a off) (part t a' off) r := by
  unfold Go.part
  refine SR.b (SR.isAgg t) fun r1 x x' l1 e => ?_
  cases e
  split
  · refine SR.b (SR.sizeOf t) fun r2 n n' l2 e => ?_
    cases e
    exact SR.p (VR.agg ((h.mono (l1.trans l2)).extract _ _))
  · cases he : a[off]? with
    | none => exact SR.stuck _ _
    | some v =>
      obtain ⟨v', hv', hr⟩ := VRs.get? h (i := off) (v := v) (by simpa using he)
      have : a'[off]? = some v' := by simpa using hv'
      rw [this]
      exact SR.p (hr.mono l1)
theorem SR.field {r : Env} (t : TypeId) {v v' : Value} (f : Nat) (h : VR r v v') : SR P VR (Instr.field t v f) (Instr.field t v' f) r := by
  unfold Instr.field
  refine SR.b (SR.underlying t) fun r1 d d' l1 e => ?_
  cases e
  cases d with
  | struct fields =>
    dsimp only
    cases fields[f]? with
    | none => exact SR.stuck _ _
    | some f => exact SR.b (SR.asAgg (h.mono l1)) fun r2 a a' _ ha => SR.part _ _ ha
  | _ => exact SR.stuck _ _
theorem SR.extract {r : Env} {v v' : Value} (i : Nat) (h : VR r v v') : SR P VR (Instr.extract v i) (Instr.extract v' i) r := by
  cases v with
  | tuple cs =>
    obtain ⟨cs⟩ := cs
    simp only [VRe] at h
    obtain ⟨cs', h, rfl⟩ := h
    unfold Instr.extract
    dsimp only
    cases he : cs[i]? with
    | none => 
      have : (⟨cs⟩ : Array Value)[i]? = none := by simpa using he
      rw [this]; exact SR.stuck _ _
    | some x =>
      obtain ⟨x', hx', hr⟩ := VRs.get? h he
      have e1 : (⟨cs⟩ : Array Value)[i]? = some x := by simpa using he
      have e2 : (⟨cs'⟩ : Array Value)[i]? = some x' := by simpa using hx'
      rw [e1, e2]
      exact SR.p hr
  | _ => exact SR.stuck _ _
theorem SR.zeroValue {r : Env} (hz : Zc P) (t : TypeId) : SR P (fun r a b => a = b ∧ VR r a b) (zeroValue t) (zeroValue t) r := by
  unfold Go.zeroValue Go.typeInfo
  show SR P _ ((match P.info? t with | some i => pure i | none => Go.stuck _ : Sem TypeInfo) >>= _) ((match P.info? t with | some i => pure i | none => Go.stuck _ : Sem TypeInfo) >>= _) r
  cases hi : P.info? t with
  | none => exact SR.stuck _ _
  | some i =>
    show SR P _ (match i.zero with | some v => pure v | none => _) (match i.zero with | some v => pure v | none => _) r
    cases hv : i.zero with
    | none => exact SR.unsup _ _
    | some v => exact SR.p ⟨rfl, (VR.closed 64 v v (hz.1 t i v hi hv)).2 rfl⟩
theorem SR.alloc {r : Env} (hz : Zc P) (t : TypeId) : SR P VR (Instr.alloc t true (.tuple #[])) (Instr.alloc t true (.tuple #[])) r := by
  unfold Instr.alloc
  refine SR.b (SR.zeroValue hz t) fun r1 z z' l1 e => ?_
  exact SR.b (SR.newVar t e.2) fun _ _ _ _ ha => SR.p ha.ptr
theorem SR.newRow {r : Env} (t : TypeId) {a a' : Array Value} (h : AVs r a a') : SR P AR (newRow t a) (newRow t a') r := by
  refine ⟨?_, fun r' b b' _ hb => ⟨b', hb, rfl⟩⟩
  show OR r (.cells a t) (.cells a' t)
  rw [show a = ⟨a.toList⟩ from rfl]
  simp only [OR]
  exact ⟨trivial, a'.toList, [], h, by simp⟩
theorem SR.makeFunc {r : Env} (fn : Fn) {f f' c c' : Array Value} (hf : AVs r f f') (hc : AVs r c c') : SR P VR (Instr.makeFunc fn f c) (Instr.makeFunc fn f' c') r := by
  refine SR.p ?_
  obtain ⟨f⟩ := f; obtain ⟨c⟩ := c; obtain ⟨f'⟩ := f'; obtain ⟨c'⟩ := c'
  simp only [VRe]
  exact ⟨f', c', hf, hc, rfl⟩
theorem SR.makeInterface {r : Env} (t : TypeId) {v v' : Value} (h : VR r v v') : SR P VR (Instr.makeInterface t v) (Instr.makeInterface t v') r := by
  unfold Instr.makeInterface
  refine SR.b (SR.underlying t) fun r1 d d' l1 e => ?_
  cases e
  split
  · exact SR.stuck _ _
  · refine SR.p ?_
    simp only [VRe]
    exact ⟨v', h.mono l1, rfl⟩
theorem SR.makeMap {r : Env} (t : TypeId) : SR P VR (Instr.makeMap t none) (Instr.makeMap t none) r := by
  refine ⟨?_, fun r' b b' _ hb => ⟨b', hb, rfl⟩⟩
  show OR r (.map #[] 0) (.map #[] 0)
  exact ⟨[], rfl, rfl⟩
theorem SR.sliceBound {r : Env} {v v' : Value} (y : Nat) (c : BoundsCode) (h : VR r v v') : SR P Eqq (Instr.sliceBound v y c) (Instr.sliceBound v' y c) r := by
  unfold Instr.sliceBound
  refine SR.b (SR.asIntOf h) fun r1 k k' l1 e => ?_
  cases e
  dsimp only
  split
  · exact SR.p rfl
  · exact SR.boundsPanic _ _ _ _
end
end Go.Proofs.YtekhnmfmdkfidaaGreat.EX
/- Slices, rows that are made, lengths, copies. -/
namespace Go.Proofs.YtekhnmfmdkfidaaGreat.EX
open Go
section
variable {P : Program}
def OV (r : Env) : Option Value → Option Value → Prop
  | none, none => True
  | some a, some b => VR r a b
  | _, _ => False
theorem OV.mono {r r' : Env} (hl : Le r r') : ∀ {a b : Option Value}, OV r a b → OV r' a b
  | none, none, _ => trivial
  | some _, some _, h => VR.mono hl _ _ h
/-- A bound that lies within what is known of a capacity. -/
def capOK (cap : Nat) : Option Value → Bool
  | some (.int _ i) => decide (0 ≤ i) && decide (i ≤ cap)
  | _ => true
/-- A bound: the same, and within. -/
def BQ (y : Nat) : Env → Nat → Nat → Prop := fun _ a b => a = b ∧ a ≤ y
theorem SR.sliceBoundQ {r : Env} {v v' : Value} (y : Nat) (c : BoundsCode) (h : VR r v v') : SR P (BQ y) (Instr.sliceBound v y c) (Instr.sliceBound v' y c) r := by
  unfold Instr.sliceBound
  refine SR.b (SR.asIntOf h) fun r1 k k' l1 e => ?_
  cases e
  dsimp only
  split
  · exact SR.p ⟨rfl, by omega⟩
  · exact SR.boundsPanic _ _ _ _
theorem SR.sliceBoundLe {r : Env} {v v' : Value} (y y' : Nat) (hy : y ≤ y') (c : BoundsCode) (hk : capOK y (some v) = true) (h : VR r v v') : SR P (BQ y) (Instr.sliceBound v y c) (Instr.sliceBound v' y' c) r := by
  unfold Instr.sliceBound
  cases v with
  | int k i =>
    cases h
    simp only [capOK, Bool.and_eq_true, decide_eq_true_eq] at hk
    show SR P (BQ y) (if 0 ≤ i ∧ i ≤ (y : Int) then pure i.toNat else Go.boundsPanic k i y c) (if 0 ≤ i ∧ i ≤ (y' : Int) then pure i.toNat else Go.boundsPanic k i y' c) r
    rw [if_pos hk, if_pos ⟨hk.1, by omega⟩]
    exact SR.p ⟨rfl, by omega⟩
  | pointer a => cases a with
    | none => exact SR.stuck _ _
    | some a => exact SR.unsup _ _
  | _ => exact SR.stuck _ _
/-- Bounds alike: the low and the high one are the same, the last is a lower bound. -/
def BR : Env → Nat × Nat × Nat → Nat × Nat × Nat → Prop := fun _ p q => p.1 = q.1 ∧ p.2.1 = q.2.1 ∧ p.2.2 ≤ q.2.2 ∧ p.2.1 ≤ p.2.2
theorem SR.sliceBounds {r : Env} (b : Bool) (n : Nat) {cap cap' : Nat} (hn : n ≤ cap) (hc : cap ≤ cap') {lo lo' hi hi' mx mx' : Option Value} (hlo : OV r lo lo') (hhi : OV r hi hi') (hmx : OV r mx mx') (hk : capOK cap (if mx.isSome then mx else hi) = true) :
    SR P (fun r p q => BR r p q ∧ (cap' = cap → p = q) ∧ p.1 ≤ p.2.1 ∧ p.2.2 ≤ cap ∧ (p.2.2 = q.2.2 ∨ (p.2.2 = cap ∧ q.2.2 = cap'))) (Instr.sliceBounds b n cap lo hi mx) (Instr.sliceBounds b n cap' lo' hi' mx') r := by
  unfold Instr.sliceBounds
  have low : ∀ (sm : Bool) (r1 : Env), Le r r1 → ∀ (m m' h : Nat), h ≤ m → m ≤ cap → m ≤ m' → (m = m' ∨ (m = cap ∧ m' = cap')) → SR P (fun r p q => BR r p q ∧ (cap' = cap → p = q) ∧ p.1 ≤ p.2.1 ∧ p.2.2 ≤ cap ∧ (p.2.2 = q.2.2 ∨ (p.2.2 = cap ∧ q.2.2 = cap')))
      (match (generalizing := false) lo with | some v => (do let l ← Instr.sliceBound v h (if sm = true then .slice3C else .sliceB); pure (l, h, m)) | none => (do let l ← pure 0; pure (l, h, m)))
      (match (generalizing := false) lo' with | some v => (do let l ← Instr.sliceBound v h (if sm = true then .slice3C else .sliceB); pure (l, h, m')) | none => (do let l ← pure 0; pure (l, h, m'))) r1 := by
    intro sm r1 l1 m m' h hh hmc hm he0
    have he : cap' = cap → m = m' := fun e => he0.elim id fun q => by rw [q.1, q.2, e]
    cases lo with
    | none => cases lo' with
      | none => exact SR.p ⟨⟨rfl, rfl, hm, hh⟩, fun e => by rw [he e], Nat.zero_le _, hmc, he0⟩
      | some _ => exact hlo.elim
    | some v => cases lo' with
      | none => exact hlo.elim
      | some v' =>
        refine SR.b (SR.sliceBoundQ h _ (VR.mono l1 _ _ hlo)) fun r2 l l' l2 e => ?_
        obtain ⟨rfl, e⟩ := e
        exact SR.p ⟨⟨rfl, rfl, hm, hh⟩, fun e => by rw [he e], e, hmc, he0⟩
  cases mx with
  | none => cases mx' with
    | some _ => exact hmx.elim
    | none =>
      cases hi with
      | none => cases hi' with
        | some _ => exact hhi.elim
        | none => exact low false r (Le.refl r) cap cap' n hn (Nat.le_refl _) hc (.inr ⟨rfl, rfl⟩)
      | some v => cases hi' with
        | none => exact hhi.elim
        | some v' =>
          refine SR.b (Q := fun _ m m' => m = cap ∧ m' = cap') (SR.p ⟨rfl, rfl⟩) fun r0 m m' l0 e => ?_
          obtain ⟨rfl, rfl⟩ := e
          refine SR.b (SR.sliceBoundLe m m' hc _ (by simpa using hk) (VR.mono l0 _ _ hhi)) fun r2 h h' l2 e => ?_
          obtain ⟨rfl, e⟩ := e
          exact low false r2 (l0.trans l2) m m' h e (Nat.le_refl _) hc (.inr ⟨rfl, rfl⟩)
  | some m => cases mx' with
    | none => exact hmx.elim
    | some m' =>
      refine SR.b (SR.sliceBoundLe cap cap' hc _ (by simpa using hk) hmx) fun r2 x x' l2 e => ?_
      obtain ⟨rfl, ex⟩ := e
      cases hi with
      | none => cases hi' with
        | some _ => exact hhi.elim
        | none => exact SR.stuck _ _
      | some v => cases hi' with
        | none => exact hhi.elim
        | some v' =>
          refine SR.b (SR.sliceBoundQ x _ (VR.mono l2 _ _ hhi)) fun r3 h h' l3 e => ?_
          obtain ⟨rfl, e⟩ := e
          exact low true r3 (l2.trans l3) x x h e ex (Nat.le_refl _) (.inl rfl)
/-- What a slice operation's bounds must lie within. -/
def sizePos (P : Program) (t : TypeId) : Bool :=
  match P.underlying t with
  | some (.slice el) => match P.info? el with
    | some i => decide (0 < i.size)
    | none => false
  | _ => true
def evenB : Value → Bool
  | .slice (some a) _ _ => Nat.beq (a.block % 2) 0
  | _ => true
def sliceOK (P : Program) (t : TypeId) (x : Value) (hi mx : Option Value) : Bool :=
  (evenB x || sizePos P t) && match x with
  | .slice _ n cap => decide (n ≤ cap) && capOK cap (if mx.isSome then mx else hi)
  | _ => true
theorem SR.underlyingQ {r : Env} (t : TypeId) : SR P (fun _ a b => a = b ∧ P.underlying t = some a) (Go.underlying t) (Go.underlying t) r := by
  unfold Go.underlying
  show SR P _ (match P.underlying t with | some d => (pure d : Sem TypeDesc) | none => Go.stuck "no such type") (match P.underlying t with | some d => (pure d : Sem TypeDesc) | none => Go.stuck "no such type") r
  cases P.underlying t with
  | none => exact SR.stuck _ _
  | some d => exact SR.p ⟨rfl, rfl⟩
theorem SR.sizeOfQ {r : Env} (t : TypeId) : SR P (fun _ a b => a = b ∧ ∀ i, P.info? t = some i → a = i.size) (Go.sizeOf t) (Go.sizeOf t) r := by
  unfold Go.sizeOf Go.typeInfo
  show SR P _ ((match P.info? t with | some d => (pure d : Sem TypeInfo) | none => Go.stuck "no such type").bind fun i => pure i.size) ((match P.info? t with | some d => (pure d : Sem TypeInfo) | none => Go.stuck "no such type").bind fun i => pure i.size) r
  cases P.info? t with
  | none => exact SR.stuck _ _
  | some d => exact SR.p ⟨rfl, fun i e => by cases e; rfl⟩
theorem SR.boundsEq {r : Env} (b : Bool) (n cap : Nat) {lo lo' hi hi' mx mx' : Option Value} (hlo : OV r lo lo') (hhi : OV r hi hi') (hmx : OV r mx mx') : SR P Eqq (Instr.sliceBounds b n cap lo hi mx) (Instr.sliceBounds b n cap lo' hi' mx') r := by
  unfold Instr.sliceBounds
  have one : ∀ (r1 : Env), Le r r1 → ∀ {u u' : Option Value}, OV r u u' → ∀ (y : Nat) (c : BoundsCode) (v v' : Value), u = some v → u' = some v' → SR P Eqq (Instr.sliceBound v y c) (Instr.sliceBound v' y c) r1 := by
    intro r1 l1 u u' hu y c v v' e e'
    subst e e'
    exact SR.sliceBound _ _ (VR.mono l1 _ _ hu)
  have low : ∀ (sm : Bool) (r1 : Env), Le r r1 → ∀ (m h : Nat), SR P Eqq
      (match (generalizing := false) lo with | some v => (do let l ← Instr.sliceBound v h (if sm = true then .slice3C else .sliceB); pure (l, h, m)) | none => (do let l ← pure 0; pure (l, h, m)))
      (match (generalizing := false) lo' with | some v => (do let l ← Instr.sliceBound v h (if sm = true then .slice3C else .sliceB); pure (l, h, m)) | none => (do let l ← pure 0; pure (l, h, m))) r1 := by
    intro sm r1 l1 m h
    cases lo with
    | none => cases lo' with
      | none => exact SR.p rfl
      | some _ => exact hlo.elim
    | some v => cases lo' with
      | none => exact hlo.elim
      | some v' =>
        refine SR.b (one r1 l1 hlo h _ v v' rfl rfl) fun r2 l l' l2 e => ?_
        cases e
        exact SR.p rfl
  cases mx with
  | none => cases mx' with
    | some _ => exact hmx.elim
    | none =>
      cases hi with
      | none => cases hi' with
        | some _ => exact hhi.elim
        | none => exact low false r (Le.refl r) cap n
      | some v => cases hi' with
        | none => exact hhi.elim
        | some v' =>
          refine SR.b (Q := fun _ m m' => m = cap ∧ m' = cap) (SR.p ⟨rfl, rfl⟩) fun r0 m m' l0 e => ?_
          obtain ⟨rfl, rfl⟩ := e
          refine SR.b (one r0 l0 hhi _ _ v v' rfl rfl) fun r2 h h' l2 e => ?_
          cases e
          exact low false r2 (l0.trans l2) m' h
  | some m => cases mx' with
    | none => exact hmx.elim
    | some m' =>
      refine SR.b (one r (Le.refl r) hmx cap _ m m' rfl rfl) fun r2 x x' l2 e => ?_
      cases e
      cases hi with
      | none => cases hi' with
        | some _ => exact hhi.elim
        | none => exact SR.stuck _ _
      | some v => cases hi' with
        | none => exact hhi.elim
        | some v' =>
          refine SR.b (one r2 l2 hhi x _ v v' rfl rfl) fun r3 h h' l3 e => ?_
          cases e
          exact low true r3 (l2.trans l3) x h
theorem SR.slice {r : Env} (t : TypeId) {x x' : Value} {lo lo' hi hi' mx mx' : Option Value} (hx : VR r x x') (hlo : OV r lo lo') (hhi : OV r hi hi') (hmx : OV r mx mx') (hk : sliceOK P t x hi mx = true) :
    SR P VR (Instr.slice t x lo hi mx) (Instr.slice t x' lo' hi' mx') r := by
  have es : mx'.isSome = mx.isSome := by cases mx <;> cases mx' <;> first | rfl | exact hmx.elim
  unfold Instr.slice
  refine SR.b (SR.underlyingQ t) fun r1 d d' l1 e => ?_
  obtain ⟨e, hud⟩ := e
  cases e
  cases d with
  | string =>
    cases x with
    | string s =>
      cases hx
      dsimp only
      rw [es]
      split
      · exact SR.stuck _ _
      · refine SR.b (SR.boundsEq false s.size s.size (hlo.mono l1) (hhi.mono l1) (show OV r1 none none from trivial)) fun r2 p q l2 e => ?_
        cases e
        exact SR.p rfl
    | _ => exact SR.stuck _ _
  | slice el =>
    cases x with
    | slice b n cap =>
      cases b with
      | none =>
        cases hx
        refine SR.b (SR.boundsEq true n cap (hlo.mono l1) (hhi.mono l1) (hmx.mono l1)) fun r2 p q l2 e => ?_
        cases e
        obtain ⟨l, h, m⟩ := p
        refine SR.b (SR.sizeOf _) fun r3 z z' l3 e => ?_
        cases e
        refine SR.p ?_
        split <;> exact rfl
      | some a =>
        obtain ⟨c, cap', a', h1, h2, h3, h4, h5, rfl⟩ := hx
        simp only [sliceOK, Bool.and_eq_true, decide_eq_true_eq, Bool.or_eq_true] at hk
        obtain ⟨hk0, hk⟩ := hk
        refine SR.b (SR.sliceBounds true n hk.1 h3.1 (hlo.mono l1) (hhi.mono l1) (hmx.mono l1) hk.2) fun r2 p q l2 e => ?_
        obtain ⟨l, h, m⟩ := p
        obtain ⟨l', h', m'⟩ := q
        obtain ⟨⟨e1, e2, e3, e5⟩, e4, e6, e7, e8⟩ := e
        dsimp only at e1 e2 e3 e5 e6 e7 e8
        subst e1 e2
        refine SR.b (SR.sizeOfQ _) fun r3 z z' l3 e => ?_
        obtain ⟨e, hz⟩ := e
        cases e
        refine SR.p ?_
        have lle := l1.trans (l2.trans l3)
        have hadd : ∀ (q : Addr) (k : Nat), (q.add k).block = q.block := fun q k => by unfold Addr.add; split <;> rfl
        have hoff : ∀ (q : Addr) (k : Nat), (q.add k).off = 0 → q.off = 0 ∧ k = 0 := fun q k e => by
          unfold Addr.add at e
          split at e
          · rename_i h; exact ⟨e, h⟩
          · have e2 : q.off + k = 0 := e
            omega
        have heven : a.block % 2 = 0 → m' = m := fun e => by have := e4 (h2 e); simp only [Prod.mk.injEq] at this; exact this.2.2.symm
        by_cases em : m = l
        · rw [if_pos em]
          refine (VRe r3).2.2.2.2.2.2.2.2.1 _ _ _ _ |>.2 ⟨c, m' - l, (if m' = l then a' else a'.add (l * z)), lle _ _ h1, fun e => by rw [heven e], ⟨by omega, fun _ _ h => by omega⟩, ?_, ?_, ?_⟩
          · split
            · exact h4
            · rw [hadd]; exact h4
          · by_cases em' : m' = l
            · rw [if_pos em']
              rcases h5 with h5 | h5
              · exact .inl ⟨by omega, by omega⟩
              · exact .inr h5
            · exact .inl ⟨by omega, by omega⟩
          · split <;> rfl
        · rw [if_neg em, if_neg (by omega)]
          refine (VRe r3).2.2.2.2.2.2.2.2.1 _ _ _ _ |>.2 ⟨c, m' - l, a'.add (l * z), ?_, fun e => ?_, ⟨by omega, fun g1 g2 g3 => ?_⟩, by rw [hadd]; exact h4, ?_, rfl⟩
          · rw [hadd]; exact lle _ _ h1
          · rw [hadd] at e; rw [heven e]
          · rw [hadd] at g1 ⊢
            obtain ⟨o1, o2⟩ := hoff a (l * z) g2
            have hl0 : l = 0 := by
              rcases hk0 with hk0 | hk0
              · have := Nat.eq_of_beq_eq_true hk0
                omega
              · unfold sizePos at hk0
                rw [hud] at hk0
                dsimp only at hk0
                split at hk0
                · rename_i i hi
                  have h1 := hz i hi
                  have h2 : 0 < i.size := by simpa using hk0
                  rcases Nat.mul_eq_zero.1 o2 with h | h
                  · exact h
                  · omega
                · cases hk0
            subst hl0
            rcases e8 with e8 | ⟨e8, e9⟩
            · exact .inl (by omega)
            · rcases h3.2 g1 o1 (by omega) with q | ⟨X, k, q1, q2, q3, q4⟩
              · exact .inl (by omega)
              · refine .inr ⟨X, k, by omega, lle _ _ q2, lle _ _ q3, ?_⟩
                rw [Nat.sub_zero, e8]
                exact lle _ _ q4
          · rcases h5 with h5 | h5
            · exfalso; omega
            · right
              rw [h5]
              unfold Addr.add
              split <;> rfl
    | _ => exact SR.stuck _ _
  | pointer arr =>
    cases x with
    | pointer a =>
      cases a with
      | none =>
        cases hx
        exact (VR.closed (r := r1) 3 (Value.iface P.rt.errorString (strVal "invalid memory address or nil pointer dereference")) (Value.iface P.rt.errorString (strVal "invalid memory address or nil pointer dereference")) rfl).2 rfl
      | some a =>
        obtain ⟨c, h1, rfl⟩ := hx
        refine SR.b (Q := AR) (SR.p ⟨c, l1 _ _ h1, rfl⟩) fun r2 q q' l2 hq => ?_
        refine SR.b (SR.underlying arr) fun r3 d d' l3 e => ?_
        cases e
        cases d with
        | array k el =>
          dsimp only
          have ll := l1.trans (l2.trans l3)
          refine SR.b (SR.boundsEq false k k (hlo.mono ll) (hhi.mono ll) (hmx.mono ll)) fun r4 p p' l4 e => ?_
          cases e
          obtain ⟨l, h, m⟩ := p
          refine SR.b (SR.sizeOf _) fun r5 z z' l5 e => ?_
          cases e
          refine SR.p ?_
          obtain ⟨c2, h2, rfl⟩ := hq
          have hadd : ∀ (q : Addr) (k : Nat), (q.add k).block = q.block := fun q k => by unfold Addr.add; split <;> rfl
          have lle := l3.trans (l4.trans l5)
          split
          · exact (VRe r5).2.2.2.2.2.2.2.2.1 _ _ _ _ |>.2 ⟨c2, _, _, lle _ _ h2, fun _ => rfl, ⟨Nat.le_refl _, fun _ _ _ => .inl rfl⟩, rfl, .inr rfl, rfl⟩
          · refine (VRe r5).2.2.2.2.2.2.2.2.1 _ _ _ _ |>.2 ⟨c2, _, _, ?_, fun _ => rfl, ⟨Nat.le_refl _, fun _ _ _ => .inl rfl⟩, ?_, .inr ?_, rfl⟩
            · rw [hadd]; exact lle _ _ h2
            · rw [hadd]
            · unfold Addr.add; split <;> rfl
        | _ => exact SR.stuck _ _
    | _ => exact SR.stuck _ _
  | _ => exact SR.stuck _ _
end
end Go.Proofs.YtekhnmfmdkfidaaGreat.EX
