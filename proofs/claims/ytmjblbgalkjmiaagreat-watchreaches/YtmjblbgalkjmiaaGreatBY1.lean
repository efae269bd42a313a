/- Two runs of the model that differ in where blocks lie: values alike, trees of operations alike. -/
import Derived.Calls
import Std.Data.TreeMap
namespace Go.Proofs.YtmjblbgalkjmiaaGreat.EX
open Go
/-- Blocks of the run and of the world. -/
abbrev Env := Nat → Nat → Prop
/-- What is noted of a row that an append made: the room that the world has from its place on, and the run; its place in the world's row; how many cells an element has. -/
def Gh (r : Env) (b k c0 d z : Nat) : Prop := ∃ X, r (b + 1) X ∧ r (b + 3) (X + 1 + k) ∧ r (b + 5) (X + 1 + c0) ∧ r (b + 7) (X + 1 + d) ∧ r (b + 9) (X + 1 + z)
/-- How far a block of the run lies behind the beginning of the world's. -/
def Sh (r : Env) (b d : Nat) : Prop := (b % 2 = 0 ∧ d = 0) ∨ (b % 2 = 1 ∧ ∃ k c0 z, Gh r b k c0 d z)
/-- Addresses alike. -/
def AR (r : Env) (a a' : Addr) : Prop := ∃ d, r a.block a'.block ∧ Sh r a.block d ∧ a'.off = a.off + d ∧ a'.spot = a.spot
/-- What is known of a slice's capacity: at a block that an append made it is just the other's; or both lie within what is noted of the block. -/
def CapOK (r : Env) (a : Addr) (c : Nat) (a' : Addr) (c' : Nat) : Prop :=
  (a.block % 2 = 0 → c' = c) ∧ c ≤ c' ∧ (a.block % 2 = 1 → c' = c ∨ ∃ k c0 d z l, Gh r a.block k c0 d z ∧ (c = 0 → a.off = z) ∧ (0 < c → a.off = l * z) ∧ a'.off = d + l * z ∧ a'.spot = none ∧ l + c = c0 ∧ l + c' ≤ k)
/-- Values alike: the same heads and numbers; blocks by r; a slice's capacity is the other's, or, where its block is odd (made by an append), a lower bound of it; where it holds nothing its offset doesn't matter. -/
def VR (r : Env) : Value → Value → Prop :=
  Value.rec (motive_1 := fun _ => Value → Prop) (motive_2 := fun _ => Array Value → Prop) (motive_3 := fun _ => List Value → Prop)
    (fun b v => v = .bool b) (fun k n v => v = .int k n) (fun k n v => v = .float k n) (fun k x y v => v = .complex k x y) (fun s v => v = .string s)
    (fun a v => match a with | none => v = .pointer none | some a => ∃ a', AR r a a' ∧ v = .pointer (some a'))
    (fun a n c v => match a with | none => v = .slice none n c | some a => ∃ a' c', r a.block a'.block ∧ CapOK r a c a' c' ∧ ((n = 0 ∧ c = 0) ∨ AR r a a') ∧ v = .slice (some a') n c')
    (fun m v => match m with | none => v = .map none | some m => ∃ b, r m b ∧ v = .map (some b))
    (fun m v => match m with | none => v = .chan none | some _ => False)
    (fun fn _ _ p q v => ∃ f' c', p f' ∧ q c' ∧ v = .func fn f' c')
    (fun v => v = .nilFunc)
    (fun t _ p v => ∃ x', p x' ∧ v = .iface t x')
    (fun v => v = .nilIface)
    (fun _ p v => ∃ cs', p cs' ∧ v = .agg cs')
    (fun _ p v => ∃ cs', p cs' ∧ v = .tuple cs')
    (fun _ p l => p l.toList)
    (fun l => l = [])
    (fun _ _ p q l => ∃ x' s', p x' ∧ q s' ∧ l = x' :: s')
/-- Rows of values alike. -/
def VRs (r : Env) : List Value → List Value → Prop
  | [], l => l = []
  | x :: s, l => ∃ x' s', VR r x x' ∧ VRs r s s' ∧ l = x' :: s'
theorem VRs_eq (r : Env) : ∀ (l l' : List Value), (VR r (.agg ⟨l⟩) (.agg ⟨l'⟩)) = VRs r l l'
  | [], l' => by
    have : VR r (.agg ⟨[]⟩) (.agg ⟨l'⟩) = ∃ cs' : Array Value, cs'.toList = [] ∧ Value.agg ⟨l'⟩ = .agg cs' := rfl
    rw [this]
    simp only [VRs, Value.agg.injEq, eq_iff_iff]
    constructor
    · rintro ⟨cs, h, rfl⟩; exact h
    · intro h; exact ⟨_, h, rfl⟩
  | x :: s, l' => by
    have : VR r (.agg ⟨x :: s⟩) (.agg ⟨l'⟩) = ∃ cs' : Array Value, (∃ x' s', VR r x x' ∧ (∃ c : Array Value, VR r (.agg ⟨s⟩) (.agg c) ∧ s' = c.toList) ∧ cs'.toList = x' :: s') ∧ Value.agg ⟨l'⟩ = .agg cs' := by
      show (∃ cs' : Array Value, (∃ x' s', VR r x x' ∧ _ ∧ cs'.toList = x' :: s') ∧ Value.agg ⟨l'⟩ = .agg cs') = _
      apply propext
      constructor
      · rintro ⟨cs, ⟨x', s', h1, h2, h3⟩, h4⟩
        exact ⟨cs, ⟨x', s', h1, ⟨⟨s'⟩, ⟨⟨s'⟩, h2, rfl⟩, rfl⟩, h3⟩, h4⟩
      · rintro ⟨cs, ⟨x', s', h1, ⟨c, ⟨c', h2, h5⟩, rfl⟩, h3⟩, h4⟩
        cases h5
        exact ⟨cs, ⟨x', _, h1, h2, h3⟩, h4⟩
    rw [this]
    simp only [VRs, Value.agg.injEq, eq_iff_iff]
    constructor
    · rintro ⟨cs, ⟨x', s', h1, ⟨c, h2, rfl⟩, h3⟩, rfl⟩
      rw [show c = ⟨c.toList⟩ from rfl, VRs_eq] at h2
      exact ⟨x', _, h1, h2, h3⟩
    · rintro ⟨x', s', h1, h2, h3⟩
      refine ⟨_, ⟨x', s', h1, ⟨⟨s'⟩, ?_, rfl⟩, h3⟩, rfl⟩
      rw [VRs_eq]
      exact h2
theorem VRe (r : Env) : (∀ a v, VR r (.bool a) v ↔ v = .bool a) ∧ (∀ k n v, VR r (.int k n) v ↔ v = .int k n) ∧ (∀ k n v, VR r (.float k n) v ↔ v = .float k n) ∧ (∀ k a b v, VR r (.complex k a b) v ↔ v = .complex k a b) ∧
    (∀ s v, VR r (.string s) v ↔ v = .string s) ∧ (∀ v, VR r (.pointer none) v ↔ v = .pointer none) ∧ (∀ a v, VR r (.pointer (some a)) v ↔ ∃ a', AR r a a' ∧ v = .pointer (some a')) ∧
    (∀ n c v, VR r (.slice none n c) v ↔ v = .slice none n c) ∧ (∀ a n c v, VR r (.slice (some a) n c) v ↔ ∃ a' c', r a.block a'.block ∧ CapOK r a c a' c' ∧ ((n = 0 ∧ c = 0) ∨ AR r a a') ∧ v = .slice (some a') n c') ∧
    (∀ v, VR r (.map none) v ↔ v = .map none) ∧ (∀ m v, VR r (.map (some m)) v ↔ ∃ b, r m b ∧ v = .map (some b)) ∧ (∀ v, VR r (.chan none) v ↔ v = .chan none) ∧ (∀ m v, VR r (.chan (some m)) v ↔ False) ∧
    (∀ fn f c v, VR r (.func fn ⟨f⟩ ⟨c⟩) v ↔ ∃ f' c', VRs r f f' ∧ VRs r c c' ∧ v = .func fn ⟨f'⟩ ⟨c'⟩) ∧ (∀ v, VR r .nilFunc v ↔ v = .nilFunc) ∧ (∀ t x v, VR r (.iface t x) v ↔ ∃ x', VR r x x' ∧ v = .iface t x') ∧
    (∀ v, VR r .nilIface v ↔ v = .nilIface) ∧ (∀ cs v, VR r (.agg ⟨cs⟩) v ↔ ∃ cs', VRs r cs cs' ∧ v = .agg ⟨cs'⟩) ∧ (∀ cs v, VR r (.tuple ⟨cs⟩) v ↔ ∃ cs', VRs r cs cs' ∧ v = .tuple ⟨cs'⟩) := by
  have key : ∀ (l : List Value) (p : Array Value → Prop), (p = fun c => VR r (.agg ⟨l⟩) (.agg c)) → ∀ c, p c ↔ VRs r l c.toList := by
    intro l p hp c
    rw [hp, show c = ⟨c.toList⟩ from rfl]
    show VR r (.agg ⟨l⟩) (.agg ⟨c.toList⟩) ↔ _
    rw [VRs_eq]
  refine ⟨fun _ _ => .rfl, fun _ _ _ => .rfl, fun _ _ _ => .rfl, fun _ _ _ _ => .rfl, fun _ _ => .rfl, fun _ => .rfl, fun _ _ => .rfl, fun _ _ _ => .rfl, fun _ _ _ _ => .rfl, fun _ => .rfl, fun _ _ => .rfl, fun _ => .rfl, fun _ _ => .rfl, ?_, fun _ => .rfl, fun _ _ _ => .rfl, fun _ => .rfl, ?_, ?_⟩
  · intro fn f c v
    constructor
    · rintro ⟨f', c', h1, h2, rfl⟩
      exact ⟨f'.toList, c'.toList, by rw [← VRs_eq]; exact ⟨f', h1, rfl⟩, by rw [← VRs_eq]; exact ⟨c', h2, rfl⟩, rfl⟩
    · rintro ⟨f', c', h1, h2, rfl⟩
      rw [← VRs_eq] at h1 h2
      obtain ⟨a, h1, e1⟩ := h1
      obtain ⟨b, h2, e2⟩ := h2
      cases e1
      cases e2
      exact ⟨_, _, h1, h2, rfl⟩
  · intro cs v
    constructor
    · rintro ⟨c, h, rfl⟩
      exact ⟨c.toList, by rw [← VRs_eq]; exact ⟨c, h, rfl⟩, rfl⟩
    · rintro ⟨c, h, rfl⟩
      rw [← VRs_eq] at h
      exact h
  · intro cs v
    constructor
    · rintro ⟨c, h, rfl⟩
      exact ⟨c.toList, by rw [← VRs_eq]; exact ⟨c, h, rfl⟩, rfl⟩
    · rintro ⟨c, h, rfl⟩
      rw [← VRs_eq] at h
      obtain ⟨a, h, e⟩ := h
      cases e
      exact ⟨_, h, rfl⟩
theorem VRs.length {r : Env} : ∀ {l l' : List Value}, VRs r l l' → l'.length = l.length
  | [], l', h => by simp only [VRs] at h; subst h; rfl
  | x :: s, l', h => by
    simp only [VRs] at h
    obtain ⟨x', s', _, h2, rfl⟩ := h
    simp [VRs.length h2]
theorem VRs.getD {r : Env} (d d' : Value) (hd : VR r d d') : ∀ {l l' : List Value}, VRs r l l' → ∀ i, VR r (l.getD i d) (l'.getD i d')
  | [], l', h, i => by simp only [VRs] at h; subst h; simpa using hd
  | x :: s, l', h, i => by
    simp only [VRs] at h
    obtain ⟨x', s', h1, h2, rfl⟩ := h
    cases i with
    | zero => simpa using h1
    | succ i => simpa using VRs.getD d d' hd h2 i
/-- A longer relation of blocks. -/
def Le (r r' : Env) : Prop := ∀ a b, r a b → r' a b
theorem Gh.mono {r r' : Env} (h : Le r r') {b k c d z : Nat} (g : Gh r b k c d z) : Gh r' b k c d z := by
  obtain ⟨X, h1, h2, h3, h4, h5⟩ := g
  exact ⟨X, h _ _ h1, h _ _ h2, h _ _ h3, h _ _ h4, h _ _ h5⟩
theorem Sh.mono {r r' : Env} (h : Le r r') {b d : Nat} (g : Sh r b d) : Sh r' b d := g.imp id fun ⟨ho, k, c, z, g⟩ => ⟨ho, k, c, z, g.mono h⟩
theorem AR.mono {r r' : Env} (h : Le r r') {a a' : Addr} (g : AR r a a') : AR r' a a' := by
  obtain ⟨d, h1, h2, h3⟩ := g
  exact ⟨d, h _ _ h1, h2.mono h, h3⟩
theorem CapOK.mono {r r' : Env} (h : Le r r') {a a' : Addr} {c c' : Nat} (k : CapOK r a c a' c') : CapOK r' a c a' c' := ⟨k.1, k.2.1, fun ho => (k.2.2 ho).imp id fun ⟨q, c0, d, z, l, g, g2⟩ => ⟨q, c0, d, z, l, g.mono h, g2⟩⟩
theorem VRs.mono_of {r r' : Env} : ∀ (l l' : List Value), (∀ x ∈ l, ∀ v, VR r x v → VR r' x v) → VRs r l l' → VRs r' l l'
  | [], _, _, k => k
  | x :: s, _, h, ⟨x', s', h1, h2, h3⟩ => ⟨x', s', h x (by simp) _ h1, VRs.mono_of s s' (fun y hy => h y (by simp [hy])) h2, h3⟩
theorem VR.mono_n {r r' : Env} (h : Le r r') : ∀ (n : Nat) (v v' : Value), SizeOf.sizeOf v ≤ n → VR r v v' → VR r' v v' := by
  intro n
  induction n with
  | zero => intro v v' hn; cases v <;> simp at hn
  | succ n ih =>
    intro v v' hn k
    cases v with
    | pointer a => cases a with
      | none => exact k
      | some a => obtain ⟨a', h1, h2⟩ := k; exact ⟨a', h1.mono h, h2⟩
    | slice a _ _ => cases a with
      | none => exact k
      | some a => obtain ⟨a', c', h1, h2, h3, h4⟩ := k; exact ⟨a', c', h _ _ h1, h2.mono h, h3.imp id fun g => g.mono h, h4⟩
    | map a => cases a with
      | none => exact k
      | some a => obtain ⟨c, h1, h2⟩ := k; exact ⟨c, h _ _ h1, h2⟩
    | chan a => cases a <;> exact k
    | func fn f c =>
      obtain ⟨f⟩ := f
      obtain ⟨c⟩ := c
      simp only [VRe] at k ⊢
      obtain ⟨f', c', h1, h2, h3⟩ := k
      exact ⟨f', c', VRs.mono_of _ _ (fun x hx v hv => ih x v (by have := List.sizeOf_lt_of_mem hx; simp at hn; omega) hv) h1, VRs.mono_of _ _ (fun x hx v hv => ih x v (by have := List.sizeOf_lt_of_mem hx; simp at hn; omega) hv) h2, h3⟩
    | iface t x =>
      simp only [VRe] at k ⊢
      obtain ⟨x', h1, h2⟩ := k
      exact ⟨x', ih x x' (by simp at hn; omega) h1, h2⟩
    | agg cs =>
      obtain ⟨cs⟩ := cs
      simp only [VRe] at k ⊢
      obtain ⟨x', h1, h2⟩ := k
      exact ⟨x', VRs.mono_of _ _ (fun x hx v hv => ih x v (by have := List.sizeOf_lt_of_mem hx; simp at hn; omega) hv) h1, h2⟩
    | tuple cs =>
      obtain ⟨cs⟩ := cs
      simp only [VRe] at k ⊢
      obtain ⟨x', h1, h2⟩ := k
      exact ⟨x', VRs.mono_of _ _ (fun x hx v hv => ih x v (by have := List.sizeOf_lt_of_mem hx; simp at hn; omega) hv) h1, h2⟩
    | _ => exact k
theorem VR.mono {r r' : Env} (h : Le r r') (v v' : Value) (k : VR r v v') : VR r' v v' := VR.mono_n h _ v v' (Nat.le_refl _) k
theorem VRs.mono {r r' : Env} (h : Le r r') (l l' : List Value) (k : VRs r l l') : VRs r' l l' := VRs.mono_of l l' (fun x _ v hv => VR.mono h x v hv) k
/-- A value without blocks. -/
def Rig (k : Value) : Prop := ∀ r v, VR r k v ↔ v = k
/-- Entries of maps alike: the keys bear no blocks. -/
def ER (r : Env) : List MapEntry → List MapEntry → Prop
  | [], l => l = []
  | x :: s, l => Rig x.key ∧ ∃ v s', VR r x.val v ∧ ER r s s' ∧ l = ⟨x.key, v, x.born⟩ :: s'
theorem ER.mono {r r' : Env} (h : Le r r') : ∀ (l l' : List MapEntry), ER r l l' → ER r' l l'
  | [], _, k => k
  | _x :: _s, _, ⟨g, b, c, h1, h2, h3⟩ => ⟨g, b, c, VR.mono h _ _ h1, ER.mono h _ _ h2, h3⟩
/-- A row may be marked as a constant's: its cells themselves never are. -/
def ZR (f z : Nat × Nat) (n : Nat) : Prop := (f = (0, 0) ∧ z = (0, 0)) ∨ (f = (1, 1) ∧ n ≤ z.1)
theorem ZR.off {f z : Nat × Nat} {n k : Nat} (h : ZR f z n) (hk : k < n) : (decide (z.1 ≤ k) && decide (k < z.2)) = false := by
  rcases h with ⟨_, rfl⟩ | ⟨_, h⟩
  · simp
  · have : ¬ z.1 ≤ k := by omega
    simp [this]
/-- Objects alike. A row of the world may go on behind what the run knows of it. -/
def OR (r : Env) : Obj → Obj → Prop
  | .cells ⟨cs⟩ t f, o => ∃ cs' rest z, VRs r cs cs' ∧ ZR f z (cs' ++ rest).length ∧ o = .cells ⟨cs' ++ rest⟩ t z
  | .map ⟨es⟩ c, o => ∃ es', ER r es es' ∧ o = .map ⟨es'⟩ c
  | .mapIter (some m) a s b, o => ∃ m', r m m' ∧ o = .mapIter (some m') a s b
  | .stringIter s p, o => o = .stringIter s p
  | .mapIter none a s b, o => o = .mapIter none a s b
  | _, _ => False
/-- A row that lies behind the beginning of the world's. -/
def OD (r : Env) (d : Nat) : Obj → Obj → Prop
  | .cells ⟨cs⟩ t f, o => ∃ pre cs' rest z, pre.length = d ∧ VRs r cs cs' ∧ ZR f z (pre ++ (cs' ++ rest)).length ∧ o = .cells ⟨pre ++ (cs' ++ rest)⟩ t z
  | u, o => OR r u o
theorem OD.of {r : Env} : ∀ {u o : Obj}, OR r u o → OD r 0 u o
  | .cells ⟨cs⟩ t f, _, h => by
    simp only [OR] at h
    obtain ⟨cs', rest, z, h1, h2, h3⟩ := h
    exact ⟨[], cs', rest, z, rfl, h1, h2, h3⟩
  | .map .., _, h => h
  | .mapIter .., _, h => h
  | .stringIter .., _, h => h
  | .pending .., _, k | .view .., _, k | .number .., _, k | .chan .., _, k | .loop .., _, k | .deferred .., _, k | .coro .., _, k | .finalizers .., _, k => by simp only [OR] at k
theorem OD.zero {r : Env} : ∀ {u o : Obj}, OD r 0 u o → OR r u o
  | .cells ⟨cs⟩ t f, _, h => by
    simp only [OD] at h
    obtain ⟨pre, cs', rest, z, h0, h1, h2, h3⟩ := h
    cases pre with
    | nil => exact ⟨cs', rest, z, h1, h2, h3⟩
    | cons _ _ => simp at h0
  | .map .., _, h => h
  | .mapIter .., _, h => h
  | .stringIter .., _, h => h
  | .pending .., _, k | .view .., _, k | .number .., _, k | .chan .., _, k | .loop .., _, k | .deferred .., _, k | .coro .., _, k | .finalizers .., _, k => by simp only [OD, OR] at k
theorem OD.obj {r : Env} {d : Nat} : ∀ {u o : Obj}, (∀ cs t f, u ≠ .cells cs t f) → (OD r d u o ↔ OR r u o)
  | .cells cs t f, _, h => absurd rfl (h cs t f)
  | .map .., _, _ => .rfl
  | .mapIter .., _, _ => .rfl
  | .stringIter .., _, _ => .rfl
  | .pending .., _, _ | .view .., _, _ | .number .., _, _ | .chan .., _, _ | .loop .., _, _ | .deferred .., _, _ | .coro .., _, _ | .finalizers .., _, _ => .rfl
theorem OR.mono {r r' : Env} (h : Le r r') : ∀ (o o' : Obj), OR r o o' → OR r' o o'
  | .cells ⟨cs⟩ t f, _, k => by simp only [OR] at k ⊢; obtain ⟨cs', rest, z, h1, h0, h2⟩ := k; exact ⟨cs', rest, z, VRs.mono h _ _ h1, h0, h2⟩
  | .map ⟨es⟩ c, _, k => by simp only [OR] at k ⊢; obtain ⟨es', h1, h2⟩ := k; exact ⟨es', ER.mono h _ _ h1, h2⟩
  | .mapIter (some m) a s b, _, k => by simp only [OR] at k ⊢; obtain ⟨m', h1, h2⟩ := k; exact ⟨m', h _ _ h1, h2⟩
  | .stringIter s p, _, k => k
  | .mapIter none .., _, k => k
  | .pending .., _, k | .view .., _, k | .number .., _, k | .chan .., _, k | .loop .., _, k | .deferred .., _, k | .coro .., _, k | .finalizers .., _, k => by simp only [OR] at k
theorem OD.mono {r r' : Env} (h : Le r r') {d : Nat} : ∀ {o o' : Obj}, OD r d o o' → OD r' d o o'
  | .cells ⟨cs⟩ t f, _, k => by simp only [OD] at k ⊢; obtain ⟨pre, cs', rest, z, h0, h1, h2, h3⟩ := k; exact ⟨pre, cs', rest, z, h0, VRs.mono h _ _ h1, h2, h3⟩
  | .map es c, o, k => OR.mono h (.map es c) o k
  | .mapIter m a s b, o, k => OR.mono h (.mapIter m a s b) o k
  | .stringIter .., _, k => k
  | .pending .., _, k | .view .., _, k | .number .., _, k | .chan .., _, k | .loop .., _, k | .deferred .., _, k | .coro .., _, k | .finalizers .., _, k => by simp only [OD, OR] at k
/-- Two trees of operations that do the same. -/
def SR (P : Program) {α : Type} (Q : Env → α → α → Prop) : Sem α → Sem α → Env → Prop
  | .pure a, .pure b, r => Q r a b
  | .load m a k, .load m' a' k', r => m = m' ∧ AR r a a' ∧ ∀ v v', VR r v v' → SR P Q (k v) (k' v') r
  | .store m a v k, .store m' a' v' k', r => m = m' ∧ AR r a a' ∧ VR r v v' ∧ SR P Q k k' r
  | .new o k, .new o' k', r => OR r o o' ∧ ∀ r' b b', Le r r' → r' b b' → Sh r' b 0 → SR P Q (k b) (k' b') r'
  | .getObj b k, .getObj b' k', r => r b b' ∧ ∀ o o', OR r o o' → SR P Q (k o) (k' o') r
  | .setObj b o k, .setObj b' o' k', r => r b b' ∧ OR r o o' ∧ SR P Q k k' r
  | .frozen a k, .frozen a' k', r => AR r a a' ∧ SR P Q (k false) (k' false) r
  | .choose q k, .choose q' k', r => q = q' ∧ (q.forced = true → SR P Q (k 0) (k' 0) r)
  | .program k, .program k', r => SR P Q (k P) (k' P) r
  | .mark _ k, .mark _ k', r => SR P Q k k' r
  | .halt (.panic v), .halt (.panic v'), r => VR r v v'
  | .halt (.panic _), _, _ => False
  | .halt _, _, _ => True
  | .shape .., _, _ => True
  | .freeze .., _, _ => True
  | .sys .., _, _ => True
  | _, _, _ => False
theorem SR.bind {P : Program} {α β : Type} {Q : Env → α → α → Prop} {R : Env → β → β → Prop} {f f' : α → Sem β} : ∀ (s s' : Sem α) (r : Env), SR P Q s s' r → (∀ r' a a', Le r r' → Q r' a a' → SR P R (f a) (f' a') r') → SR P R (s.bind f) (s'.bind f') r := by
  intro s
  induction s with
  | pure a =>
    intro s' r h k
    cases s' <;> simp only [SR] at h
    exact k r _ _ (fun _ _ h => h) h
  | load m a k ih =>
    intro s' r h q
    cases s' <;> simp only [SR] at h
    obtain ⟨h1, h2, h3⟩ := h
    simp only [Sem.bind, SR]
    exact ⟨h1, h2, fun v v' hv => ih v _ r (h3 v v' hv) q⟩
  | store m a v k ih =>
    intro s' r h q
    cases s' <;> simp only [SR] at h
    obtain ⟨h1, h2, h3, h4⟩ := h
    simp only [Sem.bind, SR]
    exact ⟨h1, h2, h3, ih _ r h4 q⟩
  | new o k ih =>
    intro s' r h q
    cases s' <;> simp only [SR] at h
    obtain ⟨h1, h2⟩ := h
    simp only [Sem.bind, SR]
    exact ⟨h1, fun r' b b' hl hb hs => ih b _ r' (h2 r' b b' hl hb hs) fun r'' a a' hl' hq => q r'' a a' (fun x y h => hl' _ _ (hl _ _ h)) hq⟩
  | shape x k ih => intro s' r h q; cases s' <;> first | trivial | (simp only [Sem.bind, SR])
  | freeze a n k ih => intro s' r h q; cases s' <;> first | trivial | (simp only [Sem.bind, SR])
  | frozen a k ih =>
    intro s' r h q
    cases s' <;> simp only [SR] at h
    simp only [Sem.bind, SR]
    exact ⟨h.1, ih _ _ r h.2 q⟩
  | getObj b k ih =>
    intro s' r h q
    cases s' <;> simp only [SR] at h
    simp only [Sem.bind, SR]
    exact ⟨h.1, fun o o' ho => ih o _ r (h.2 o o' ho) q⟩
  | setObj b o k ih =>
    intro s' r h q
    cases s' <;> simp only [SR] at h
    simp only [Sem.bind, SR]
    exact ⟨h.1, h.2.1, ih _ r h.2.2 q⟩
  | choose c k ih =>
    intro s' r h q
    cases s' <;> simp only [SR] at h
    simp only [Sem.bind, SR]
    exact ⟨h.1, fun hf => ih _ _ r (h.2 hf) q⟩
  | sys c k ih => intro s' r h q; cases s' <;> first | trivial | (simp only [Sem.bind, SR])
  | program k ih =>
    intro s' r h q
    cases s' <;> simp only [SR] at h
    simp only [Sem.bind, SR]
    exact ih _ _ r h q
  | mark m k ih =>
    intro s' r h q
    cases s' <;> simp only [SR] at h
    simp only [Sem.bind, SR]
    exact ih _ r h q
  | halt x =>
    intro s' r h q
    cases x with
    | panic v =>
      cases s' with
      | halt y =>
        cases y <;> simp only [SR] at h
        simpa only [Sem.bind, SR] using h
      | _ => simp only [SR] at h
    | _ => cases s' <;> first | trivial | (simp only [Sem.bind, SR])
end Go.Proofs.YtmjblbgalkjmiaaGreat.EX
/- A heap as a tree, and runs of trees of operations on it. -/
namespace Go.Proofs.YtmjblbgalkjmiaaGreat.EX
open Go
/-- A tree by the number's bits; the order and the sizes of Std's tree are not used. -/
abbrev T (α : Type) := Std.DTreeMap.Internal.Impl Nat fun _ => Option α
def T.get {α : Type} : T α → Nat → Option α
  | .leaf, _ => none
  | .inner _ _ v l r, k => if k = 0 then v else if k % 2 = 1 then T.get l (k / 2) else T.get r (k / 2 - 1)
def T.single {α : Type} (v : Option α) : Nat → Nat → T α
  | 0, _ => .leaf
  | n + 1, k => if k = 0 then .inner 0 0 v .leaf .leaf else if k % 2 = 1 then .inner 0 0 none (T.single v n (k / 2)) .leaf else .inner 0 0 none .leaf (T.single v n (k / 2 - 1))
def T.set {α : Type} : T α → Nat → Option α → T α
  | .leaf, k, v => T.single v (k + 1) k
  | .inner _ _ x l r, k, v => if k = 0 then .inner 0 0 v l r else if k % 2 = 1 then .inner 0 0 x (T.set l (k / 2) v) r else .inner 0 0 x l (T.set r (k / 2 - 1) v)
theorem T.get_single {α : Type} (v : Option α) : ∀ (n k j : Nat), k < n → (T.single v n k).get j = if j = k then v else none := by
  intro n
  induction n with
  | zero => intro k j h; omega
  | succ n ih =>
    intro k j h
    unfold T.single
    split
    · subst k
      by_cases hj : j = 0
      · simp [T.get, hj]
      · simp [T.get, hj]
    · split
      · rw [T.get]
        by_cases hj : j = 0
        · have : ¬ (0 = k) := by omega
          simp [hj, this]
        · simp only [if_neg hj]
          split
          · rw [ih _ _ (by omega)]
            by_cases e : j = k
            · simp [e]
            · rw [if_neg e, if_neg (by omega)]
          · have : ¬ j = k := by intro e; subst e; contradiction
            simp [T.get, this]
      · rw [T.get]
        by_cases hj : j = 0
        · have : ¬ (0 = k) := by omega
          simp [hj, this]
        · simp only [if_neg hj]
          split
          · have : ¬ j = k := by intro e; subst e; contradiction
            simp [T.get, this]
          · rw [ih _ _ (by omega)]
            by_cases e : j = k
            · simp [e]
            · rw [if_neg e, if_neg (by omega)]
theorem T.get_set {α : Type} (v : Option α) : ∀ (t : T α) (k j : Nat), (t.set k v).get j = if j = k then v else t.get j := by
  intro t
  induction t with
  | leaf => intro k j; simp only [T.set, T.get]; exact T.get_single v (k + 1) k j (by omega)
  | inner s x y l r ihl ihr =>
    intro k j
    unfold T.set
    split
    · subst k
      by_cases hj : j = 0 <;> simp [T.get, hj]
    · split
      · rw [T.get, T.get]
        by_cases hj : j = 0
        · have : ¬ (0 = k) := by omega
          simp [hj, this]
        · simp only [if_neg hj]
          split
          · rw [ihl]
            by_cases e : j = k
            · simp [e]
            · rw [if_neg e, if_neg (by omega)]
          · have : ¬ j = k := by intro e; subst e; contradiction
            simp [this]
      · rw [T.get, T.get]
        by_cases hj : j = 0
        · have : ¬ (0 = k) := by omega
          simp [hj, this]
        · simp only [if_neg hj]
          split
          · have : ¬ j = k := by intro e; subst e; contradiction
            simp [this]
          · rw [ihr]
            by_cases e : j = k
            · simp [e]
            · rw [if_neg e, if_neg (by omega)]
end Go.Proofs.YtmjblbgalkjmiaaGreat.EX
/- Runs of trees of operations on a heap that is a tree: what they answer, every world alike answers. -/
namespace Go.Proofs.YtmjblbgalkjmiaaGreat.EX
open Go
/-- A value of one cell. -/
def oneC : Value → Bool
  | .agg _ | .tuple _ => false
  | _ => true
structure Hp where
  t : T Obj
  n : Nat
def runX (P : Program) {α : Type} : Sem α → Hp → Option (Except Value α × Hp)
  | .pure a, h => some (.ok a, h)
  | .load _ a k, h => match h.t.get a.block with
    | some (.cells ⟨cs⟩ _ _) => if a.spot.isSome then none else match cs[a.off]? with
      | some v => runX P (k v) h
      | none => none
    | _ => none
  | .store _ a v k, h => if oneC v then match h.t.get a.block with
    | some (.cells ⟨cs⟩ t f) => if a.spot.isSome then none else if a.off < cs.length then runX P k ⟨h.t.set a.block (some (.cells ⟨cs.set a.off v⟩ t f)), h.n⟩ else none
    | _ => none
    else none
  | .new o k, h => runX P (k (2 * h.n)) ⟨h.t.set (2 * h.n) (some o), h.n + 1⟩
  | .getObj b k, h => match h.t.get b with
    | some (.cells ..) => none
    | some o => runX P (k o) h
    | none => none
  | .setObj b o k, h => match h.t.get b with
    | some (.cells ..) => none
    | some _ => match o with
      | .cells .. => none
      | o => runX P k ⟨h.t.set b (some o), h.n⟩
    | none => none
  | .frozen a k, h => match h.t.get a.block with
    | some (.cells _ _ (0, 0)) => runX P (k false) h
    | _ => none
  | .choose q k, h => if q.forced then runX P (k 0) h else none
  | .program k, h => runX P (k P) h
  | .mark _ k, h => runX P k h
  | .halt (.panic v), h => some (.error v, h)
  | _, _ => none
/-- A live block's objects alike. -/
def OB (r : Env) (b : Nat) (o o' : Obj) : Prop := ∃ d, Sh r b d ∧ OD r d o o'
theorem OB.mono {r r' : Env} (h : Le r r') {b : Nat} {o o' : Obj} (k : OB r b o o') : OB r' b o o' := by
  obtain ⟨d, h1, h2⟩ := k
  exact ⟨d, h1.mono h, h2.mono h⟩
theorem OB.even {r : Env} {b : Nat} {o o' : Obj} (k : OB r b o o') (hb : b % 2 = 0) : OR r o o' := by
  obtain ⟨d, h1, h2⟩ := k
  rcases h1 with ⟨_, rfl⟩ | ⟨h1, _⟩
  · exact h2.zero
  · omega
theorem OB.obj {r : Env} {b : Nat} {o o' : Obj} (k : OB r b o o') (ho : ∀ cs t f, o ≠ .cells cs t f) : OR r o o' := by
  obtain ⟨d, _, h2⟩ := k
  exact (OD.obj ho).1 h2
theorem Sh.even {r : Env} {b : Nat} (hb : b % 2 = 0) : Sh r b 0 := .inl ⟨hb, rfl⟩
theorem OB.of {r : Env} {b : Nat} {o o' : Obj} (hb : b % 2 = 0) (k : OR r o o') : OB r b o o' := ⟨0, .even hb, OD.of k⟩
/-- An object that is no row, put in the place of another one. -/
theorem OB.set {r : Env} {b : Nat} {o o' u u' : Obj} (k : OB r b o o') (hu : ∀ cs t f, u ≠ .cells cs t f) (h : OR r u u') : OB r b u u' := by
  obtain ⟨d, h1, _⟩ := k
  exact ⟨d, h1, (OD.obj hu).2 h⟩
theorem Gh.fn {r : Env} (hf : ∀ b c c', r b c → r b c' → c = c') {b k c d z k' c' d' z' : Nat} (g : Gh r b k c d z) (g' : Gh r b k' c' d' z') : k' = k ∧ c' = c ∧ d' = d ∧ z' = z := by
  obtain ⟨X, h1, h2, h3, h4, h5⟩ := g
  obtain ⟨Y, g1, g2, g3, g4, g5⟩ := g'
  have e1 := hf _ _ _ h1 g1
  subst e1
  have e2 := hf _ _ _ h2 g2
  have e3 := hf _ _ _ h3 g3
  have e4 := hf _ _ _ h4 g4
  have e5 := hf _ _ _ h5 g5
  omega
theorem Sh.fn {r : Env} (hf : ∀ b c c', r b c → r b c' → c = c') {b d d' : Nat} (g : Sh r b d) (g' : Sh r b d') : d' = d := by
  rcases g with ⟨h1, rfl⟩ | ⟨h1, k, c, z, g⟩ <;> rcases g' with ⟨h2, rfl⟩ | ⟨h2, k', c', z', g'⟩
  · rfl
  · omega
  · omega
  · exact (Gh.fn hf g g').2.2.1
/-- What is noted of a block that was there. -/
theorem Gh.old {r r' : Env} {n : Nat} (h : ∀ x y, x < n → r' x y → r x y) {b k c d z : Nat} (hb : b + 9 < n) (g : Gh r' b k c d z) : Gh r b k c d z := by
  obtain ⟨X, h1, h2, h3, h4, h5⟩ := g
  exact ⟨X, h _ _ (by omega) h1, h _ _ (by omega) h2, h _ _ (by omega) h3, h _ _ (by omega) h4, h _ _ (by omega) h5⟩
/-- A heap and a world alike. -/
structure HR (r : Env) (h : Hp) (w : World) : Prop where
  live : ∀ b o, h.t.get b = some o → ∃ c o', r b c ∧ w.heap[c]? = some o' ∧ OB r b o o'
  fn : ∀ b c c', r b c → r b c' → c = c'
  inj : ∀ b b' c, (h.t.get b).isSome → (h.t.get b').isSome → r b c → r b' c → b = b'
  lt : ∀ b c, r b c → b < 2 * h.n
  odd : ∀ b c, r b c → b % 2 = 1 → b + 11 ≤ 2 * h.n
  caps : ∀ b c k c0 d e cs t z, b % 2 = 1 → r b c → Gh r b k c0 d e → h.t.get b = some (.cells ⟨cs⟩ t z) → cs.length = c0 * e ∧ ∃ cs' z', w.heap[c]? = some (.cells cs' t z') ∧ d + k * e ≤ cs'.size
theorem HR.size {r : Env} {h : Hp} {w : World} (H : HR r h w) {b c : Nat} (hb : (h.t.get b).isSome) (hr : r b c) : c < w.heap.size := by
  obtain ⟨o, ho⟩ := Option.isSome_iff_exists.1 hb
  obtain ⟨c1, o1, k1, k2, _⟩ := H.live b o ho
  cases H.fn _ _ _ hr k1
  exact (Array.getElem?_eq_some_iff.1 k2).1
/-- What a run leaves as it was. -/
structure Fr (r r' : Env) (h h' : Hp) (w w' : World) : Prop where
  le : Le r r'
  lt : ∀ b c, r b c → b < 2 * h.n
  size : w.heap.size ≤ w'.heap.size
  n : h.n ≤ h'.n
  new : ∀ b c, r' b c → c < w.heap.size ∨ b < 2 * h.n → r b c ∨ (2 * h.n ≤ b ∧ ∃ b0, (h.t.get b0).isSome ∧ r b0 c)
  old : ∀ b, b < 2 * h.n → (h'.t.get b).isSome → (h.t.get b).isSome
  heap : ∀ c, c < w.heap.size → (∀ b, (h.t.get b).isSome → ¬ r b c) → w'.heap[c]? = w.heap[c]?
  os : w'.os = w.os
  tape : w'.tape = w.tape
  output : w'.output = w.output
theorem Fr.refl {r : Env} {h : Hp} {w : World} (k : HR r h w) : Fr r r h h w w :=
  ⟨fun _ _ h => h, fun b c h => k.lt b c h, Nat.le_refl _, Nat.le_refl _, fun _ _ h _ => .inl h, fun _ _ h => h, fun _ _ _ => rfl, rfl, rfl, rfl⟩
theorem Fr.trans {r r' r'' : Env} {h h' h'' : Hp} {w w' w'' : World} (a : Fr r r' h h' w w') (b : Fr r' r'' h' h'' w' w'') : Fr r r'' h h'' w w'' := by
  refine ⟨fun x y k => b.le _ _ (a.le _ _ k), a.lt, Nat.le_trans a.size b.size, Nat.le_trans a.n b.n, fun x y k hk => ?_, fun x hx k => ?_, fun c hc hn => ?_, b.os.trans a.os, b.tape.trans a.tape, b.output.trans a.output⟩
  · have hbn : 2 * h.n ≤ 2 * h'.n := Nat.mul_le_mul_left 2 a.n
    rcases b.new x y k (hk.elim (fun h => Or.inl (Nat.lt_of_lt_of_le h a.size)) fun h => Or.inr (Nat.lt_of_lt_of_le h hbn)) with k1 | ⟨hx, b0, hb0, hr0⟩
    · exact a.new x y k1 hk
    · have hc : y < w.heap.size := hk.elim id fun h => by omega
      rcases a.new b0 y hr0 (.inl hc) with q | ⟨_, b1, q1, q2⟩
      · exact .inr ⟨by omega, b0, a.old b0 (a.lt b0 y q) hb0, q⟩
      · exact .inr ⟨by omega, b1, q1, q2⟩
  · exact a.old x hx (b.old x (Nat.lt_of_lt_of_le hx (Nat.mul_le_mul_left 2 a.n)) k)
  · rw [b.heap c (Nat.lt_of_lt_of_le hc a.size) fun x hx k => ?_, a.heap c hc hn]
    rcases a.new _ _ k (.inl hc) with k' | ⟨_, b1, q1, q2⟩
    case inr => exact hn b1 q1 q2
    exact hn x (a.old x (a.lt _ _ k') hx) k'
theorem VRs.get? {r : Env} : ∀ {l l' : List Value}, VRs r l l' → ∀ {i : Nat} {v : Value}, l[i]? = some v → ∃ v', l'[i]? = some v' ∧ VR r v v'
  | [], l', h, i, v, e => by simp at e
  | x :: s, l', h, i, v, e => by
    simp only [VRs] at h
    obtain ⟨x', s', h1, h2, rfl⟩ := h
    cases i with
    | zero => simp at e; subst e; exact ⟨x', by simp, h1⟩
    | succ i => simp at e; simpa using VRs.get? h2 e
theorem VRs.set {r : Env} {v v' : Value} (hv : VR r v v') : ∀ {l l' : List Value}, VRs r l l' → ∀ (i : Nat), VRs r (l.set i v) (l'.set i v')
  | [], l', h, i => by simp only [VRs] at h; subst h; simp [VRs]
  | x :: s, l', h, i => by
    simp only [VRs] at h
    obtain ⟨x', s', h1, h2, rfl⟩ := h
    cases i with
    | zero => simp only [List.set, VRs]; exact ⟨v', s', hv, h2, rfl⟩
    | succ i => simp only [List.set, VRs]; exact ⟨x', s'.set i v', h1, VRs.set hv h2 i, rfl⟩
theorem VR.oneC {r : Env} : ∀ (v v' : Value), VR r v v' → EX.oneC v = true → EX.oneC v' = true
  | .bool _, _, h, _ | .int .., _, h, _ | .float .., _, h, _ | .complex .., _, h, _ | .string _, _, h, _ | .pointer none, _, h, _ | .slice none _ _, _, h, _ | .map none, _, h, _ | .chan none, _, h, _ | .nilFunc, _, h, _ | .nilIface, _, h, _ => by simp only [VRe] at h; subst h; rfl
  | .pointer (some a), _, h, _ => by simp only [VRe] at h; obtain ⟨c, _, rfl⟩ := h; rfl
  | .slice (some a) _ _, _, h, _ => by simp only [VRe] at h; obtain ⟨a', c, _, _, _, rfl⟩ := h; rfl
  | .map (some a), _, h, _ => by simp only [VRe] at h; obtain ⟨c, _, rfl⟩ := h; rfl
  | .chan (some a), _, h, _ => by simp only [VRe] at h
  | .func fn ⟨f⟩ ⟨c⟩, _, h, _ => by simp only [VRe] at h; obtain ⟨f', c', _, _, rfl⟩ := h; rfl
  | .iface t x, _, h, _ => by simp only [VRe] at h; obtain ⟨x', _, rfl⟩ := h; rfl
  | .agg _, _, _, k | .tuple _, _, _, k => by cases k
theorem row_at {α : Type} (pre l : List α) (i : Nat) : (pre ++ l)[i + pre.length]? = l[i]? := by
  rw [List.getElem?_append_right (by omega), Nat.add_sub_cancel]
theorem row_set {α : Type} (pre l : List α) (i : Nat) (v : α) : (pre ++ l).set (i + pre.length) v = pre ++ l.set i v := by
  rw [List.set_append_right _ _ (by omega), Nat.add_sub_cancel]
/-- A row at an address: what the world has there. -/
theorem HR.at {r : Env} {h : Hp} {w : World} (H : HR r h w) {a a' : Addr} (ha : AR r a a') {cs : List Value} {t : TypeId} {f : Nat × Nat} (hb : h.t.get a.block = some (.cells ⟨cs⟩ t f)) :
    ∃ pre cs' rest z, w.heap[a'.block]? = some (.cells ⟨pre ++ (cs' ++ rest)⟩ t z) ∧ VRs r cs cs' ∧ ZR f z (pre ++ (cs' ++ rest)).length ∧ a'.off = a.off + pre.length ∧ a'.spot = a.spot ∧ Sh r a.block pre.length := by
  obtain ⟨d, h1, h2, h3, h4⟩ := ha
  obtain ⟨c, o, k1, k2, d', k3, k4⟩ := H.live _ _ hb
  cases H.fn _ _ _ h1 k1
  cases Sh.fn H.fn h2 k3
  simp only [OD] at k4
  obtain ⟨pre, cs', rest, z, rfl, g1, g2, rfl⟩ := k4
  exact ⟨pre, cs', rest, z, k2, g1, g2, h3, h4, h2⟩
/-- A live block written over. -/
theorem HR.put {r : Env} {h : Hp} {w : World} (H : HR r h w) {b c : Nat} {o o' : Obj} (hb : (h.t.get b).isSome) (hc : r b c) (ho : OB r b o o')
    (hl : ∀ cs t z, o = .cells ⟨cs⟩ t z → ∃ cs0 z0 cs' z', h.t.get b = some (.cells ⟨cs0⟩ t z0) ∧ cs.length = cs0.length ∧ o' = .cells cs' t z' ∧ ∀ c0 z1, w.heap[c]? = some (.cells c0 t z1) → cs'.size = c0.size) :
    HR r ⟨h.t.set b (some o), h.n⟩ { w with heap := w.heap.setIfInBounds c o' } ∧ Fr r r h ⟨h.t.set b (some o), h.n⟩ w { w with heap := w.heap.setIfInBounds c o' } := by
  have hlt := H.size hb hc
  have live : ∀ q, ((h.t.set b (some o)).get q).isSome → (h.t.get q).isSome := fun q hq => by
    simp only [T.get_set] at hq
    by_cases e : q = b
    · rw [e]; exact hb
    · rwa [if_neg e] at hq
  refine ⟨⟨fun x u hx => ?_, H.fn, fun x y z hx hy => H.inj x y z (live x hx) (live y hy), H.lt, H.odd, fun x cx k c0 d e' cs t z ho1 h1 h2 h5 => ?_⟩, ⟨fun _ _ h => h, fun x y k => H.lt x y k, by simp, Nat.le_refl _, fun _ _ h _ => .inl h, fun x _ hx => live x hx, fun z hz hn => ?_, rfl, rfl, rfl⟩⟩
  · simp only [T.get_set] at hx
    by_cases e : x = b
    · subst e
      rw [if_pos rfl] at hx
      cases hx
      exact ⟨c, o', hc, by simp [hlt], ho⟩
    · rw [if_neg e] at hx
      obtain ⟨c1, o1, k1, k2, k3⟩ := H.live x u hx
      refine ⟨c1, o1, k1, ?_, k3⟩
      have : c ≠ c1 := fun q => e (H.inj x b c (by rw [hx]; rfl) hb (q ▸ k1) hc)
      simp [Array.getElem?_setIfInBounds_ne this, k2]
  · simp only [T.get_set] at h5
    by_cases e : x = b
    · subst e
      rw [if_pos rfl] at h5
      cases h5
      cases H.fn _ _ _ hc h1
      obtain ⟨cs0, z0, cs', z', q1, q2, q3, q4⟩ := hl cs t z rfl
      obtain ⟨g0, cw, zw, g1, g2⟩ := H.caps x c k c0 d e' cs0 t z0 ho1 h1 h2 q1
      refine ⟨q2.trans g0, cs', z', by simp [hlt, q3], ?_⟩
      rw [q4 cw zw g1]
      exact g2
    · rw [if_neg e] at h5
      obtain ⟨g0, cw, zw, g1, g2⟩ := H.caps x cx k c0 d e' cs t z ho1 h1 h2 h5
      have : c ≠ cx := fun q => e (H.inj x b c (by rw [h5]; rfl) hb (q ▸ h1) hc)
      exact ⟨g0, cw, zw, by simp [Array.getElem?_setIfInBounds_ne this, g1], g2⟩
  · have : c ≠ z := fun q => hn b hb (q ▸ hc)
    simp [Array.getElem?_setIfInBounds_ne this]
/-- A new block. -/
theorem HR.push {r : Env} {h : Hp} {w : World} (H : HR r h w) {o o' : Obj} (ho : OR r o o') :
    let r' : Env := fun b c => r b c ∨ (b = 2 * h.n ∧ c = w.heap.size)
    HR r' ⟨h.t.set (2 * h.n) (some o), h.n + 1⟩ { w with heap := w.heap.push o' } ∧ Fr r r' h ⟨h.t.set (2 * h.n) (some o), h.n + 1⟩ w { w with heap := w.heap.push o' } := by
  intro r'
  have hle : Le r r' := fun _ _ h => .inl h
  have old : ∀ x y, x < 2 * h.n → r' x y → r x y := fun x y hx k => k.elim id fun e => by omega
  refine ⟨⟨fun x u hx => ?_, fun x y z k1 k2 => ?_, fun x y z hx hy k1 k2 => ?_, fun x y k => ?_, fun x y k ho1 => ?_, fun x cx k c0 d e' cs t z ho1 h1 h2 h5 => ?_⟩, ⟨hle, fun x y k => H.lt x y k, by simp, by simp, fun x y k hk => ?_, fun x hlt hx => ?_, fun z hz _ => ?_, rfl, rfl, rfl⟩⟩
  · simp only [T.get_set] at hx
    by_cases e : x = 2 * h.n
    · rw [if_pos e] at hx
      cases hx
      exact ⟨w.heap.size, o', .inr ⟨e, rfl⟩, by simp, .of (by omega) (OR.mono hle _ _ ho)⟩
    · rw [if_neg e] at hx
      obtain ⟨c1, o1, k1, k2, k3⟩ := H.live x u hx
      refine ⟨c1, o1, .inl k1, ?_, k3.mono hle⟩
      have := H.size (by rw [hx]; rfl) k1
      simp [Array.getElem?_push, k2, Nat.ne_of_lt this]
  · rcases k1 with k1 | ⟨e1, e2⟩ <;> rcases k2 with k2 | ⟨e3, e4⟩
    · exact H.fn _ _ _ k1 k2
    · have := H.lt _ _ k1; omega
    · have := H.lt _ _ k2; omega
    · omega
  · simp only [T.get_set] at hx hy
    rcases k1 with k1 | ⟨e1, e2⟩ <;> rcases k2 with k2 | ⟨e3, e4⟩
    · have h1 := H.lt _ _ k1
      have h2 := H.lt _ _ k2
      rw [if_neg (by omega)] at hx hy
      exact H.inj _ _ _ hx hy k1 k2
    · have h1 := H.lt _ _ k1
      rw [if_neg (by omega)] at hx
      have := H.size hx k1
      omega
    · have h1 := H.lt _ _ k2
      rw [if_neg (by omega)] at hy
      have := H.size hy k2
      omega
    · omega
  · rcases k with k | ⟨e1, e2⟩
    · have := H.lt _ _ k
      show x < 2 * (h.n + 1)
      omega
    · show x < 2 * (h.n + 1)
      omega
  · rcases k with k | ⟨e1, e2⟩
    · have := H.odd _ _ k ho1
      show x + 11 ≤ 2 * (h.n + 1)
      omega
    · omega
  · rcases h1 with h1 | ⟨h1, _⟩
    case inr => omega
    have hb := H.odd _ _ h1 ho1
    simp only [T.get_set] at h5
    rw [if_neg (by omega)] at h5
    obtain ⟨g0, cw, zw, g1, g2⟩ := H.caps x cx k c0 d e' cs t z ho1 h1 (h2.old old (by omega)) h5
    have := H.size (by rw [h5]; rfl) h1
    exact ⟨g0, cw, zw, by simp [Array.getElem?_push, g1, Nat.ne_of_lt this], g2⟩
  · rcases k with k | ⟨e1, e2⟩
    · exact .inl k
    · exfalso; omega
  · simp only [T.get_set] at hx
    rwa [if_neg (by omega)] at hx
  · have : z ≠ w.heap.size := by omega
    simp [Array.getElem?_push, this]
theorem OR.nocells {r : Env} : ∀ (o o' : Obj), OR r o o' → (∀ cs t f, o ≠ .cells cs t f) → ∀ cs t f, o' ≠ .cells cs t f
  | .cells cs t f, _, _, h, _, _, _ => fun _ => h cs t f rfl
  | .map ⟨es⟩ c, _, k, _, _, _, _ => by simp only [OR] at k; obtain ⟨es', _, rfl⟩ := k; intro q; cases q
  | .mapIter (some m) a s b, _, k, _, _, _, _ => by simp only [OR] at k; obtain ⟨es', _, rfl⟩ := k; intro q; cases q
  | .stringIter s p, _, k, _, _, _, _ => by simp only [OR] at k; subst k; intro q; cases q
  | .mapIter none .., _, k, _, _, _, _ => by simp only [OR] at k; subst k; intro q; cases q
  | .pending .., _, k, _, _, _, _ | .view .., _, k, _, _, _, _ | .number .., _, k, _, _, _, _ | .chan .., _, k, _, _, _, _ | .loop .., _, k, _, _, _, _ | .deferred .., _, k, _, _, _, _ | .coro .., _, k, _, _, _, _ | .finalizers .., _, k, _, _, _, _ => by simp only [OR] at k
/-- New blocks come behind all that is. -/
def Tidy (h : Hp) : Prop := ∀ b, 2 * h.n ≤ b → h.t.get b = none
/-- What a run answers, every world alike answers; and what it doesn't know of stays as it is. -/
theorem run_SR {P : Program} {α : Type} {Q : Env → α → α → Prop} : ∀ (s s' : Sem α) (r : Env) (h : Hp) (w : World), SR P Q s s' r → HR r h w → Tidy h → ∀ x h1, runX P s h = some (x, h1) →
    ∃ r' w', HR r' h1 w' ∧ Tidy h1 ∧ Fr r r' h h1 w w' ∧ match x with
      | .ok v => ∃ v', s'.run P w = .ok v' w' ∧ Q r' v v'
      | .error v => ∃ v', s'.run P w = .halt (.panic v') w' ∧ VR r' v v' := by
  intro s
  induction s with
  | pure a =>
    intro s' r h w hs H hT x h1 e
    cases s' <;> simp only [SR] at hs
    simp only [runX] at e
    cases e
    exact ⟨r, w, H, hT, .refl H, _, rfl, hs⟩
  | load m a k ih =>
    intro s' r h w hs H hT x h1 e
    cases s' <;> simp only [SR] at hs
    rename_i m' a' k'
    obtain ⟨rfl, ha, hk⟩ := hs
    simp only [runX] at e
    split at e
    · rename_i cs t f hb
      split at e
      · cases e
      · rename_i hsp
        split at e
        · rename_i v hv
          obtain ⟨pre, cs', rest, z, k2, k4, kz, k5, k6, k7⟩ := H.at ha hb
          obtain ⟨v', hv', hvr⟩ := VRs.get? k4 hv
          have hcell : w.cell? a' = some v' := by
            simp only [World.cell?, k2]
            simp only [Bool.not_eq_true] at hsp
            rw [k6, hsp, k5]
            simp only [Bool.false_eq_true, if_false, List.getElem?_toArray]
            rw [row_at, List.getElem?_append_left (List.getElem?_eq_some_iff.1 hv').1, hv']
          obtain ⟨r', w', q1, q2, q3, q4⟩ := ih v _ r h w (hk v v' hvr) H hT x h1 e
          refine ⟨r', w', q1, q2, q3, ?_⟩
          simp only [Sem.run, hcell]
          exact q4
        · cases e
    · cases e
  | store m a v k ih =>
    intro s' r h w hs H hT x h1 e
    cases s' <;> simp only [SR] at hs
    rename_i a' v' k'
    obtain ⟨rfl, ha, hv, hk⟩ := hs
    simp only [runX] at e
    split at e
    · rename_i hone
      split at e
      · rename_i cs t f hb
        split at e
        · cases e
        · rename_i hsp
          split at e
          · rename_i hlt
            obtain ⟨pre, cs', rest, z, k2, k4, kz, k5, k6, k7⟩ := H.at ha hb
            have hc : r a.block a'.block := ha.choose_spec.1
            have hl := VRs.length k4
            have hz : (pre ++ (cs'.set a.off v' ++ rest)).length = (pre ++ (cs' ++ rest)).length := by simp
            obtain ⟨H', F'⟩ := H.put (o := .cells ⟨cs.set a.off v⟩ t f) (o' := .cells ⟨pre ++ (cs'.set a.off v' ++ rest)⟩ t z) (by rw [hb]; rfl) hc ⟨pre.length, k7, by simp only [OD]; exact ⟨pre, _, rest, z, rfl, VRs.set hv k4 _, by rw [hz]; exact kz, rfl⟩⟩ (fun cs1 t1 z1 e1 => by
              cases e1
              refine ⟨cs, _, _, _, hb, by simp, rfl, fun c0 z1 e1 => ?_⟩
              rw [k2] at e1
              cases e1
              simp)
            obtain ⟨r', w', q1, q2, q3, q4⟩ := ih _ r _ _ hk H' (fun b hb' => by
              simp only [T.get_set]
              rw [if_neg (by intro e; subst e; have := H.lt _ _ hc; simp only at hb'; omega)]
              exact hT b hb') x h1 e
            refine ⟨r', w', q1, q2, F'.trans q3, ?_⟩
            have hone' := VR.oneC v v' hv hone
            simp only [Bool.not_eq_true] at hsp
            have hlen : a.off + pre.length < (pre ++ (cs' ++ rest)).length := by simp; omega
            have hcell : ∃ u, w.cell? a' = some u := by
              simp only [World.cell?, k2]
              rw [k6, hsp, k5]
              exact ⟨(pre ++ (cs' ++ rest))[a.off + pre.length], by simp only [Bool.false_eq_true, if_false, List.getElem?_toArray]; exact List.getElem?_eq_getElem hlen⟩
            obtain ⟨u, hu⟩ := hcell
            have hfz : w.frozen? a' = false := by
              simp only [World.frozen?, k2, k5]
              exact kz.off hlen
            have hset : w.setCell a' v' = { w with heap := w.heap.setIfInBounds a'.block (.cells ⟨pre ++ (cs'.set a.off v' ++ rest)⟩ t z) } := by
              simp only [World.setCell]
              congr 1
              apply Array.ext_getElem?
              intro i
              have hcl := H.size (by rw [hb]; rfl) hc
              by_cases ei : i = a'.block
              · subst ei
                rw [Array.getElem?_modify, if_pos rfl, k2]
                simp only [Option.map_some, k6, hsp, Bool.false_eq_true, if_false, k5]
                rw [Array.getElem?_setIfInBounds_self_of_lt hcl]
                congr 2
                apply Array.toList_inj.1
                simp only [Array.toList_setIfInBounds]
                rw [row_set, List.set_append_left _ _ (by omega)]
              · rw [Array.getElem?_modify, if_neg (Ne.symm ei), Array.getElem?_setIfInBounds_ne (Ne.symm ei)]
            have hrun : (Sem.store m a' v' k').run P w = k'.run P (w.setCell a' v') := by
              cases v' <;> first | (simp [Sem.run, hu, hfz]; done) | (simp [EX.oneC] at hone')
            rw [hrun, hset]
            exact q4
          · cases e
      · cases e
    · cases e
  | new o k ih =>
    intro s' r h w hs H hT x h1 e
    cases s' <;> simp only [SR] at hs
    rename_i o' k'
    obtain ⟨ho, hk⟩ := hs
    simp only [runX] at e
    obtain ⟨H', F'⟩ := H.push ho
    obtain ⟨r', w', q1, q2, q3, q4⟩ := ih _ _ _ _ _ (hk _ (2 * h.n) w.heap.size F'.le (.inr ⟨rfl, rfl⟩) (.even (by omega))) H' (fun b hb' => by
      simp only [T.get_set]
      simp only at hb'
      rw [if_neg (by omega)]
      exact hT b (by omega)) x h1 e
    exact ⟨r', w', q1, q2, F'.trans q3, q4⟩
  | shape x k ih => intro s' r h w hs H hT x h1 e; simp only [runX] at e; cases e
  | freeze a n k ih => intro s' r h w hs H hT x h1 e; simp only [runX] at e; cases e
  | frozen a k ih =>
    intro s' r h w hs H hT x h1 e
    cases s' <;> simp only [SR] at hs
    obtain ⟨ha, hk⟩ := hs
    rename_i a' k'
    simp only [runX] at e
    split at e
    · rename_i cs t hb
      cases cs
      obtain ⟨pre, cs', rest, z, k2, k4, kz, k5, k6, k7⟩ := H.at ha hb
      obtain ⟨r', w', q1, q2, q3, q4⟩ := ih _ _ r h w hk H hT x h1 e
      refine ⟨r', w', q1, q2, q3, ?_⟩
      simp only [Sem.run]
      have hfz : w.frozen? a' = false := by
        rcases kz with ⟨_, rfl⟩ | ⟨h0, _⟩
        · simp [World.frozen?, k2]
        · cases h0
      rw [hfz]
      exact q4
    · cases e
  | getObj b k ih =>
    intro s' r h w hs H hT x h1 e
    cases s' <;> simp only [SR] at hs
    rename_i b' k'
    obtain ⟨hb', hk⟩ := hs
    simp only [runX] at e
    cases hb : h.t.get b with
    | none => rw [hb] at e; cases e
    | some o =>
      rw [hb] at e
      have hnc : ∀ cs t f, o ≠ .cells cs t f := fun cs t f q => by subst q; cases e
      have e' : runX P (k o) h = some (x, h1) := by
        cases o <;> first | exact e | exact absurd rfl (hnc _ _ _)
      obtain ⟨c1, o1, k1, k2, k3⟩ := H.live _ _ hb
      cases H.fn _ _ _ hb' k1
      obtain ⟨r', w', q1, q2, q3, q4⟩ := ih _ _ r h w (hk _ _ (k3.obj hnc)) H hT x h1 e'
      refine ⟨r', w', q1, q2, q3, ?_⟩
      have hno := OR.nocells _ _ (k3.obj hnc) hnc
      have : (Sem.getObj b' k').run P w = (k' o1).run P w := by
        simp only [Sem.run, k2]
      rw [this]
      exact q4
  | setObj b o k ih =>
    intro s' r h w hs H hT x h1 e
    cases s' <;> simp only [SR] at hs
    rename_i b' o' k'
    obtain ⟨hb', ho, hk⟩ := hs
    simp only [runX] at e
    cases hb : h.t.get b with
    | none => rw [hb] at e; cases e
    | some u =>
      rw [hb] at e
      have hnc : ∀ cs t f, u ≠ .cells cs t f := fun cs t f q => by subst q; cases e
      have hnn : ∀ cs t f, o ≠ .cells cs t f := fun cs t f q => by
        subst q
        cases u <;> first | cases e | exact absurd rfl (hnc _ _ _)
      have e' : runX P k ⟨h.t.set b (some o), h.n⟩ = some (x, h1) := by
        cases u <;> first | exact absurd rfl (hnc _ _ _) | (cases o <;> first | exact e | exact absurd rfl (hnn _ _ _))
      obtain ⟨c1, o1, k1, k2, k3⟩ := H.live _ _ hb
      cases H.fn _ _ _ hb' k1
      obtain ⟨H', F'⟩ := H.put (by rw [hb]; rfl) hb' (k3.set hnn ho) (fun cs t z e => absurd e (hnn _ _ _))
      obtain ⟨r', w', q1, q2, q3, q4⟩ := ih _ r _ _ hk H' (fun x hx => by
        simp only [T.get_set]
        rw [if_neg (by intro e; subst e; have := H.lt _ _ hb'; simp only at hx; omega)]
        exact hT x hx) x h1 e'
      refine ⟨r', w', q1, q2, F'.trans q3, ?_⟩
      have hno := OR.nocells _ _ (k3.obj hnc) hnc
      have : (Sem.setObj b' o' k').run P w = k'.run P { w with heap := w.heap.setIfInBounds b' o' } := by
        simp only [Sem.run, k2]
      rw [this]
      exact q4
  | choose c k ih =>
    intro s' r h w hs H hT x h1 e
    cases s' <;> simp only [SR] at hs
    obtain ⟨rfl, hk⟩ := hs
    simp only [runX] at e
    split at e
    · rename_i hf
      obtain ⟨r', w', q1, q2, q3, q4⟩ := ih _ _ r h w (hk hf) H hT x h1 e
      refine ⟨r', w', q1, q2, q3, ?_⟩
      simp only [Sem.run, hf, if_true]
      exact q4
    · cases e
  | sys c k ih => intro s' r h w hs H hT x h1 e; simp only [runX] at e; cases e
  | program k ih =>
    intro s' r h w hs H hT x h1 e
    cases s' <;> simp only [SR] at hs
    simp only [runX] at e
    exact ih _ _ r h w hs H hT x h1 e
  | mark m k ih =>
    intro s' r h w hs H hT x h1 e
    cases s' <;> simp only [SR] at hs
    simp only [runX] at e
    exact ih _ r h w hs H hT x h1 e
  | halt y =>
    intro s' r h w hs H hT x h1 e
    cases y with
    | panic v =>
      cases s' with
      | halt y =>
        cases y <;> simp only [SR] at hs
        simp only [runX] at e
        cases e
        exact ⟨r, w, H, hT, .refl H, _, rfl, hs⟩
      | _ => simp only [SR] at hs
    | _ => simp only [runX] at e; cases e
end Go.Proofs.YtmjblbgalkjmiaaGreat.EX
/- The operations, one by one: related operands give trees that do the same. -/
namespace Go.Proofs.YtmjblbgalkjmiaaGreat.EX
open Go
section
variable {P : Program}
theorem SR.b {α β : Type} {Q : Env → α → α → Prop} {R : Env → β → β → Prop} {f f' : α → Sem β} {s s' : Sem α} {r : Env} (h : SR P Q s s' r) (k : ∀ r' a a', Le r r' → Q r' a a' → SR P R (f a) (f' a') r') : SR P R (s >>= f) (s' >>= f') r := SR.bind s s' r h k
theorem Le.refl (r : Env) : Le r r := fun _ _ h => h
theorem Le.trans {a b c : Env} (h : Le a b) (k : Le b c) : Le a c := fun _x _y q => k _ _ (h _ _ q)
theorem SR.p {α : Type} {Q : Env → α → α → Prop} {a a' : α} {r : Env} (h : Q r a a') : SR P Q (pure a) (pure a') r := h
/-- Alike: the same. -/
def Eqq {α : Type} : Env → α → α → Prop := fun _ a b => a = b
theorem SR.stuck {α : Type} {Q : Env → α → α → Prop} {r : Env} (x : String) (s : Sem α) : SR P Q (stuck x) s r := by
  cases s <;> first | trivial | (simp only [Go.stuck, SR])
theorem SR.unsup {α : Type} {Q : Env → α → α → Prop} {r : Env} (x : Unsupported) (s : Sem α) : SR P Q (unsupported x) s r := by
  cases s <;> first | trivial | (simp only [Go.unsupported, SR])
theorem SR.typeInfo {r : Env} (t : TypeId) : SR P Eqq (typeInfo t) (typeInfo t) r := by
  unfold Go.typeInfo
  show SR P Eqq (match P.info? t with | some i => pure i | none => Go.stuck _) (match P.info? t with | some i => pure i | none => Go.stuck _) r
  split
  · exact SR.p rfl
  · exact SR.stuck _ _
theorem SR.underlying {r : Env} (t : TypeId) : SR P Eqq (underlying t) (underlying t) r := by
  unfold Go.underlying
  show SR P Eqq (match P.underlying t with | some i => pure i | none => Go.stuck _) (match P.underlying t with | some i => pure i | none => Go.stuck _) r
  split
  · exact SR.p rfl
  · exact SR.stuck _ _
theorem SR.sizeOf {r : Env} (t : TypeId) : SR P Eqq (Go.sizeOf t) (Go.sizeOf t) r := by
  unfold Go.sizeOf
  refine SR.b (SR.typeInfo t) fun r' a a' _ h => ?_
  cases h
  exact SR.p rfl
theorem SR.isAgg {r : Env} (t : TypeId) : SR P Eqq (Go.isAgg t) (Go.isAgg t) r := by
  unfold Go.isAgg
  refine SR.b (SR.underlying t) fun r' a a' _ h => ?_
  cases h
  split <;> exact SR.p rfl
theorem AR.add {r : Env} {a a' : Addr} (h : AR r a a') (n : Nat) : AR r (a.add n) (a'.add n) := by
  obtain ⟨d, h1, h2, h3, h4⟩ := h
  unfold Addr.add
  split
  · exact ⟨d, h1, h2, h3, h4⟩
  · exact ⟨d, h1, h2, by show a'.off + n = a.off + n + d; omega, rfl⟩
/-- An address in a block that isn't an append's. -/
theorem AR.flat {r : Env} {a : Addr} {c : Nat} (h : r a.block c) (hs : Sh r a.block 0) : AR r a { a with block := c } := ⟨0, h, hs, rfl, rfl⟩
theorem AR.even {r : Env} {a a' : Addr} (h : AR r a a') (hb : a.block % 2 = 0) : a' = { a with block := a'.block } := by
  obtain ⟨d, h1, h2, h3, h4⟩ := h
  rcases h2 with ⟨_, rfl⟩ | ⟨h2, _⟩
  · obtain ⟨b, o, s⟩ := a
    obtain ⟨b', o', s'⟩ := a'
    simp only at h3 h4
    subst h3 h4
    rfl
  · omega
theorem SR.load {r : Env} {a a' : Addr} (h : AR r a a') : SR P VR (Go.load a) (Go.load a') r := ⟨rfl, h, fun _ _ hv => hv⟩
theorem VRs.snoc {r : Env} {v v' : Value} (hv : VR r v v') : ∀ {l l' : List Value}, VRs r l l' → VRs r (l ++ [v]) (l' ++ [v'])
  | [], l', h => by cases h; exact ⟨v', [], hv, rfl, rfl⟩
  | x :: s, l', ⟨x', s', h1, h2, h3⟩ => by subst h3; exact ⟨x', s' ++ [v'], h1, VRs.snoc hv h2, rfl⟩
/-- Rows of cells alike. -/
def AVs (r : Env) (a a' : Array Value) : Prop := VRs r a.toList a'.toList
theorem SR.loadCellsFrom {a a' : Addr} : ∀ (n i : Nat) (acc acc' : Array Value) (r : Env), AR r a a' → AVs r acc acc' → SR P AVs (Go.loadCellsFrom a i n acc) (Go.loadCellsFrom a' i n acc') r
  | 0, _, _, _, _, _, hv => SR.p hv
  | n + 1, i, acc, acc', r, h, hv => by
    unfold Go.loadCellsFrom
    refine SR.b (SR.load (h.add i)) fun r' v v' hl hq => ?_
    exact SR.loadCellsFrom n (i + 1) _ _ r' (h.mono hl) (by
      unfold AVs
      simp only [Array.toList_push]
      exact VRs.snoc hq (VRs.mono hl _ _ hv))
theorem SR.loadCells {a a' : Addr} {r : Env} (n : Nat) (h : AR r a a') : SR P AVs (Go.loadCells a n) (Go.loadCells a' n) r := SR.loadCellsFrom n 0 #[] #[] r h rfl
theorem SR.storeCells {a a' : Addr} : ∀ (l l' : List Value) (i : Nat) (r : Env), AR r a a' → VRs r l l' → SR P (fun _ _ _ => True) (Go.storeCells a l i) (Go.storeCells a' l' i) r
  | [], l', i, r, h, hv => by cases hv; exact SR.p trivial
  | v :: s, l', i, r, h, ⟨v', s', h1, h2, h3⟩ => by
    subst h3
    unfold Go.storeCells
    refine SR.b (Q := fun _ _ _ => True) ⟨rfl, h.add i, h1, trivial⟩ fun r' _ _ hl _ => ?_
    exact SR.storeCells s s' (i + 1) r' (h.mono hl) (VRs.mono hl _ _ h2)
theorem VR.agg {r : Env} {a a' : Array Value} (h : AVs r a a') : VR r (.agg a) (.agg a') := by
  obtain ⟨a⟩ := a
  obtain ⟨a'⟩ := a'
  simp only [VRe]
  exact ⟨a', h, rfl⟩
theorem SR.loadVar {a a' : Addr} {r : Env} (t : TypeId) (h : AR r a a') : SR P VR (Go.loadVar t a) (Go.loadVar t a') r := by
  unfold Go.loadVar
  refine SR.b (SR.isAgg t) fun r1 x x' l1 e => ?_
  cases e
  split
  · refine SR.b (SR.sizeOf t) fun r2 n n' l2 e => ?_
    cases e
    refine SR.b (SR.loadCells n (h.mono (l1.trans l2))) fun r3 c c' l3 hc => ?_
    exact SR.p (VR.agg hc)
  · exact SR.load (h.mono l1)
theorem VRs.cells {r : Env} : ∀ (v v' : Value), VR r v v' → VRs r v.cells.toList v'.cells.toList := by
  intro v v' h
  have one : ∀ {x x' : Value}, VR r x x' → VRs r [x] [x'] := fun h => ⟨_, [], h, rfl, rfl⟩
  cases v with
  | agg cs =>
    obtain ⟨cs⟩ := cs
    simp only [VRe] at h
    obtain ⟨cs', h, rfl⟩ := h
    exact h
  | pointer a => cases a with
    | none => cases h; exact one rfl
    | some a => have h' := h; obtain ⟨c, _, rfl⟩ := h; exact one h'
  | slice a _ _ => cases a with
    | none => cases h; exact one rfl
    | some a => have h' := h; obtain ⟨b, c, a', _, _, _, _, _, rfl⟩ := h; exact one h'
  | map a => cases a with
    | none => cases h; exact one rfl
    | some a => have h' := h; obtain ⟨c, _, rfl⟩ := h; exact one h'
  | chan a => cases a with
    | none => cases h; exact one rfl
    | some a => cases h
  | func fn f c => obtain ⟨f⟩ := f; obtain ⟨c⟩ := c; have h' := h; simp only [VRe] at h; obtain ⟨_, _, _, _, rfl⟩ := h; exact one h'
  | iface t x => have h' := h; obtain ⟨_, _, rfl⟩ := h; exact one h'
  | tuple cs => obtain ⟨cs⟩ := cs; have h' := h; simp only [VRe] at h; obtain ⟨_, _, rfl⟩ := h; exact one h'
  | _ => cases h; exact one rfl
theorem SR.storeVar {a a' : Addr} {r : Env} (t : TypeId) {v v' : Value} (h : AR r a a') (hv : VR r v v') : SR P (fun _ _ _ => True) (Go.storeVar t a v) (Go.storeVar t a' v') r := by
  unfold Go.storeVar
  refine SR.b (SR.sizeOf t) fun r1 x x' l1 e => ?_
  cases e
  have hc := VRs.cells v v' hv
  have hn : v'.cells.size = v.cells.size := by simpa using VRs.length hc
  rw [hn]
  dsimp only
  split
  · exact SR.stuck _ _
  · exact SR.storeCells _ _ 0 r1 (h.mono l1) (VRs.mono l1 _ _ hc)
theorem SR.newVar {r : Env} (t : TypeId) {v v' : Value} (hv : VR r v v') : SR P AR (Go.newVar t v) (Go.newVar t v') r := by
  have hc := VRs.cells v v' hv
  refine ⟨?_, fun r' b b' _ hb hs => AR.flat (a := ⟨b, 0, none⟩) hb hs⟩
  show OR r (.cells v.cells t) (.cells v'.cells t)
  rw [show v.cells = ⟨v.cells.toList⟩ from rfl]
  simp only [OR]
  exact ⟨v'.cells.toList, [], (0, 0), hc, .inl ⟨rfl, rfl⟩, by simp⟩
end
end Go.Proofs.YtmjblbgalkjmiaaGreat.EX
/- Operations on operands without blocks: they do the same by themselves. -/
namespace Go.Proofs.YtmjblbgalkjmiaaGreat.EX
open Go
section
variable {P : Program}
/-- A tree that asks for nothing but the program. -/
def runP (P : Program) {α : Type} : Sem α → Option α
  | .pure a => some a
  | .program k => runP P (k P)
  | .mark _ k => runP P k
  | .choose q k => if q.forced then runP P (k 0) else none
  | _ => none
theorem run_runP {α : Type} : ∀ (s : Sem α) (x : α), runP P s = some x → ∀ w, s.run P w = .ok x w := by
  intro s
  induction s with
  | pure a => intro x h w; cases h; rfl
  | program k ih => intro x h w; exact ih _ x h w
  | mark m k ih => intro x h w; exact ih x h w
  | choose q k ih =>
    intro x h w
    simp only [runP] at h
    split at h
    · rename_i hf
      simp only [Sem.run, hf, if_true]
      exact ih _ x h w
    · cases h
  | _ => intro x h w; cases h
/-- A value without blocks. -/
def closed : Nat → Value → Bool
  | 0, _ => false
  | _ + 1, .bool _ | _ + 1, .int .. | _ + 1, .float .. | _ + 1, .complex .. | _ + 1, .string _ | _ + 1, .pointer none | _ + 1, .slice none _ _ | _ + 1, .map none | _ + 1, .chan none | _ + 1, .nilFunc | _ + 1, .nilIface => true
  | n + 1, .func _ f c => f.toList.all (closed n) && c.toList.all (closed n)
  | n + 1, .iface _ x => closed n x
  | n + 1, .agg cs => cs.toList.all (closed n)
  | n + 1, .tuple cs => cs.toList.all (closed n)
  | _ + 1, _ => false
theorem VRs.closed {r : Env} : ∀ (l l' : List Value), (∀ x ∈ l, ∀ v, VR r x v ↔ v = x) → (VRs r l l' ↔ l' = l)
  | [], l', _ => .rfl
  | x :: s, l', h => by
    have ih := fun s' => VRs.closed s s' (fun y hy => h y (by simp [hy]))
    constructor
    · rintro ⟨x', s', h1, h2, h3⟩
      rw [h3, (h x (by simp) x').1 h1, (ih s').1 h2]
    · intro e
      exact ⟨x, s, (h x (by simp) x).2 rfl, (ih s).2 rfl, e⟩
theorem VR.closed {r : Env} : ∀ (n : Nat) (v v' : Value), EX.closed n v = true → (VR r v v' ↔ v' = v) := by
  intro n
  induction n with
  | zero => intro v v' h; cases h
  | succ n ih =>
    intro v v' h
    have rows : ∀ (l l' : List Value), l.all (EX.closed n) = true → (VRs r l l' ↔ l' = l) := fun l l' hl => VRs.closed l l' fun x hx v => ih x v (List.all_eq_true.1 hl x hx)
    cases v with
    | pointer a => cases a with
      | none => exact .rfl
      | some a => cases h
    | slice a _ _ => cases a with
      | none => exact .rfl
      | some a => cases h
    | map a => cases a with
      | none => exact .rfl
      | some a => cases h
    | chan a => cases a with
      | none => exact .rfl
      | some a => cases h
    | func fn f c =>
      obtain ⟨f⟩ := f
      obtain ⟨c⟩ := c
      simp only [EX.closed, Bool.and_eq_true] at h
      simp only [VRe]
      constructor
      · rintro ⟨f', c', h1, h2, rfl⟩
        rw [(rows _ _ h.1).1 h1, (rows _ _ h.2).1 h2]
      · rintro rfl
        exact ⟨f, c, (rows _ _ h.1).2 rfl, (rows _ _ h.2).2 rfl, rfl⟩
    | iface t x =>
      simp only [EX.closed] at h
      simp only [VRe]
      constructor
      · rintro ⟨x', h1, rfl⟩
        rw [(ih _ _ h).1 h1]
      · rintro rfl
        exact ⟨x, (ih _ _ h).2 rfl, rfl⟩
    | agg cs =>
      obtain ⟨cs⟩ := cs
      simp only [EX.closed] at h
      simp only [VRe]
      constructor
      · rintro ⟨x', h1, rfl⟩
        rw [(rows _ _ h).1 h1]
      · rintro rfl
        exact ⟨cs, (rows _ _ h).2 rfl, rfl⟩
    | tuple cs =>
      obtain ⟨cs⟩ := cs
      simp only [EX.closed] at h
      simp only [VRe]
      constructor
      · rintro ⟨x', h1, rfl⟩
        rw [(rows _ _ h).1 h1]
      · rintro rfl
        exact ⟨cs, (rows _ _ h).2 rfl, rfl⟩
    | _ => exact .rfl
/-- Deferred calls of function values, alike. -/
def DfR (r : Env) (d d' : Deferred) : Prop :=
  match d with
  | ⟨.fn (.func g) cap, args⟩ => ∃ cap' args', VRs r cap.toList cap'.toList ∧ VRs r args.toList args'.toList ∧ d' = ⟨.fn (.func g) cap', args'⟩
  | _ => False
/-- What an operation comes to, alike. -/
def NR (r : Env) : Next → Next → Prop
  | .value v, n => ∃ v', VR r v v' ∧ n = .value v'
  | .skip, n => n = .skip
  | .enter f args, n => ∃ args', AVs r args args' ∧ n = .enter f args'
  | .defer d, n => ∃ d', DfR r d d' ∧ n = .defer d'
  | _, _ => False
theorem SR.mono {α : Type} {Q R : Env → α → α → Prop} (s s' : Sem α) (r : Env) (h : SR P Q s s' r) (k : ∀ r a a', Q r a a' → R r a a') : SR P R s s' r := by
  have := SR.bind (f := Sem.pure) (f' := Sem.pure) s s' r h fun r' a a' _ hq => (show SR P R (.pure a) (.pure a') r' from k _ _ _ hq)
  have e : ∀ s : Sem α, s.bind Sem.pure = s := by
    intro s
    induction s with
    | pure a => rfl
    | load m a k ih => simp only [Sem.bind]; congr 1; funext x; exact ih x
    | store m a v k ih => simp only [Sem.bind]; congr 1
    | new o k ih => simp only [Sem.bind]; congr 1; funext x; exact ih x
    | shape x k ih => simp only [Sem.bind]; congr 1; funext x; exact ih x
    | freeze a n k ih => simp only [Sem.bind]; congr 1
    | frozen a k ih => simp only [Sem.bind]; congr 1; funext x; exact ih x
    | getObj b k ih => simp only [Sem.bind]; congr 1; funext x; exact ih x
    | setObj b o k ih => simp only [Sem.bind]; congr 1
    | choose q k ih => simp only [Sem.bind]; congr 1; funext x; exact ih x
    | sys c k ih => simp only [Sem.bind]; congr 1; funext x; exact ih x
    | program k ih => simp only [Sem.bind]; congr 1; funext x; exact ih x
    | mark m k ih => simp only [Sem.bind]; congr 1
    | halt h => rfl
  rwa [e, e] at this
/-- An operation that yields a value. -/
theorem SR.v {r : Env} {s s' : Sem Value} (h : SR P VR s s' r) : SR P NR (do pure (.value (← s))) (do pure (.value (← s'))) r :=
  SR.b h fun _r' _a a' _ hq => SR.p ⟨a', hq, rfl⟩
theorem SR.u {r : Env} {Q : Env → Unit → Unit → Prop} {s s' : Sem Unit} (h : SR P Q s s' r) : SR P NR (do s; pure .skip) (do s'; pure .skip) r :=
  SR.b h fun _r' _a _a' _ _hq => SR.p rfl
theorem SR.sureAddr {r : Env} {v v' : Value} (h : VR r v v') : SR P AR (Instr.sureAddr v) (Instr.sureAddr v') r := by
  cases v with
  | pointer a => cases a with
    | none => exact SR.stuck _ _
    | some a => obtain ⟨c, h1, rfl⟩ := h; exact SR.p h1
  | _ => exact SR.stuck _ _
theorem SR.loadAt {r : Env} (t : TypeId) {v v' : Value} (h : VR r v v') : SR P VR (Instr.loadAt t v) (Instr.loadAt t v') r :=
  SR.b (SR.sureAddr h) fun _ _ _ _ ha => SR.loadVar t ha
theorem SR.storeAt {r : Env} (t : TypeId) {v v' x x' : Value} (h : VR r v v') (hx : VR r x x') : SR P (fun _ _ _ => True) (Instr.storeAt t v x) (Instr.storeAt t v' x') r :=
  SR.b (SR.sureAddr h) fun _ _ _ hl ha => SR.storeVar t ha (hx.mono hl)
theorem AR.ptr {r : Env} {a a' : Addr} (h : AR r a a') : VR r (.pointer (some a)) (.pointer (some a')) := ⟨a', h, rfl⟩
theorem SR.box {r : Env} (t : TypeId) {v v' : Value} (h : VR r v v') : SR P VR (Instr.box t v) (Instr.box t v') r :=
  SR.b (SR.newVar t h) fun _ _ _ _ ha => SR.p ha.ptr
theorem SR.asIntOf {r : Env} {v v' : Value} (h : VR r v v') : SR P Eqq (asIntOf v) (asIntOf v') r := by
  cases v with
  | int k n => cases h; exact SR.p rfl
  | pointer a => cases a with
    | none => exact SR.stuck _ _
    | some a => exact SR.unsup _ _
  | _ => exact SR.stuck _ _
theorem SR.partAt {r : Env} {a a' : Addr} (x y : Nat) (h : AR r a a') : SR P AR (partAt a x y) (partAt a' x y) r := by
  obtain ⟨d, _, _, _, h4⟩ := h
  obtain ⟨b, o, s⟩ := a
  obtain ⟨b', o', s'⟩ := a'
  simp only at h4
  subst h4
  cases s' <;> trivial
theorem SR.fieldPlace {r : Env} {a a' : Addr} (f : Field) (h : AR r a a') : SR P AR (fieldPlace a f) (fieldPlace a' f) r := by
  unfold Go.fieldPlace
  refine SR.b (SR.sizeOf _) fun r1 n n' l1 e => ?_
  cases e
  split
  · exact SR.partAt _ _ (h.mono l1)
  · exact SR.p ((h.mono l1).add _)
theorem SR.fieldAt {r : Env} (t : TypeId) {v v' : Value} (f : Nat) (h : VR r v v') : SR P VR (Instr.fieldAt t v f) (Instr.fieldAt t v' f) r := by
  unfold Instr.fieldAt
  refine SR.b (SR.underlying t) fun r1 d d' l1 e => ?_
  cases e
  split
  · split
    · refine SR.b (SR.sureAddr (h.mono l1)) fun r2 a a' _ ha => ?_
      exact SR.b (SR.fieldPlace _ ha) fun _ _ _ _ hp => SR.p hp.ptr
    · exact SR.stuck _ _
  · exact SR.stuck _ _
theorem SR.boundsPanic {α : Type} {Q : Env → α → α → Prop} {r : Env} (k : IntKind) (x y : Int) (c : BoundsCode) : SR P Q (boundsPanic k x y c) (boundsPanic k x y c) r := by
  have key : ∀ (r : Env) (b : Bool), SR P Q (runtimePanic (.bounds (IntKind.i64.wrap x) y b c)) (runtimePanic (.bounds (IntKind.i64.wrap x) y b c)) r := fun r b => by
    exact (VR.closed (r := r) 3 (Value.iface P.rt.boundsError (.agg #[.int .i64 (IntKind.i64.wrap x), .int .i64 y, .bool b, .int .u8 c.toNat])) (Value.iface P.rt.boundsError (.agg #[.int .i64 (IntKind.i64.wrap x), .int .i64 y, .bool b, .int .u8 c.toNat])) rfl).2 rfl
  unfold Go.boundsPanic
  dsimp only
  split
  · refine SR.b (Q := Eqq) ⟨rfl, fun hf => ?_⟩ fun r1 s s' _ e => ?_
    · cases hf
    · cases e
      exact key _ _
  · exact key _ _
/-- Where there may be none. -/
def OA (r : Env) : Option Addr → Option Addr → Prop
  | none, none => True
  | some a, some b => AR r a b
  | _, _ => False
theorem OA.mono {r r' : Env} (hl : Le r r') : ∀ {a b : Option Addr}, OA r a b → OA r' a b
  | none, none, _ => trivial
  | some _, some _, h => AR.mono hl h
theorem SR.indexAt {r : Env} (t : TypeId) {x x' i i' : Value} (h : VR r x x') (hi : VR r i i') : SR P VR (Instr.indexAt t x i) (Instr.indexAt t x' i') r := by
  unfold Instr.indexAt
  refine SR.b (SR.asIntOf hi) fun r1 k k' l1 e => ?_
  cases e
  obtain ⟨k, i⟩ := k
  dsimp only
  refine SR.b (SR.underlying t) fun r2 d d' l2 e => ?_
  cases e
  have h2 := h.mono (l1.trans l2)
  have tail : ∀ (why : Unsupported) (b b' : Option Addr) (n : Nat) (el : TypeId) (r3 : Env), (OA r3 b b' ∨ (n = 0 ∧ b.isSome ∧ b'.isSome)) → SR P VR
      (do let u ← Go.underlying t
          match b with
          | some a => if 0 ≤ i ∧ i < n then do pure (.pointer (some (a.add (i.toNat * (← Go.sizeOf el))))) else if (decide (n ≤ 1) && (match u with | .array .. => true | _ => false)) = true then unsupported why else Go.boundsPanic k i n .index
          | none => Go.boundsPanic k i 0 .index)
      (do let u ← Go.underlying t
          match b' with
          | some a => if 0 ≤ i ∧ i < n then do pure (.pointer (some (a.add (i.toNat * (← Go.sizeOf el))))) else if (decide (n ≤ 1) && (match u with | .array .. => true | _ => false)) = true then unsupported why else Go.boundsPanic k i n .index
          | none => Go.boundsPanic k i 0 .index) r3 := by
    intro why b b' n el r3 hb
    refine SR.b (SR.underlying t) fun r4 d d' l4 e => ?_
    cases e
    cases b with
    | none => cases b' with
      | none => exact SR.boundsPanic _ _ _ _
      | some _ => rcases hb with hb | hb; · exact hb.elim
                  · cases hb.2.1
    | some a => cases b' with
      | none => rcases hb with hb | hb; · exact hb.elim
                · cases hb.2.2
      | some a' =>
        dsimp only
        split
        · rename_i hin
          refine SR.b (SR.sizeOf _) fun r5 z z' l5 e => ?_
          cases e
          rcases hb with hb | hb
          · exact SR.p ((AR.mono (l4.trans l5) hb).add _).ptr
          · exfalso; omega
        · generalize (decide (n ≤ 1) && _) = q
          cases q
          · exact SR.boundsPanic _ _ _ _
          · exact SR.unsup _ _
  cases d with
  | array len el =>
    dsimp only
    exact SR.b (SR.sureAddr h2) fun r3 a a' l3 ha => tail _ (some a) (some a') len el r3 (.inl ha)
  | slice el =>
    cases x with
    | slice b n c =>
      cases b with
      | none => cases h2; exact tail .addressObserved none none n el r2 (.inl trivial)
      | some a =>
        obtain ⟨a', c2, h3, h4, h7, rfl⟩ := h2
        refine tail _ (some a) (some a') n el r2 ?_
        rcases h7 with h7 | h7
        · exact .inr ⟨h7.1, rfl, rfl⟩
        · exact .inl h7
    | _ => exact SR.stuck _ _
  | _ => exact SR.stuck _ _
end
end Go.Proofs.YtmjblbgalkjmiaaGreat.EX
/- More operations: parts, fields, slices, what is made. -/
namespace Go.Proofs.YtmjblbgalkjmiaaGreat.EX
open Go
section
variable {P : Program}
/-- No function has the name that the model answers itself. -/
def NG (P : Program) : Prop := ∀ (f : FuncId) (fn : Func), P.funcs[f]? = some fn → (fn.name == "runtime.NumGoroutine") = false
/-- No zero value bears blocks. -/
def Zc (P : Program) : Prop := (∀ t i v, P.info? t = some i → i.zero = some v → closed 64 v = true) ∧ NG P
theorem VRs.drop {r : Env} : ∀ (n : Nat) {l l' : List Value}, VRs r l l' → VRs r (l.drop n) (l'.drop n)
  | 0, l, l', h => by simpa using h
  | n + 1, [], l', h => by cases h; simp [VRs]
  | n + 1, x :: s, l', ⟨x', s', h1, h2, h3⟩ => by subst h3; simpa using VRs.drop n h2
theorem VRs.take {r : Env} : ∀ (n : Nat) {l l' : List Value}, VRs r l l' → VRs r (l.take n) (l'.take n)
  | 0, l, l', h => by simp [VRs]
  | n + 1, [], l', h => by cases h; simp [VRs]
  | n + 1, x :: s, l', ⟨x', s', h1, h2, h3⟩ => by subst h3; simp only [List.take_succ_cons]; exact ⟨x', s'.take n, h1, VRs.take n h2, rfl⟩
theorem VRs.append {r : Env} : ∀ {l l' m m' : List Value}, VRs r l l' → VRs r m m' → VRs r (l ++ m) (l' ++ m')
  | [], l', m, m', h, k => by cases h; exact k
  | x :: s, l', m, m', ⟨x', s', h1, h2, h3⟩, k => by subst h3; exact ⟨x', s' ++ m', h1, VRs.append h2 k, rfl⟩
theorem AVs.extract {r : Env} {a a' : Array Value} (h : AVs r a a') (i j : Nat) : AVs r (a.extract i j) (a'.extract i j) := by
  unfold AVs at *
  simp only [Array.toList_extract, List.extract_eq_take_drop]
  exact VRs.take _ (VRs.drop _ h)
theorem AVs.mono {r r' : Env} (hl : Le r r') {a a' : Array Value} (h : AVs r a a') : AVs r' a a' := VRs.mono hl _ _ h
theorem SR.asAgg {r : Env} {v v' : Value} (h : VR r v v') : SR P AVs (asAgg v) (asAgg v') r := by
  cases v with
  | agg cs => obtain ⟨cs⟩ := cs; simp only [VRe] at h; obtain ⟨cs', h, rfl⟩ := h; exact SR.p h
  | _ => exact SR.stuck _ _
theorem SR.part {r : Env} (t : TypeId) {a a' : Array Value} (off : Nat) (h : AVs r a a') : SR P VR (part t a off) (part t a' off) r := by
  unfold Go.part
  refine SR.b (SR.isAgg t) fun r1 x x' l1 e => ?_
  cases e
  split
  · refine SR.b (SR.sizeOf t) fun r2 n n' l2 e => ?_
    cases e
    exact SR.p (VR.agg ((h.mono (l1.trans l2)).extract _ _))
  · cases he : a[off]? with
    | none => exact SR.stuck _ _
    | some v =>
      obtain ⟨v', hv', hr⟩ := VRs.get? h (i := off) (v := v) (by simpa using he)
      have : a'[off]? = some v' := by simpa using hv'
      rw [this]
      exact SR.p (hr.mono l1)
theorem SR.field {r : Env} (t : TypeId) {v v' : Value} (f : Nat) (h : VR r v v') : SR P VR (Instr.field t v f) (Instr.field t v' f) r := by
  unfold Instr.field
  refine SR.b (SR.underlying t) fun r1 d d' l1 e => ?_
  cases e
  cases d with
  | struct fields =>
    dsimp only
    cases fields[f]? with
    | none => exact SR.stuck _ _
    | some f => exact SR.b (SR.asAgg (h.mono l1)) fun r2 a a' _ ha => SR.part _ _ ha
  | _ => exact SR.stuck _ _
theorem SR.extract {r : Env} {v v' : Value} (i : Nat) (h : VR r v v') : SR P VR (Instr.extract v i) (Instr.extract v' i) r := by
  cases v with
  | tuple cs =>
    obtain ⟨cs⟩ := cs
    simp only [VRe] at h
    obtain ⟨cs', h, rfl⟩ := h
    unfold Instr.extract
    dsimp only
    cases he : cs[i]? with
    | none => 
      have : (⟨cs⟩ : Array Value)[i]? = none := by simpa using he
      rw [this]; exact SR.stuck _ _
    | some x =>
      obtain ⟨x', hx', hr⟩ := VRs.get? h he
      have e1 : (⟨cs⟩ : Array Value)[i]? = some x := by simpa using he
      have e2 : (⟨cs'⟩ : Array Value)[i]? = some x' := by simpa using hx'
      rw [e1, e2]
      exact SR.p hr
  | _ => exact SR.stuck _ _
theorem SR.zeroValue {r : Env} (hz : Zc P) (t : TypeId) : SR P (fun r a b => a = b ∧ VR r a b) (zeroValue t) (zeroValue t) r := by
  unfold Go.zeroValue Go.typeInfo
  show SR P _ ((match P.info? t with | some i => pure i | none => Go.stuck _ : Sem TypeInfo) >>= _) ((match P.info? t with | some i => pure i | none => Go.stuck _ : Sem TypeInfo) >>= _) r
  cases hi : P.info? t with
  | none => exact SR.stuck _ _
  | some i =>
    show SR P _ (match i.zero with | some v => pure v | none => _) (match i.zero with | some v => pure v | none => _) r
    cases hv : i.zero with
    | none => exact SR.unsup _ _
    | some v => exact SR.p ⟨rfl, (VR.closed 64 v v (hz.1 t i v hi hv)).2 rfl⟩
theorem SR.alloc {r : Env} (hz : Zc P) (t : TypeId) : SR P VR (Instr.alloc t true (.tuple #[])) (Instr.alloc t true (.tuple #[])) r := by
  unfold Instr.alloc
  refine SR.b (SR.zeroValue hz t) fun r1 z z' l1 e => ?_
  exact SR.b (SR.newVar t e.2) fun _ _ _ _ ha => SR.p ha.ptr
theorem SR.newRow {r : Env} (t : TypeId) {a a' : Array Value} (h : AVs r a a') : SR P AR (newRow t a) (newRow t a') r := by
  refine ⟨?_, fun r' b b' _ hb hs => AR.flat (a := ⟨b, 0, none⟩) hb hs⟩
  show OR r (.cells a t) (.cells a' t)
  rw [show a = ⟨a.toList⟩ from rfl]
  simp only [OR]
  exact ⟨a'.toList, [], (0, 0), h, .inl ⟨rfl, rfl⟩, by simp⟩
theorem SR.makeFunc {r : Env} (fn : Fn) {f f' c c' : Array Value} (hf : AVs r f f') (hc : AVs r c c') : SR P VR (Instr.makeFunc fn f c) (Instr.makeFunc fn f' c') r := by
  refine SR.p ?_
  obtain ⟨f⟩ := f; obtain ⟨c⟩ := c; obtain ⟨f'⟩ := f'; obtain ⟨c'⟩ := c'
  simp only [VRe]
  exact ⟨f', c', hf, hc, rfl⟩
theorem SR.makeInterface {r : Env} (t : TypeId) {v v' : Value} (h : VR r v v') : SR P VR (Instr.makeInterface t v) (Instr.makeInterface t v') r := by
  unfold Instr.makeInterface
  refine SR.b (SR.underlying t) fun r1 d d' l1 e => ?_
  cases e
  split
  · exact SR.stuck _ _
  · refine SR.p ?_
    simp only [VRe]
    exact ⟨v', h.mono l1, rfl⟩
theorem SR.makeMap {r : Env} (t : TypeId) : SR P VR (Instr.makeMap t none) (Instr.makeMap t none) r := by
  refine ⟨?_, fun r' b b' _ hb _ => ⟨b', hb, rfl⟩⟩
  show OR r (.map #[] 0) (.map #[] 0)
  exact ⟨[], rfl, rfl⟩
theorem SR.sliceBound {r : Env} {v v' : Value} (y : Nat) (c : BoundsCode) (h : VR r v v') : SR P Eqq (Instr.sliceBound v y c) (Instr.sliceBound v' y c) r := by
  unfold Instr.sliceBound
  refine SR.b (SR.asIntOf h) fun r1 k k' l1 e => ?_
  cases e
  dsimp only
  split
  · exact SR.p rfl
  · exact SR.boundsPanic _ _ _ _
end
end Go.Proofs.YtmjblbgalkjmiaaGreat.EX
