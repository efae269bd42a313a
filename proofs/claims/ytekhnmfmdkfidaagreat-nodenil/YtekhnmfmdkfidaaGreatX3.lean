/- Trees that only load: the world stays the same one. -/
import Derived.Test.YtekhnmfmdkfidaaGreatX2
import Derived.Laws.Append
import Derived.Laws.AppendOwn
import Derived.Laws.CopyRow
import Derived.Orders
namespace Go.Proofs.YtekhnmfmdkfidaaGreat.EX
open Go
section
variable {P : Program}
def runL (P : Program) {α : Type} : Sem α → Hp → Option α
  | .pure a, _ => some a
  | .load _ a k, h => match h.t.get a.block with
    | some (.cells ⟨cs⟩ _ _) => if a.spot.isSome then none else match cs[a.off]? with
      | some v => runL P (k v) h
      | none => none
    | _ => none
  | .program k, h => runL P (k P) h
  | .mark _ k, h => runL P k h
  | .choose q k, h => if q.forced then runL P (k 0) h else none
  | _, _ => none
theorem run_SRL {α : Type} {Q : Env → α → α → Prop} : ∀ (s s' : Sem α) (r : Env) (h : Hp) (w : World), SR P Q s s' r → HR r h w → ∀ x, runL P s h = some x → ∃ x', s'.run P w = .ok x' w ∧ Q r x x' := by
  intro s
  induction s with
  | pure a =>
    intro s' r h w hs H x e
    cases s' <;> simp only [SR] at hs
    cases e
    exact ⟨_, rfl, hs⟩
  | load m a k ih =>
    intro s' r h w hs H x e
    cases s' <;> simp only [SR] at hs
    obtain ⟨rfl, ⟨c, hc, rfl⟩, hk⟩ := hs
    simp only [runL] at e
    split at e
    · rename_i cs t f hb
      split at e
      · cases e
      · rename_i hsp
        split at e
        · rename_i v hv
          obtain ⟨c1, o1, k1, k2, k3⟩ := H.live _ _ hb
          cases H.fn _ _ _ hc k1
          simp only [OR] at k3
          obtain ⟨rfl, cs', rest, k4, rfl⟩ := k3
          obtain ⟨v', hv', hvr⟩ := VRs.get? k4 hv
          have hcell : w.cell? { a with block := c } = some v' := by
            simp only [World.cell?, k2]
            simp only [Bool.not_eq_true] at hsp
            simp [hsp, List.getElem?_append_left (List.getElem?_eq_some_iff.1 hv').1, hv']
          obtain ⟨x', q1, q2⟩ := ih v _ r h w (hk v v' hvr) H x e
          refine ⟨x', ?_, q2⟩
          simp only [Sem.run, hcell]
          exact q1
        · cases e
    · cases e
  | program k ih =>
    intro s' r h w hs H x e
    cases s' <;> simp only [SR] at hs
    exact ih _ _ r h w hs H x e
  | mark m k ih =>
    intro s' r h w hs H x e
    cases s' <;> simp only [SR] at hs
    exact ih _ r h w hs H x e
  | choose c k ih =>
    intro s' r h w hs H x e
    cases s' <;> simp only [SR] at hs
    obtain ⟨rfl, hk⟩ := hs
    simp only [runL] at e
    split at e
    · rename_i hf
      obtain ⟨x', q1, q2⟩ := ih _ _ r h w (hk hf) H x e
      refine ⟨x', ?_, q2⟩
      simp only [Sem.run, hf, if_true]
      exact q1
    · cases e
  | _ => intro s' r h w hs H x e; cases e
end
end Go.Proofs.YtekhnmfmdkfidaaGreat.EX
/- Appends beyond what is there. -/
namespace Go.Proofs.YtekhnmfmdkfidaaGreat.EX
open Go
section
variable {P : Program}
/-- What an append does, where there is no room: in words of what its parts answer. -/
theorem run_moves {ts : Array TypeId} {ty st xt e : TypeId} {xd : TypeDesc} {args : Array Value} {base : Option Addr} {n c m : Nat} {x : Value} {i : TypeInfo} {z : Value} {old new : Array Value} (w : World)
    (e1 : ts[0]? = some st) (e2 : ts[1]? = some xt) (e3 : args[0]? = some (.slice base n c)) (e4 : args[1]? = some x) (ht : P.underlying st = some (.slice e)) (hx : P.underlying xt = some xd) (hni : ∀ k, xd ≠ .int k) (hi : P.info? e = some i) (hz : i.zero = some z)
    (hlen : Builtin.lenOf x = pure m) (ho : (Builtin.firstCells i.size n (.slice base n c)).run P w.drew = .ok old w.drew) (hn : (Builtin.firstCells i.size m x).run P w.drew = .ok new w.drew)
    (hg : c < n + m) (h63 : ((n + m : Nat) : Int) ≤ 9223372036854775807) (hfit : Builtin.nextslicecap (n + m) c * i.bytes ≤ 281474976710656) :
    (Builtin.append_ ts ty args).run P w = .ok (.slice (some ⟨w.heap.size, 0, none⟩) (n + m) (grownCap w (n + m) c e)) (w.drew.alloc (.cells (old ++ new ++ Builtin.zeroCells z.cells (grownCap w (n + m) c e - (n + m))) e)) := by
  have hle : ¬ (n + m ≤ c) := by omega
  have h63' : ¬ (9223372036854775807 < ((n : Int) + (m : Int))) := by omega
  have h48' : ¬ (281474976710656 < Builtin.nextslicecap (n + m) c * i.bytes) := by omega
  simp [Builtin.append_, e1, e2, e3, e4, run_underlying ht, run_underlying hx, sizeOf, typeInfo, zeroValue, hi, hz, hlen, hle, h63', h48', Question.forced, ho, hn, newRow, grownCap]
/-- The same, for what is made at once. -/
theorem run_moves_make {ts : Array TypeId} {ty st xt e : TypeId} {k k' : IntKind} {args : Array Value} {base : Option Addr} {n c m : Nat} {i : TypeInfo} {z : Value} {old : Array Value} (w : World)
    (e1 : ts[0]? = some st) (e2 : ts[1]? = some xt) (e3 : args[0]? = some (.slice base n c)) (e4 : args[1]? = some (.int k' (m : Int))) (ht : P.underlying st = some (.slice e)) (hx : P.underlying xt = some (.int k)) (hi : P.info? e = some i) (hz : i.zero = some z)
    (ho : (Builtin.firstCells i.size n (.slice base n c)).run P w.drew = .ok old w.drew) (h0 : 0 < m * i.size) (hm : m < 1099511627776) (hmb : m * i.bytes ≤ 281474976710656)
    (hg : c < n + m) (h63 : ((n + m : Nat) : Int) ≤ 9223372036854775807) (hfit : Builtin.nextslicecap (n + m) c * i.bytes ≤ 281474976710656) :
    (Builtin.append_ ts ty args).run P w = .ok (.slice (some ⟨w.heap.size, 0, none⟩) (n + m) (grownCap w (n + m) c e)) (w.drew.alloc (.cells (old ++ Builtin.zeroCells z.cells m ++ Builtin.zeroCells z.cells (grownCap w (n + m) c e - (n + m))) e)) := by
  have hle : ¬ (n + m ≤ c) := by omega
  have h63' : ¬ (9223372036854775807 < ((n : Int) + (m : Int))) := by omega
  have h48' : ¬ (281474976710656 < Builtin.nextslicecap (n + m) c * i.bytes) := by omega
  have hneg : ¬ ((m : Int) < 0) := by omega
  have h48a : ¬ (281474976710656 < (m : Int) * (i.bytes : Int)) := by
    rw [← Int.natCast_mul]
    omega
  have hw : IntKind.i64.wrap (m : Int) = (m : Int) := by
    simp [IntKind.wrap, IntKind.bits, IntKind.signed]
    omega
  have hms : ¬ (m * i.size = 0) := by omega
  simp [Builtin.append_, e1, e2, e3, e4, run_underlying ht, run_underlying hx, sizeOf, typeInfo, zeroValue, hi, hz, asInt, asIntOf, hw, hneg, h48a, hle, h63', h48', Question.forced, ho, newRow, grownCap]
  exact fun h => absurd h hms
/-- What an append does, where there is room. -/
theorem run_stays {ts : Array TypeId} {ty st xt e : TypeId} {xd : TypeDesc} {args : Array Value} {g n c m : Nat} {x : Value} {i : TypeInfo} {new cur : Array Value} {t : TypeId} (w : World)
    (e1 : ts[0]? = some st) (e2 : ts[1]? = some xt) (e3 : args[0]? = some (.slice (some ⟨g, 0, none⟩) n c)) (e4 : args[1]? = some x) (ht : P.underlying st = some (.slice e)) (hx : P.underlying xt = some xd) (hni : ∀ k, xd ≠ .int k) (hi : P.info? e = some i)
    (hlen : Builtin.lenOf x = pure m) (hn : (Builtin.firstCells i.size m x).run P w = .ok new w) (hle : n + m ≤ c) (hg : w.heap[g]? = some (.cells cur t (0, 0))) (hfit : n * i.size + new.toList.length ≤ cur.size) (h1 : ∀ u ∈ new.toList, u.oneCell' = true) :
    (Builtin.append_ ts ty args).run P w = .ok (.slice (some ⟨g, 0, none⟩) (n + m) c) (w.setRow g (cur.toList.take (n * i.size) ++ new.toList ++ cur.toList.drop (n * i.size + new.toList.length)).toArray) := by
  have hst := run_storeCells_at P g (n * i.size) t new.toList 0 cur w hg (by simpa using hfit) h1
  simp only [Nat.add_zero] at hst
  simp [Builtin.append_, e1, e2, e3, e4, run_underlying ht, run_underlying hx, sizeOf, typeInfo, hi, hlen, hle, hn, Addr.add_lit, hst]
end
end Go.Proofs.YtekhnmfmdkfidaaGreat.EX
/- A block that an append makes: heaps. -/
namespace Go.Proofs.YtekhnmfmdkfidaaGreat.EX
open Go
def GrowE (r : Env) (n C X k c0 : Nat) : Env := fun b c => r b c ∨ (b = 2 * n + 1 ∧ c = C) ∨ (b = 2 * n + 2 ∧ c = X) ∨ (b = 2 * n + 4 ∧ c = X + 1 + k) ∨ (b = 2 * n + 6 ∧ c = X + 1 + c0)
def dropT (d : Option Nat) (t : T Obj) : T Obj :=
  match d with
  | some b => t.set b none
  | none => t
theorem dropT_get (d : Option Nat) (t : T Obj) (b : Nat) : (dropT d t).get b = if some b = d then none else t.get b := by
  cases d with
  | none => simp [dropT]
  | some x =>
    simp only [dropT, T.get_set]
    by_cases e : b = x
    · subst e; simp
    · rw [if_neg e, if_neg (by simpa using e)]
theorem HR.grow {r : Env} {h : Hp} {w w2 : World} (H : HR r h w) (hT : Tidy h) (d : Option Nat) {cs : List Value} {e : TypeId} {cw : Array Value} {zw : Nat × Nat} {C k c0 : Nat} (hor : OR r (.cells ⟨cs⟩ e (0, 0)) (.cells cw e zw))
    (hsz : w.heap.size ≤ w2.heap.size) (hkeep : ∀ x c1, (h.t.get x).isSome → some x ≠ d → r x c1 → w2.heap[c1]? = w.heap[c1]? ∧ c1 ≠ C) (hC : w2.heap[C]? = some (.cells cw e zw)) (hnew : C < w.heap.size → ∃ b0, (h.t.get b0).isSome ∧ r b0 C)
    (hfr : ∀ c, c < w.heap.size → (∀ b, (h.t.get b).isSome → ¬ r b c) → w2.heap[c]? = w.heap[c]?) (hcap : k * cs.length ≤ cw.size * c0) (hos : w2.os = w.os) (htp : w2.tape = w.tape) (hout : w2.output = w.output) :
    HR (GrowE r h.n C (w.heap.size + 1) k c0) ⟨(dropT d h.t).set (2 * h.n + 1) (some (.cells ⟨cs⟩ e (0, 0))), h.n + 4⟩ w2 ∧ Tidy ⟨(dropT d h.t).set (2 * h.n + 1) (some (.cells ⟨cs⟩ e (0, 0))), h.n + 4⟩ ∧
      Fr r (GrowE r h.n C (w.heap.size + 1) k c0) h ⟨(dropT d h.t).set (2 * h.n + 1) (some (.cells ⟨cs⟩ e (0, 0))), h.n + 4⟩ w w2 := by
  have hle : Le r (GrowE r h.n C (w.heap.size + 1) k c0) := fun _ _ h => .inl h
  have old : ∀ x y, x < 2 * h.n → GrowE r h.n C (w.heap.size + 1) k c0 x y → r x y := fun x y hx q => q.elim id fun q => by omega
  have one : ∀ y, GrowE r h.n C (w.heap.size + 1) k c0 (2 * h.n + 1) y → y = C := fun y q => by
    rcases q with q | q | q | q | q
    · have := H.lt _ _ q; omega
    all_goals omega
  have two : ∀ y, GrowE r h.n C (w.heap.size + 1) k c0 (2 * h.n + 1 + 1) y → y = w.heap.size + 1 := fun y q => by
    rcases q with q | q | q | q | q
    · have := H.lt _ _ q; omega
    all_goals omega
  have three : ∀ y, GrowE r h.n C (w.heap.size + 1) k c0 (2 * h.n + 1 + 3) y → y = w.heap.size + 1 + 1 + k := fun y q => by
    rcases q with q | q | q | q | q
    · have := H.lt _ _ q; omega
    all_goals omega
  have four : ∀ y, GrowE r h.n C (w.heap.size + 1) k c0 (2 * h.n + 1 + 5) y → y = w.heap.size + 1 + 1 + c0 := fun y q => by
    rcases q with q | q | q | q | q
    · have := H.lt _ _ q; omega
    all_goals omega
  have get1 : ∀ x, ((dropT d h.t).set (2 * h.n + 1) (some (.cells ⟨cs⟩ e (0, 0)))).get x = if x = 2 * h.n + 1 then some (.cells ⟨cs⟩ e (0, 0)) else if some x = d then none else h.t.get x := fun x => by rw [T.get_set, dropT_get]
  have live1 : ∀ x u, x ≠ 2 * h.n + 1 → ((dropT d h.t).set (2 * h.n + 1) (some (.cells ⟨cs⟩ e (0, 0)))).get x = some u → h.t.get x = some u ∧ some x ≠ d ∧ x < 2 * h.n := fun x u hx hu => by
    rw [get1, if_neg hx] at hu
    by_cases hd : some x = d
    · rw [if_pos hd] at hu; cases hu
    · rw [if_neg hd] at hu
      refine ⟨hu, hd, ?_⟩
      obtain ⟨c, _, q, _⟩ := H.live x u hu
      exact H.lt x c q
  refine ⟨⟨fun x u hx => ?_, fun x y z k1 k2 => ?_, fun x y z hx hy k1 k2 => ?_, fun x y q => ?_, fun x y q ho1 => ?_, fun x cx X kk cc cs1 t z1 ho1 h1 h2 h3 h4 h5 => ?_⟩, fun b hb => ?_, ⟨hle, fun x y q => H.lt x y q, hsz, by simp, fun x y q hq => ?_, fun x hlt hx => ?_, hfr, hos, htp, hout⟩⟩
  · by_cases hx1 : x = 2 * h.n + 1
    · rw [get1, if_pos hx1] at hx
      cases hx
      exact ⟨C, _, .inr (.inl ⟨hx1, rfl⟩), hC, OR.mono hle _ _ hor⟩
    · obtain ⟨q1, q2, q3⟩ := live1 x u hx1 hx
      obtain ⟨c1, o1, g1, g2, g3⟩ := H.live x u q1
      obtain ⟨g4, _⟩ := hkeep x c1 (by rw [q1]; rfl) q2 g1
      exact ⟨c1, o1, .inl g1, by rw [g4]; exact g2, OR.mono hle _ _ g3⟩
  · rcases k1 with k1 | k1
    · have h1 := H.lt _ _ k1
      exact H.fn _ _ _ k1 (old _ _ h1 k2)
    · rcases k2 with k2 | k2
      · have := H.lt _ _ k2; omega
      · omega
  · obtain ⟨u, hu⟩ := Option.isSome_iff_exists.1 hx
    obtain ⟨v, hv⟩ := Option.isSome_iff_exists.1 hy
    by_cases hx1 : x = 2 * h.n + 1
    · by_cases hy1 : y = 2 * h.n + 1
      · omega
      · exfalso
        obtain ⟨q1, q2, q3⟩ := live1 y v hy1 hv
        have g := old _ _ q3 k2
        subst hx1
        have := one _ k1
        exact (hkeep y z (by rw [q1]; rfl) q2 g).2 this
    · obtain ⟨q1, q2, q3⟩ := live1 x u hx1 hu
      have g := old _ _ q3 k1
      by_cases hy1 : y = 2 * h.n + 1
      · exfalso
        subst hy1
        have := one _ k2
        exact (hkeep x z (by rw [q1]; rfl) q2 g).2 this
      · obtain ⟨p1, p2, p3⟩ := live1 y v hy1 hv
        exact H.inj x y z (by rw [q1]; rfl) (by rw [p1]; rfl) g (old _ _ p3 k2)
  · show x < 2 * (h.n + 4)
    rcases q with q | q
    · have := H.lt _ _ q; omega
    · omega
  · show x + 7 ≤ 2 * (h.n + 4)
    rcases q with q | q
    · have := H.odd _ _ q ho1; omega
    · omega
  · by_cases hx1 : x = 2 * h.n + 1
    · rw [get1, if_pos hx1] at h5
      cases h5
      subst hx1
      have e1 := one _ h1
      have e2 := two _ h2
      have e3 := three _ h3
      have e4 := four _ h4
      refine ⟨cw, zw, by rw [e1]; exact hC, ?_⟩
      rw [show kk = k by omega, show cc = c0 by omega]
      exact hcap
    · obtain ⟨q1, q2, q3⟩ := live1 x _ hx1 h5
      have g := old _ _ q3 h1
      have hb := H.odd _ _ g ho1
      obtain ⟨cs', z', g1, g2⟩ := H.caps x cx X kk cc cs1 t z1 ho1 g (old _ _ (by omega) h2) (old _ _ (by omega) h3) (old _ _ (by omega) h4) q1
      obtain ⟨g4, _⟩ := hkeep x cx (by rw [q1]; rfl) q2 g
      exact ⟨cs', z', by rw [g4]; exact g1, g2⟩
  · simp only at hb
    rw [get1, if_neg (by omega)]
    have := hT b (by omega)
    rw [this]
    split <;> rfl
  · rcases q with q | q
    · exact .inl q
    · right
      have hx : 2 * h.n ≤ x := by omega
      refine ⟨hx, ?_⟩
      have hc : y < w.heap.size := hq.elim id fun q2 => by omega
      have : y = C := by omega
      rw [this] at hc ⊢
      exact hnew hc
  · simp only at hx
    rw [get1, if_neg (by omega)] at hx
    by_cases hd : some x = d
    · rw [if_pos hd] at hx; cases hx
    · rwa [if_neg hd] at hx
/-- What is known of the slice that is answered. -/
theorem VR.grow (r : Env) (n C X k c0 m c' : Nat) (h1 : m ≤ c') (h2 : c' ≤ k) (h3 : c0 = m) : VR (GrowE r n C X k c0) (.slice (some ⟨2 * n + 1, 0, none⟩) m m) (.slice (some ⟨C, 0, none⟩) m c') := by
  refine (VRe _).2.2.2.2.2.2.2.2.1 _ _ _ _ |>.2 ⟨C, c', ⟨C, 0, none⟩, .inr (.inl ⟨rfl, rfl⟩), fun e => by simp only at e; omega, ⟨h1, fun _ _ _ => .inr ⟨X, k, h2, .inr (.inr (.inl ⟨rfl, rfl⟩)), .inr (.inr (.inr (.inl ⟨rfl, rfl⟩))), .inr (.inr (.inr (.inr ⟨rfl, by rw [h3]⟩)))⟩⟩, rfl, .inr rfl, rfl⟩
end Go.Proofs.YtekhnmfmdkfidaaGreat.EX
/- Appends without room. -/
namespace Go.Proofs.YtekhnmfmdkfidaaGreat.EX
open Go
section
variable {P : Program}
/-- What is there, and the block that is given up. -/
def appO (P : Program) (e : TypeId) (base : Option Addr) (n c : Nat) (i : TypeInfo) (h : Hp) : Option (List Value × Option Nat) :=
  match base with
  | none => some ([], none)
  | some a => bif Nat.beq (a.block % 2) 0 then (runL P (Builtin.firstCells i.size n (.slice (some a) n c)) h).map fun l => (l.toList, none)
    else bif Nat.beq a.off 0 && a.spot.isNone && Nat.ble 1 c && Nat.ble n c then match h.t.get a.block with
      | some (.cells ⟨cs⟩ t _) => bif Nat.beq t e && Nat.beq cs.length (c * i.size) then some (cs.take (n * i.size), some a.block) else none
      | _ => none
    else none
/-- What is appended; whether it is made at once. -/
def appN (P : Program) (xd : TypeDesc) (x : Value) (i : TypeInfo) (z : Value) (h : Hp) : Option (Nat × List Value × Bool) :=
  match xd with
  | .int _ => match x with
    | .int _ (.ofNat m) => bif Nat.ble (m + 1) 1099511627776 && Nat.ble 1 (m * i.size) && Nat.ble (m * i.bytes) 281474976710656 then some (m, (Builtin.zeroCells z.cells m).toList, true) else none
    | _ => none
  | _ => match lenV x with
    | some m => (runL P (Builtin.firstCells i.size m x) h).bind fun l => bif l.toList.all oneC then some (m, l.toList, false) else none
    | none => none
def appP (P : Program) (ts : Array TypeId) (args : Array Value) (h : Hp) : Option (Value × Obj × Option Nat) :=
  match ts[0]?, ts[1]?, args[0]?, args[1]? with
  | some st, some xt, some s, some x => match s with
    | .slice base n c => match P.underlying st with
      | some (.slice e) => match P.underlying xt, P.info? e with
        | some xd, some i => match i.zero with
          | some z => match appN P xd x i z h with
            | some (m, new, mk) => match appO P e base n c i h with
              | some (old, d) => bif Nat.ble (c + 1) (n + m) && Nat.ble (2 * (n + m) * (i.bytes + 1)) 281474976710656 && Nat.beq z.cells.size i.size && Nat.beq old.length (n * i.size) && Nat.beq new.length (m * i.size) && (!mk || d.isNone) then
                  some (.slice (some ⟨2 * h.n + 1, 0, none⟩) (n + m) (n + m), .cells ⟨old ++ new⟩ e (0, 0), d) else none
              | none => none
            | none => none
          | none => none
        | _, _ => none
      | _ => none
    | _ => none
  | _, _, _, _ => none
def appX (P : Program) (ts : Array TypeId) (args : Array Value) (h : Hp) : Option (Value × Hp) :=
  match appP P ts args h with
  | some (v, o, d) => some (v, ⟨(dropT d h.t).set (2 * h.n + 1) (some o), h.n + 4⟩)
  | none => none
/-- An append. -/
def appOp : Op → Option (Array TypeId × Array Operand)
  | .call { callee := .builtin .append, args := as, argTypes := ts } => some (ts, as)
  | _ => none
theorem oneC_cell (v : Value) : oneC v = v.oneCell' := by cases v <;> rfl
theorem HR.drew {r : Env} {h : Hp} {w : World} (H : HR r h w) : HR r h w.drew := ⟨H.live, H.fn, H.inj, H.lt, H.odd, H.caps⟩
/-- The world moves. -/
theorem app_moves (hz : Zc P) {r : Env} {h : Hp} {w : World} (H : HR r h w) (hT : Tidy h) {ts : Array TypeId} {ty st xt e : TypeId} {xd : TypeDesc} {args' : Array Value} {base' : Option Addr} {n m c' : Nat} {x x' : Value} {i : TypeInfo} {z : Value} {old new : List Value} {old' : Array Value} {mk : Bool} {d : Option Nat}
    (e1 : ts[0]? = some st) (e2 : ts[1]? = some xt) (e3 : args'[0]? = some (.slice base' n c')) (e4 : args'[1]? = some x') (ht : P.underlying st = some (.slice e)) (hx : P.underlying xt = some xd) (hi : P.info? e = some i) (hzz : i.zero = some z)
    (hN : appN P xd x i z h = some (m, new, mk)) (hxx : VR r x x') (hO : (Builtin.firstCells i.size n (.slice base' n c')).run P w.drew = .ok old' w.drew) (hoo : VRs r old old'.toList)
    (hg : c' < n + m) (hfit : 2 * (n + m) * (i.bytes + 1) ≤ 281474976710656) (hzs : z.cells.size = i.size) (hol : old.length = n * i.size) (hnl : new.length = m * i.size) :
    ∃ r' w' v', (Builtin.append_ ts ty args').run P w = .ok v' w' ∧ VR r' (.slice (some ⟨2 * h.n + 1, 0, none⟩) (n + m) (n + m)) v' ∧ HR r' ⟨(dropT d h.t).set (2 * h.n + 1) (some (.cells ⟨old ++ new⟩ e (0, 0))), h.n + 4⟩ w' ∧ Tidy ⟨(dropT d h.t).set (2 * h.n + 1) (some (.cells ⟨old ++ new⟩ e (0, 0))), h.n + 4⟩ ∧
      Fr r r' h ⟨(dropT d h.t).set (2 * h.n + 1) (some (.cells ⟨old ++ new⟩ e (0, 0))), h.n + 4⟩ w w' := by
  have hb1 : 2 * (n + m) ≤ 2 * (n + m) * (i.bytes + 1) := Nat.le_mul_of_pos_right _ (Nat.succ_pos _)
  have hb2 : 2 * (n + m) * i.bytes ≤ 2 * (n + m) * (i.bytes + 1) := Nat.mul_le_mul_left _ (Nat.le_succ _)
  have h63 : ((n + m : Nat) : Int) ≤ 9223372036854775807 := by omega
  have hnx : Builtin.nextslicecap (n + m) c' * i.bytes ≤ 281474976710656 := Nat.le_trans (Nat.le_trans (Nat.mul_le_mul_right _ (nextslicecap_le hg)) hb2) hfit
  have key : ∃ new' : Array Value, VRs r new new'.toList ∧ (Builtin.append_ ts ty args').run P w = .ok (.slice (some ⟨w.heap.size, 0, none⟩) (n + m) (grownCap w (n + m) c' e)) (w.drew.alloc (.cells (old' ++ new' ++ Builtin.zeroCells z.cells (grownCap w (n + m) c' e - (n + m))) e)) := by
    unfold appN at hN
    split at hN
    · rename_i kk
      split at hN
      · rename_i k2 m2
        cases hc : (Nat.ble (m2 + 1) 1099511627776 && Nat.ble 1 (m2 * i.size) && Nat.ble (m2 * i.bytes) 281474976710656) with
        | false => rw [hc] at hN; cases hN
        | true =>
          rw [hc] at hN
          cases hN
          simp only [Bool.and_eq_true] at hc
          obtain ⟨⟨g1, g2⟩, g3⟩ := hc
          have g1 := Nat.le_of_ble_eq_true g1
          have g2 := Nat.le_of_ble_eq_true g2
          have g3 := Nat.le_of_ble_eq_true g3
          have hx' : x' = .int k2 (Int.ofNat m) := hxx
          subst hx'
          have hzc := hz.1 e i z hi hzz
          have hcl : VR r z z := (VR.closed 64 z z hzc).2 rfl
          exact ⟨Builtin.zeroCells z.cells m, zeros_alike z.cells (VRs.cells z z hcl) _, run_moves_make w e1 e2 e3 e4 ht hx hi hzz hO (by omega) (by omega) g3 hg h63 hnx⟩
      · cases hN
    · rename_i hni
      split at hN
      · rename_i m2 hm
        cases e5 : runL P (Builtin.firstCells i.size m2 x) h with
        | none => rw [e5] at hN; cases hN
        | some l =>
          rw [e5] at hN
          simp only [Option.bind] at hN
          cases e6 : l.toList.all oneC with
          | false => rw [e6] at hN; cases hN
          | true =>
            rw [e6] at hN
            cases hN
            have hlk : lenOK m x = true := by
              cases x with
              | slice q k c => cases hm; simp [lenOK]
              | _ => rfl
            obtain ⟨new', q1, q2⟩ := run_SRL _ _ r h w.drew (SR.firstCells (P := P) i.size m hxx hlk) H.drew _ e5
            have hlen : Builtin.lenOf x' = pure m := by
              cases x with
              | slice q k c =>
                cases hm
                have : ∃ q' c', x' = .slice q' m c' := by
                  cases q with
                  | none => exact ⟨_, _, hxx⟩
                  | some q => obtain ⟨_, c', a2, _, _, _, _, _, rfl⟩ := hxx; exact ⟨_, _, rfl⟩
                obtain ⟨q', c', rfl⟩ := this
                rfl
              | string b =>
                cases hm
                cases hxx
                rfl
              | _ => cases hm
            exact ⟨new', q2, run_moves w e1 e2 e3 e4 ht hx (fun k q => hni k q) hi hzz hlen hO q1 hg h63 hnx⟩
      · cases hN
  obtain ⟨new', hnn, hrun⟩ := key
  have hge := grownCap_ge w (n + m) c' e
  have hol' := VRs.length hoo
  have hnl' := VRs.length hnn
  obtain ⟨G1, G2, G3⟩ := H.grow (w2 := w.drew.alloc (.cells (old' ++ new' ++ Builtin.zeroCells z.cells (grownCap w (n + m) c' e - (n + m))) e)) hT d (cs := old ++ new) (e := e) (cw := old' ++ new' ++ Builtin.zeroCells z.cells (grownCap w (n + m) c' e - (n + m))) (zw := (0, 0)) (C := w.heap.size) (k := grownCap w (n + m) c' e) (c0 := n + m)
    (by
      simp only [OR]
      refine ⟨trivial, old'.toList ++ new'.toList, (Builtin.zeroCells z.cells (grownCap w (n + m) c' e - (n + m))).toList, VRs.append hoo hnn, ?_⟩
      congr 1
      apply Array.toList_inj.1
      simp) (by show w.heap.size ≤ (w.heap.push _).size; simp) (fun x c1 hl _ hr => by
        have := H.size hl hr
        exact ⟨by show (w.heap.push _)[c1]? = w.heap[c1]?; simp [Array.getElem?_push, Nat.ne_of_lt this], Nat.ne_of_lt this⟩) (by show (w.heap.push _)[w.heap.size]? = _; simp) (fun hlt => absurd hlt (Nat.lt_irrefl _)) (fun c hc _ => by show (w.heap.push _)[c]? = w.heap[c]?; simp [Array.getElem?_push, Nat.ne_of_lt hc]) (by
      simp only [List.length_append, Array.size_append, size_zeroCells, hol, hnl, hzs]
      have s1 : old'.size = n * i.size := by rw [← hol, ← hol']; simp
      have s2 : new'.size = m * i.size := by rw [← hnl, ← hnl']; simp
      rw [s1, s2, ← Nat.add_mul, ← Nat.add_mul, show n + m + (grownCap w (n + m) c' e - (n + m)) = grownCap w (n + m) c' e by omega, Nat.mul_comm (n + m) i.size, ← Nat.mul_assoc]
      exact Nat.le_refl _) rfl rfl rfl
  exact ⟨_, _, _, hrun, VR.grow r h.n w.heap.size (w.heap.size + 1) (grownCap w (n + m) c' e) (n + m) (n + m) (grownCap w (n + m) c' e) hge (Nat.le_refl _) rfl, G1, G2, G3⟩
end
end Go.Proofs.YtekhnmfmdkfidaaGreat.EX
/- Appends without room, where the world has some; the whole. -/
namespace Go.Proofs.YtekhnmfmdkfidaaGreat.EX
open Go
section
variable {P : Program}
theorem heap_setRow (w : World) (g : Nat) (cs : Array Value) (c : Nat) : (w.setRow g cs).heap[c]? = if c = g then (w.heap[g]?).map (fun o => match o with | .cells _ e z => .cells cs e z | o => o) else w.heap[c]? := by
  unfold World.setRow
  simp only [Array.getElem?_modify]
  by_cases h : c = g
  · subst h; simp; rfl
  · rw [if_neg h, if_neg (Ne.symm h)]
theorem app_new {r : Env} {h : Hp} {w : World} (H : HR r h w) {xd : TypeDesc} {x x' : Value} {i : TypeInfo} {z : Value} {m : Nat} {new : List Value} (hN : appN P xd x i z h = some (m, new, false)) (hxx : VR r x x') :
    (∀ k, xd ≠ .int k) ∧ Builtin.lenOf x' = pure m ∧ ∃ new' : Array Value, VRs r new new'.toList ∧ (Builtin.firstCells i.size m x').run P w = .ok new' w ∧ ∀ u ∈ new'.toList, u.oneCell' = true := by
  unfold appN at hN
  split at hN
  · split at hN
    · rename_i m2
      cases hc : (Nat.ble (m2 + 1) 1099511627776 && Nat.ble 1 (m2 * i.size) && Nat.ble (m2 * i.bytes) 281474976710656) with
      | false => rw [hc] at hN; cases hN
      | true => rw [hc] at hN; cases hN
    · cases hN
  · rename_i hni
    split at hN
    · rename_i m2 hm
      cases e5 : runL P (Builtin.firstCells i.size m2 x) h with
      | none => rw [e5] at hN; cases hN
      | some l =>
        rw [e5] at hN
        simp only [Option.bind] at hN
        cases e6 : l.toList.all oneC with
        | false => rw [e6] at hN; cases hN
        | true =>
          rw [e6] at hN
          cases hN
          have hlk : lenOK m x = true := by
            cases x with
            | slice q k c => cases hm; simp [lenOK]
            | _ => rfl
          obtain ⟨new', q1, q2⟩ := run_SRL _ _ r h w (SR.firstCells (P := P) i.size m hxx hlk) H _ e5
          have hlen : Builtin.lenOf x' = pure m := by
            cases x with
            | slice q k c =>
              cases hm
              have : ∃ q' c', x' = .slice q' m c' := by
                cases q with
                | none => exact ⟨_, _, hxx⟩
                | some q => obtain ⟨_, c', a2, _, _, _, _, _, rfl⟩ := hxx; exact ⟨_, _, rfl⟩
              obtain ⟨q', c', rfl⟩ := this
              rfl
            | string b =>
              cases hm
              cases hxx
              rfl
            | _ => cases hm
          refine ⟨fun k q => hni k q, hlen, new', q2, q1, ?_⟩
          have one : ∀ (a b : List Value), VRs r a b → a.all oneC = true → ∀ u ∈ b, u.oneCell' = true := by
            intro a
            induction a with
            | nil => intro b hb _ u hu; cases hb; cases hu
            | cons y s ih =>
              intro b hb ha u hu
              obtain ⟨y', s', g1, g2, rfl⟩ := hb
              simp only [List.all_cons, Bool.and_eq_true] at ha
              rcases List.mem_cons.1 hu with e | e
              · subst e; rw [← oneC_cell]; exact VR.oneC _ _ g1 ha.1
              · exact ih s' g2 ha.2 u e
          exact one _ _ q2 e6
    · cases hN
theorem app_stays {r : Env} {h : Hp} {w : World} (H : HR r h w) (hT : Tidy h) {ts : Array TypeId} {ty st xt e : TypeId} {xd : TypeDesc} {args' : Array Value} {b g n m c c' : Nat} {x x' : Value} {i : TypeInfo} {z : Value} {new cs : List Value} {zz : Nat × Nat}
    (e1 : ts[0]? = some st) (e2 : ts[1]? = some xt) (e3 : args'[0]? = some (.slice (some ⟨g, 0, none⟩) n c')) (e4 : args'[1]? = some x') (ht : P.underlying st = some (.slice e)) (hx : P.underlying xt = some xd) (hi : P.info? e = some i)
    (hN : appN P xd x i z h = some (m, new, false)) (hxx : VR r x x') (hb : b % 2 = 1) (hr : r b g) (hlive : h.t.get b = some (.cells ⟨cs⟩ e zz)) (hcl : cs.length = c * i.size) (hnc : n ≤ c) (hc1 : 1 ≤ c) (hcap : CapOK r ⟨b, 0, none⟩ c c')
    (hg1 : c < n + m) (hg2 : n + m ≤ c') (hnl : new.length = m * i.size) :
    ∃ r' w' v', (Builtin.append_ ts ty args').run P w = .ok v' w' ∧ VR r' (.slice (some ⟨2 * h.n + 1, 0, none⟩) (n + m) (n + m)) v' ∧ HR r' ⟨(dropT (some b) h.t).set (2 * h.n + 1) (some (.cells ⟨cs.take (n * i.size) ++ new⟩ e (0, 0))), h.n + 4⟩ w' ∧ Tidy ⟨(dropT (some b) h.t).set (2 * h.n + 1) (some (.cells ⟨cs.take (n * i.size) ++ new⟩ e (0, 0))), h.n + 4⟩ ∧
      Fr r r' h ⟨(dropT (some b) h.t).set (2 * h.n + 1) (some (.cells ⟨cs.take (n * i.size) ++ new⟩ e (0, 0))), h.n + 4⟩ w w' := by
  obtain ⟨hni, hlen, new', hnn, hrn, hone⟩ := app_new H hN hxx
  obtain ⟨X, k, hk, k1, k2, k3⟩ : ∃ X k, c' ≤ k ∧ r (b + 1) X ∧ r (b + 3) (X + 1 + k) ∧ r (b + 5) (X + 1 + c) := by
    rcases hcap hb rfl hc1 with q | q
    · omega
    · exact q
  obtain ⟨cw, zw, hcw, hkw⟩ := H.caps b g X k c cs e zz hb hr k1 k2 k3 hlive
  obtain ⟨g2, o2, q1, q2, q3⟩ := H.live b _ hlive
  cases H.fn _ _ _ hr q1
  rw [hcw] at q2
  cases q2
  simp only [OR] at q3
  obtain ⟨q4, cs', rest, q5, q6⟩ := q3
  cases q6
  have hl := VRs.length q5
  have hks : k * i.size ≤ (cs' ++ rest).length := by
    rw [hcl] at hkw
    have : (k * i.size) * c ≤ (cs' ++ rest).length * c := by
      calc (k * i.size) * c = k * (c * i.size) := by rw [Nat.mul_assoc, Nat.mul_comm i.size c]
        _ ≤ _ := hkw
    exact Nat.le_of_mul_le_mul_right this (by omega)
  have hnl' := VRs.length hnn
  have hfit : n * i.size + new'.toList.length ≤ (cs' ++ rest).length := by
    rw [hnl', hnl, ← Nat.add_mul]
    exact Nat.le_trans (Nat.mul_le_mul_right _ (Nat.le_trans hg2 hk)) hks
  have hrun := run_stays (ty := ty) w e1 e2 e3 e4 ht hx hni hi hlen hrn hg2 hcw hfit hone
  have hgs := H.size (by rw [hlive]; rfl) hr
  have htk : (cs' ++ rest).take (n * i.size) = cs'.take (n * i.size) := by
    rw [List.take_append_of_le_length]
    rw [hl, hcl]
    exact Nat.mul_le_mul_right _ hnc
  have hlenw : ((cs' ++ rest).take (n * i.size) ++ new'.toList ++ (cs' ++ rest).drop (n * i.size + new'.toList.length)).length = (cs' ++ rest).length := by
    simp only [List.length_append, List.length_take, List.length_drop] at hfit ⊢
    omega
  obtain ⟨G1, G2, G3⟩ := H.grow (w2 := w.setRow g ((cs' ++ rest).take (n * i.size) ++ new'.toList ++ (cs' ++ rest).drop (n * i.size + new'.toList.length)).toArray) hT (some b) (cs := cs.take (n * i.size) ++ new) (e := e) (cw := ((cs' ++ rest).take (n * i.size) ++ new'.toList ++ (cs' ++ rest).drop (n * i.size + new'.toList.length)).toArray) (zw := (0, 0)) (C := g) (k := k) (c0 := n + m)
    (by
      simp only [OR]
      refine ⟨trivial, cs'.take (n * i.size) ++ new'.toList, (cs' ++ rest).drop (n * i.size + new'.toList.length), VRs.append (VRs.take _ q5) hnn, ?_⟩
      rw [htk]) (by simp [World.setRow]) (fun x c1 hl1 hd hr1 => by
        have : c1 ≠ g := fun q => hd (by rw [H.inj x b g hl1 (by rw [hlive]; rfl) (q ▸ hr1) hr])
        rw [heap_setRow, if_neg this]
        exact ⟨rfl, this⟩) (by rw [heap_setRow, if_pos rfl, hcw]; rfl) (fun _ => ⟨b, by rw [hlive]; rfl, hr⟩) (fun c1 _ hno => by
        have : c1 ≠ g := fun q => hno b (by rw [hlive]; rfl) (q ▸ hr)
        rw [heap_setRow, if_neg this]) (by
      rw [List.size_toArray, hlenw, List.length_append, hnl, List.length_take, hcl, Nat.min_eq_left (Nat.mul_le_mul_right _ hnc), ← Nat.add_mul, Nat.mul_comm (n + m) i.size, ← Nat.mul_assoc]
      exact Nat.mul_le_mul_right _ hks) rfl rfl rfl
  exact ⟨_, _, _, hrun, VR.grow r h.n g (w.heap.size + 1) k (n + m) (n + m) c' hg2 hk rfl, G1, G2, G3⟩
/-- An append without room: every world alike does it. -/
theorem appP_sound (hz : Zc P) {r : Env} {h : Hp} {w : World} (H : HR r h w) (hT : Tidy h) {ts : Array TypeId} (ty : TypeId) {args args' : Array Value} (ha : AVs r args args') {v : Value} {ob : Obj} {dd : Option Nat} (he : appP P ts args h = some (v, ob, dd)) :
    ∃ r' w' v', (Builtin.append_ ts ty args').run P w = .ok v' w' ∧ VR r' v v' ∧ HR r' ⟨(dropT dd h.t).set (2 * h.n + 1) (some ob), h.n + 4⟩ w' ∧ Tidy ⟨(dropT dd h.t).set (2 * h.n + 1) (some ob), h.n + 4⟩ ∧ Fr r r' h ⟨(dropT dd h.t).set (2 * h.n + 1) (some ob), h.n + 4⟩ w w' := by
  unfold appP at he
  have a0 := VRs.at ha 0
  have a1 := VRs.at ha 1
  cases e1 : ts[0]? with
  | none => rw [e1] at he; cases he
  | some st =>
  cases e2 : ts[1]? with
  | none => rw [e1, e2] at he; cases he
  | some xt =>
  cases f3 : args[0]? with
  | none => rw [e1, e2, f3] at he; cases he
  | some s =>
  cases f4 : args[1]? with
  | none => rw [e1, e2, f3, f4] at he; cases he
  | some x =>
  rw [e1, e2, f3, f4] at he
  rw [f3] at a0
  rw [f4] at a1
  cases e3 : args'[0]? with
  | none => rw [e3] at a0; exact a0.elim
  | some s' =>
  cases e4 : args'[1]? with
  | none => rw [e4] at a1; exact a1.elim
  | some x' =>
  rw [e3] at a0
  rw [e4] at a1
  have hss : VR r s s' := a0
  have hxx : VR r x x' := a1
  dsimp only at he
  cases s with
  | slice base n c =>
    dsimp only at he
    split at he
    · rename_i e ht
      split at he
      · rename_i xd i hx hi
        split at he
        · rename_i z hzz
          split at he
          · rename_i m new mk hN
            split at he
            · rename_i old d hO
              cases hc : (Nat.ble (c + 1) (n + m) && Nat.ble (2 * (n + m) * (i.bytes + 1)) 281474976710656 && Nat.beq z.cells.size i.size && Nat.beq old.length (n * i.size) && Nat.beq new.length (m * i.size) && (!mk || d.isNone)) with
              | false => rw [hc] at he; cases he
              | true =>
                rw [hc] at he
                simp only [cond, Option.some.injEq, Prod.mk.injEq] at he
                obtain ⟨he1, he2, he3⟩ := he
                subst he1 he2 he3
                simp only [Bool.and_eq_true] at hc
                obtain ⟨⟨⟨⟨⟨b1, b2⟩, b3⟩, b4⟩, b5⟩, b6⟩ := hc
                have b1 := Nat.le_of_ble_eq_true b1
                have b2 := Nat.le_of_ble_eq_true b2
                have b3 := Nat.eq_of_beq_eq_true b3
                have b4 := Nat.eq_of_beq_eq_true b4
                have b5 := Nat.eq_of_beq_eq_true b5
                unfold appO at hO
                cases base with
                | none =>
                  simp only [Option.some.injEq, Prod.mk.injEq] at hO
                  obtain ⟨rfl, rfl⟩ := hO
                  have : s' = .slice none n c := hss
                  subst this
                  exact app_moves hz H hT e1 e2 e3 e4 ht hx hi hzz hN hxx (old' := #[]) rfl rfl (by omega) b2 b3 b4 b5
                | some a =>
                  dsimp only at hO
                  obtain ⟨bw, c', a2, g1, g2, g3, g4, g5, rfl⟩ := hss
                  cases hev : Nat.beq (a.block % 2) 0 with
                  | true =>
                    rw [hev] at hO
                    simp only [cond] at hO
                    cases e5 : runL P (Builtin.firstCells i.size n (.slice (some a) n c)) h with
                    | none => rw [e5] at hO; cases hO
                    | some l =>
                      rw [e5] at hO
                      simp only [Option.map_some, Option.some.injEq, Prod.mk.injEq] at hO
                      obtain ⟨rfl, rfl⟩ := hO
                      have hcc : c' = c := g2 (Nat.eq_of_beq_eq_true hev)
                      subst hcc
                      obtain ⟨old', q1, q2⟩ := run_SRL _ _ r h w.drew (SR.firstCells (P := P) i.size n (show VR r (.slice (some a) n c') (.slice (some a2) n c') from ⟨bw, c', a2, g1, g2, g3, g4, g5, rfl⟩) (by simp [lenOK])) H.drew _ e5
                      exact app_moves hz H hT e1 e2 e3 e4 ht hx hi hzz hN hxx q1 q2 (by omega) b2 b3 b4 b5
                  | false =>
                    rw [hev] at hO
                    simp only [cond] at hO
                    have hodd : a.block % 2 = 1 := by
                      have : a.block % 2 ≠ 0 := fun q => by rw [q] at hev; cases hev
                      omega
                    cases hk : (Nat.beq a.off 0 && a.spot.isNone && Nat.ble 1 c && Nat.ble n c) with
                    | false => rw [hk] at hO; cases hO
                    | true =>
                      rw [hk] at hO
                      simp only at hO
                      simp only [Bool.and_eq_true] at hk
                      obtain ⟨⟨⟨k1, k2⟩, k3⟩, k4⟩ := hk
                      have k1 := Nat.eq_of_beq_eq_true k1
                      have k3 := Nat.le_of_ble_eq_true k3
                      have k4 := Nat.le_of_ble_eq_true k4
                      obtain ⟨ab, ao, asp⟩ := a
                      simp only at k1 k2 hodd
                      subst k1
                      have : asp = none := by cases asp with | none => rfl | some _ => cases k2
                      subst this
                      split at hO
                      · rename_i cs t zz hlive
                        cases hl : (Nat.beq t e && Nat.beq cs.length (c * i.size)) with
                        | false => rw [hl] at hO; cases hO
                        | true =>
                          rw [hl] at hO
                          simp only [Option.some.injEq, Prod.mk.injEq] at hO
                          obtain ⟨rfl, rfl⟩ := hO
                          simp only [Bool.and_eq_true] at hl
                          have l1 := Nat.eq_of_beq_eq_true hl.1
                          have l2 := Nat.eq_of_beq_eq_true hl.2
                          subst l1
                          have hmk : mk = false := by simpa using b6
                          subst hmk
                          have ha2 : a2 = ⟨bw, 0, none⟩ := by
                            rcases g5 with g5 | g5
                            · omega
                            · exact g5
                          subst ha2
                          by_cases hmv : c' < n + m
                          · -- the world moves
                            obtain ⟨gw, ow, q1, q2, q3⟩ := H.live ab _ hlive
                            cases H.fn _ _ _ g1 q1
                            simp only [OR] at q3
                            obtain ⟨_, cs', rest, q5, rfl⟩ := q3
                            have hl' := VRs.length q5
                            have hle : n * i.size ≤ cs'.length := by rw [hl', l2]; exact Nat.mul_le_mul_right _ k4
                            have hrow : (loadCells ⟨bw, 0, none⟩ (cs'.take (n * i.size)).length).run P w.drew = .ok (cs'.take (n * i.size)).toArray w.drew := run_loadCells_list w.drew ⟨bw, 0, none⟩ (cs'.take (n * i.size)) fun j u hu => by
                              have hj : j < n * i.size ∧ cs'[j]? = some u := by
                                rw [List.getElem?_take] at hu
                                split at hu
                                · rename_i hj; exact ⟨hj, hu⟩
                                · cases hu
                              have hadd : (⟨bw, 0, none⟩ : Addr).add j = ⟨bw, j, none⟩ := by unfold Addr.add; split <;> simp_all
                              rw [hadd]
                              have hjl : j < cs'.length := (List.getElem?_eq_some_iff.1 hj.2).1
                              have hdh : w.drew.heap[bw]? = some (.cells ⟨cs' ++ rest⟩ t (0, 0)) := q2
                              simp [World.cell?, hdh, List.getElem?_append_left hjl, hj.2]
                            rw [List.length_take, Nat.min_eq_left hle] at hrow
                            exact app_moves hz H hT e1 e2 e3 e4 ht hx hi hzz hN hxx (old' := (cs'.take (n * i.size)).toArray) hrow (VRs.take _ q5) hmv b2 b3 b4 b5
                          · exact app_stays H hT e1 e2 e3 e4 ht hx hi hN hxx hodd g1 hlive l2 k4 k3 g3.2 (by omega) (by omega) b5
                      · cases hO
            · cases he
          · cases he
        · cases he
      · cases he
    · cases he
  | _ => cases he
/-- The same, as an operation. -/
theorem appX_sound (hz : Zc P) {r : Env} {h : Hp} {w : World} (H : HR r h w) (hT : Tidy h) {ev ev' : Operand → Value} {o : Oper} {ts : Array TypeId} {as : Array Operand} (ho : appOp o.op = some (ts, as)) (ha : ∀ x ∈ as.toList, VR r (ev x) (ev' x)) {v : Value} {h1 : Hp} (he : appX P ts (as.map ev) h = some (v, h1)) :
    ∃ r' w', HR r' h1 w' ∧ Tidy h1 ∧ Fr r r' h h1 w w' ∧ ∃ v', (execOp ev' o).run P w = .ok (.value v') w' ∧ VR r' v v' := by
  unfold appX at he
  cases e : appP P ts (as.map ev) h with
  | none => rw [e] at he; cases he
  | some q =>
    obtain ⟨u, ob, d⟩ := q
    rw [e] at he
    cases he
    obtain ⟨r', w', v', q1, q2, q3, q4, q5⟩ := appP_sound hz H hT o.type (AVs.map as ha) e
    refine ⟨r', w', q3, q4, q5, v', ?_, q2⟩
    obtain ⟨dst, op, type, pos, after, guard⟩ := o
    simp only at ho q1
    cases op with
    | call c =>
      obtain ⟨callee, args, ats⟩ := c
      cases callee with
      | builtin b =>
        cases b with
        | append =>
          cases ho
          show (Sem.bind (Builtin.append_ ts type (as.map ev')) fun v => pure (Next.value v)).run P w = _
          rw [show (Sem.bind (Builtin.append_ ts type (as.map ev')) fun v => pure (Next.value v)) = (Builtin.append_ ts type (as.map ev') >>= fun v => pure (Next.value v)) from rfl, Sem.run_bind, q1]
          rfl
        | _ => cases ho
      | _ => cases ho
    | _ => cases ho
theorem appOp_mem {op : Op} {ts : Array TypeId} {as : Array Operand} (h : appOp op = some (ts, as)) : ∀ x ∈ as.toList, x ∈ op.operands := fun x hx => by
  cases op with
  | call c =>
    obtain ⟨callee, args, ats⟩ := c
    cases callee with
    | builtin b =>
      cases b with
      | append => cases h; simpa [Op.operands, Call.operands] using hx
      | _ => cases h
    | _ => cases h
  | _ => cases h
end
end Go.Proofs.YtekhnmfmdkfidaaGreat.EX
/- Entries of maps found and set, by keys without blocks. -/
namespace Go.Proofs.YtekhnmfmdkfidaaGreat.EX
open Go
section
variable {P : Program}
/-- The place of a key. -/
def findA (P : Program) (t : TypeId) (k : Value) : List MapEntry → Nat → Option (Option Nat)
  | [], _ => some none
  | e :: es, i => match runP P (Op.equal t k e.key) with
    | some true => some (some i)
    | some false => findA P t k es (i + 1)
    | none => none
def findX (P : Program) (t : TypeId) (k : Value) (es : List MapEntry) : Option (Option Nat) :=
  match runP P (underlying t) with
  | some d => match Instr.findNow d k es 0 with
    | some r => some (r.map (·.1))
    | none => findA P t k es 0
  | none => none
/-- What is found, in entries alike. -/
def FoundR (es' : List MapEntry) (i : Nat) : Option Nat → Option (Nat × Value) → Prop
  | none, x => x = none
  | some j, x => ∃ k e', j = i + k ∧ es'[k]? = some e' ∧ x = some (j, e'.val)
theorem FoundR.cons {es' : List MapEntry} {i : Nat} {o : Option Nat} {x : Option (Nat × Value)} (e : MapEntry) (h : FoundR es' (i + 1) o x) : FoundR (e :: es') i o x := by
  cases o with
  | none => exact h
  | some j =>
    obtain ⟨k, e', h1, h2, h3⟩ := h
    exact ⟨k + 1, e', by omega, by simpa using h2, h3⟩
theorem findA_run {r : Env} (t : TypeId) (k : Value) (w : World) : ∀ (es es' : List MapEntry) (i : Nat) (o : Option Nat), ER r es es' → findA P t k es i = some o → ∃ x, (Instr.findAsking t k es' i).run P w = .ok x w ∧ FoundR es' i o x
  | [], es', i, o, h, e => by
    cases h
    cases e
    exact ⟨none, rfl, rfl⟩
  | y :: s, es', i, o, h, e => by
    obtain ⟨g, v, s', h1, h2, rfl⟩ := h
    unfold findA at e
    cases q : runP P (Op.equal t k y.key) with
    | none => rw [q] at e; cases e
    | some b =>
      rw [q] at e
      have hr := run_runP _ _ q w
      cases b with
      | true =>
        cases e
        refine ⟨some (i, v), ?_, 0, ⟨y.key, v, y.born⟩, rfl, rfl, rfl⟩
        unfold Instr.findAsking
        rw [Sem.run_bind, hr]
        rfl
      | false =>
        obtain ⟨x, h3, h4⟩ := findA_run t k w s s' (i + 1) o h2 e
        refine ⟨x, ?_, h4.cons _⟩
        unfold Instr.findAsking
        rw [Sem.run_bind, hr]
        exact h3
theorem findNow_alike {r : Env} (d : TypeDesc) (k : Value) : ∀ (es es' : List MapEntry) (i : Nat), ER r es es' → match Instr.findNow d k es i, Instr.findNow d k es' i with
    | some a, some b => FoundR es' i (a.map (·.1)) b
    | none, none => True
    | _, _ => False
  | [], es', i, h => by cases h; rfl
  | y :: s, es', i, h => by
    obtain ⟨g, v, s', h1, h2, rfl⟩ := h
    have ih := findNow_alike d k s s' (i + 1) h2
    simp only [Instr.findNow]
    cases Instr.sameNow d k y.key with
    | none => trivial
    | some b =>
      cases b with
      | true => exact ⟨0, ⟨y.key, v, y.born⟩, rfl, rfl, rfl⟩
      | false =>
        dsimp only
        cases q1 : Instr.findNow d k s (i + 1) with
        | none =>
          cases q2 : Instr.findNow d k s' (i + 1) with
          | none => trivial
          | some b => rw [q1, q2] at ih; exact ih.elim
        | some a =>
          cases q2 : Instr.findNow d k s' (i + 1) with
          | none => rw [q1, q2] at ih; exact ih.elim
          | some b => rw [q1, q2] at ih; exact FoundR.cons _ ih
theorem findX_run {r : Env} (t : TypeId) (k : Value) (w : World) {es es' : List MapEntry} {o : Option Nat} (h : ER r es es') (e : findX P t k es = some o) : ∃ x, (Instr.findKey t k es').run P w = .ok x w ∧ FoundR es' 0 o x := by
  unfold findX at e
  cases q : runP P (underlying t) with
  | none => rw [q] at e; cases e
  | some d =>
    rw [q] at e
    dsimp only at e
    have hr := run_runP _ _ q w
    have hn := findNow_alike d k es es' 0 h
    unfold Instr.findKey
    rw [Sem.run_bind, hr]
    cases q1 : Instr.findNow d k es 0 with
    | some a =>
      rw [q1] at e hn
      cases q2 : Instr.findNow d k es' 0 with
      | none => rw [q2] at hn; exact hn.elim
      | some b =>
        rw [q2] at hn
        cases e
        exact ⟨b, by show (match Instr.findNow d k es' 0 with | some r => pure r | none => Instr.findAsking t k es' : Sem _).run P w = _; rw [q2]; rfl, hn⟩
    | none =>
      rw [q1] at e hn
      cases q2 : Instr.findNow d k es' 0 with
      | some b => rw [q2] at hn; exact hn.elim
      | none =>
        obtain ⟨x, h1, h2⟩ := findA_run t k w es es' 0 o h e
        exact ⟨x, by show (match Instr.findNow d k es' 0 with | some r => pure r | none => Instr.findAsking t k es' : Sem _).run P w = _; rw [q2]; exact h1, h2⟩
/-- The entries of a map. -/
def entriesX (h : Hp) : Value → Option (List MapEntry)
  | .map none => some []
  | .map (some b) => match h.t.get b with
    | some (.map ⟨es⟩ _) => some es
    | _ => none
  | _ => none
def okV (ok : Bool) (v : Value) (b : Bool) : Value := bif ok then .tuple ⟨[v, .bool b]⟩ else v
def lookP (P : Program) (xt : TypeId) (x k : Value) (ok : Bool) (h : Hp) : Option Value :=
  match runP P (underlying xt) with
  | some (.map key elem) => match entriesX h x with
    | some es => bif closed 64 k then match runP P (Instr.checkKey es.isEmpty 10000 key k) with
      | some _ => match findX P key k es with
        | some (some j) => match es[j]? with
          | some e => some (okV ok e.val true)
          | none => none
        | some none => match runP P (zeroValue elem) with
          | some v => bif closed 64 v then some (okV ok v false) else none
          | none => none
        | none => none
      | none => none
      else none
    | none => none
  | _ => none
theorem okV_alike {r : Env} {ok b : Bool} {v v' : Value} (h : VR r v v') : VR r (okV ok v b) (okV ok v' b) := by
  cases ok with
  | false => exact h
  | true =>
    show VR r (.tuple ⟨[v, .bool b]⟩) (.tuple ⟨[v', .bool b]⟩)
    exact VRs.pair h (VR.bl r b)
def lookTail (key elem : TypeId) (k : Value) (ok : Bool) (es : Array MapEntry) : Sem Value := do
  Instr.checkKey es.isEmpty 10000 key k
  let (v, b) ← match ← Instr.findKey key k es.toList with
    | some (_, v) => pure (v, true)
    | none => pure (← zeroValue elem, false)
  pure (if ok then .tuple #[v, .bool b] else v)
theorem lookup_nil {xt key elem : TypeId} {k : Value} {ok : Bool} {w : World} (h : runP P (underlying xt) = some (.map key elem)) : (Instr.lookup xt (.map none) k ok).run P w = (lookTail key elem k ok #[]).run P w := by
  unfold Instr.lookup
  rw [Sem.run_bind, run_runP _ _ h w]
  rfl
theorem lookup_some {xt key elem : TypeId} {k : Value} {ok : Bool} {w : World} {b c : Nat} {es : Array MapEntry} (h : runP P (underlying xt) = some (.map key elem)) (hb : w.heap[b]? = some (.map es c)) : (Instr.lookup xt (.map (some b)) k ok).run P w = (lookTail key elem k ok es).run P w := by
  unfold Instr.lookup
  rw [Sem.run_bind, run_runP _ _ h w]
  have : (getObj b).run P w = .ok (.map es c) w := by
    simp [getObj, Sem.run, hb]
  show ((getObj b) >>= _ : Sem Value).run P w = _
  rw [Sem.run_bind, this]
  rfl
theorem lookTail_run {r : Env} {w : World} {key elem : TypeId} {k : Value} {ok : Bool} {v : Value} {es es' : List MapEntry} (hE : ER r es es') {u : Unit} (q3 : runP P (Instr.checkKey es.isEmpty 10000 key k) = some u)
    (e : (match findX P key k es with
        | some (some j) => match es[j]? with
          | some e => some (okV ok e.val true)
          | none => none
        | some none => match runP P (zeroValue elem) with
          | some v => bif closed 64 v then some (okV ok v false) else none
          | none => none
        | none => none) = some v) : ∃ v', (lookTail key elem k ok ⟨es'⟩).run P w = .ok v' w ∧ VR r v v' := by
  have hem : (Array.isEmpty (⟨es'⟩ : Array MapEntry)) = es.isEmpty := by
    rw [← Array.isEmpty_toList]
    cases es with
    | nil => cases hE; rfl
    | cons _ _ => obtain ⟨_, _, _, _, _, rfl⟩ := hE; rfl
  unfold lookTail
  rw [hem, Sem.run_bind, run_runP _ _ q3 w]
  cases q5 : findX P key k es with
  | none => rw [q5] at e; cases e
  | some o =>
    rw [q5] at e
    obtain ⟨x, h4, h5⟩ := findX_run key k w hE q5
    dsimp only [Result.andThen]
    rw [Sem.run_bind, h4]
    dsimp only [Result.andThen]
    cases o with
    | none =>
      have h5' : x = none := h5
      subst h5'
      dsimp only at e ⊢
      cases q6 : runP P (zeroValue elem) with
      | none => rw [q6] at e; cases e
      | some z =>
        rw [q6] at e
        dsimp only at e
        cases q7 : closed 64 z with
        | false => rw [q7] at e; cases e
        | true =>
          rw [q7] at e
          cases e
          refine ⟨okV ok z false, ?_, okV_alike ((VR.closed 64 z z q7).2 rfl)⟩
          rw [Sem.run_bind, run_runP _ _ q6 w]
          cases ok <;> rfl
    | some j =>
      obtain ⟨j', e', hj, g1, rfl⟩ := h5
      dsimp only at e ⊢
      have hj' : j = j' := by omega
      subst hj'
      have hat := ER.at hE j
      rw [g1] at hat
      cases q6 : es[j]? with
      | none => rw [q6] at e; cases e
      | some y =>
        rw [q6] at e hat
        cases e
        refine ⟨okV ok e'.val true, ?_, okV_alike hat.2.2.2⟩
        cases ok <;> rfl
theorem lookP_sound {r : Env} {h : Hp} {w : World} (H : HR r h w) {xt : TypeId} {x x' k k' : Value} {ok : Bool} {v : Value} (hx : VR r x x') (hk : VR r k k') (e : lookP P xt x k ok h = some v) :
    ∃ v', (Instr.lookup xt x' k' ok).run P w = .ok v' w ∧ VR r v v' := by
  unfold lookP at e
  cases q0 : runP P (underlying xt) with
  | none => rw [q0] at e; cases e
  | some d =>
    rw [q0] at e
    cases d with
    | map key elem =>
      dsimp only at e
      cases q1 : entriesX h x with
      | none => rw [q1] at e; cases e
      | some es =>
        rw [q1] at e
        dsimp only at e
        cases q2 : closed 64 k with
        | false => rw [q2] at e; cases e
        | true =>
          rw [q2] at e
          dsimp only [cond] at e
          have hkk : k' = k := (VR.closed 64 k k' q2).1 hk
          subst hkk
          cases q3 : runP P (Instr.checkKey es.isEmpty 10000 key k') with
          | none => rw [q3] at e; cases e
          | some u =>
            rw [q3] at e
            cases x with
            | map m =>
              cases m with
              | none =>
                cases hx
                cases q1
                rw [lookup_nil q0]
                exact lookTail_run (es := []) (es' := []) (by rfl : ER r [] []) q3 e
              | some b =>
                obtain ⟨b', hb, rfl⟩ := hx
                simp only [entriesX] at q1
                cases q4 : h.t.get b with
                | none => rw [q4] at q1; cases q1
                | some o =>
                  rw [q4] at q1
                  cases o with
                  | map es0 c =>
                    obtain ⟨es0⟩ := es0
                    cases q1
                    obtain ⟨c1, o1, g1, g2, g3⟩ := H.live b _ q4
                    cases H.fn _ _ _ hb g1
                    simp only [OR] at g3
                    obtain ⟨es', g4, rfl⟩ := g3
                    rw [lookup_some q0 g2]
                    exact lookTail_run g4 q3 e
                  | _ => cases q1
            | _ => cases q1
    | _ => cases e
/-- A map with an entry set: its block, its entries, its clock. -/
def updP (P : Program) (t : TypeId) (m k v : Value) (h : Hp) : Option (Nat × List MapEntry × Nat) :=
  match runP P (underlying t) with
  | some (.map key _) => match m with
    | .map (some b) => match h.t.get b with
      | some (.map ⟨es⟩ c) => bif closed 64 k then match runP P (Instr.checkKey false 10000 key k) with
        | some _ => match findX P key k es with
          | some (some j) => match es[j]? with
            | some e => bif Instr.sameBits 10000 e.key k then some (b, es.set j ⟨k, v, e.born⟩, c) else none
            | none => none
          | some none => some (b, es ++ [⟨k, v, c⟩], Nat.succ c)
          | none => none
        | none => none
        else none
      | _ => none
    | _ => none
  | _ => none
theorem ER.set {r : Env} {k v v' : Value} (hk : Rig k) (hv : VR r v v') : ∀ {es es' : List MapEntry} {j : Nat} {e : MapEntry}, ER r es es' → es[j]? = some e → ER r (es.set j ⟨k, v, e.born⟩) (es'.modify j fun e => { e with key := k, val := v' })
  | [], _, _, _, h, q => by cases q
  | y :: s, es', j, e, h, q => by
    obtain ⟨g, u, s', h1, h2, rfl⟩ := h
    cases j with
    | zero => cases q; exact ⟨hk, v', s', hv, h2, rfl⟩
    | succ j =>
      have ih := ER.set hk hv h2 (show s[j]? = some e by simpa using q)
      exact ⟨g, u, _, h1, ih, rfl⟩
theorem updP_sound {r : Env} {h : Hp} {w : World} (H : HR r h w) (hT : Tidy h) {t : TypeId} {m m' k k' v v' : Value} (hm : VR r m m') (hk : VR r k k') (hv : VR r v v') {b c : Nat} {es : List MapEntry} (e : updP P t m k v h = some (b, es, c)) :
    ∃ r' w', (Instr.mapUpdate t m' k' v').run P w = .ok () w' ∧ HR r' ⟨h.t.set b (some (.map ⟨es⟩ c)), h.n⟩ w' ∧ Tidy ⟨h.t.set b (some (.map ⟨es⟩ c)), h.n⟩ ∧ Fr r r' h ⟨h.t.set b (some (.map ⟨es⟩ c)), h.n⟩ w w' := by
  unfold updP at e
  cases q0 : runP P (underlying t) with
  | none => rw [q0] at e; cases e
  | some d =>
    rw [q0] at e
    cases d with
    | map key elem =>
      dsimp only at e
      cases m with
      | map mm =>
        cases mm with
        | none => cases e
        | some b0 =>
          obtain ⟨b', hb, rfl⟩ := hm
          dsimp only at e
          cases q1 : h.t.get b0 with
          | none => rw [q1] at e; cases e
          | some o =>
            rw [q1] at e
            cases o with
            | map es0 c0 =>
              obtain ⟨es0⟩ := es0
              dsimp only at e
              cases q2 : closed 64 k with
              | false => rw [q2] at e; cases e
              | true =>
                rw [q2] at e
                dsimp only [cond] at e
                have hkk : k' = k := (VR.closed 64 k k' q2).1 hk
                subst hkk
                have rig : Rig k' := fun r v => VR.closed 64 k' v q2
                cases q3 : runP P (Instr.checkKey false 10000 key k') with
                | none => rw [q3] at e; cases e
                | some u =>
                  rw [q3] at e
                  obtain ⟨c1, o1, g1, g2, g3⟩ := H.live b0 _ q1
                  cases H.fn _ _ _ hb g1
                  simp only [OR] at g3
                  obtain ⟨es', hE, rfl⟩ := g3
                  dsimp only at e
                  have set : ∀ (es1 es2 : List MapEntry) (c2 : Nat), ER r es1 es2 → ∃ r' w', (Go.setObj b' (.map ⟨es2⟩ c2)).run P w = .ok () w' ∧ HR r' ⟨h.t.set b0 (some (.map ⟨es1⟩ c2)), h.n⟩ w' ∧ Tidy ⟨h.t.set b0 (some (.map ⟨es1⟩ c2)), h.n⟩ ∧ Fr r r' h ⟨h.t.set b0 (some (.map ⟨es1⟩ c2)), h.n⟩ w w' := fun es1 es2 c2 hE2 => by
                    obtain ⟨r', w', p1, p2, p3, _, p4, _⟩ := run_SR (P := P) _ _ r h w (SR.setO hb (show OR r (.map ⟨es1⟩ c2) (.map ⟨es2⟩ c2) from ⟨es2, hE2, rfl⟩)) H hT (.ok ()) ⟨h.t.set b0 (some (.map ⟨es1⟩ c2)), h.n⟩ (by simp [Go.setObj, runX, q1])
                    exact ⟨r', w', p4, p1, p2, p3⟩
                  cases q5 : findX P key k' es0 with
                  | none => rw [q5] at e; cases e
                  | some o =>
                    rw [q5] at e
                    obtain ⟨x, h4, h5⟩ := findX_run key k' w hE q5
                    have hget : (getObj b').run P w = .ok (.map ⟨es'⟩ c0) w := by simp [getObj, Sem.run, g2]
                    have head : ∀ (R : Result Unit), ((match (generalizing := false) x with
                        | some (i, _) => do
                          let key ← Instr.keyThatStays ((((⟨es'⟩ : Array MapEntry)[i]?).map (·.key)).getD k') k'
                          Go.setObj b' (.map ((⟨es'⟩ : Array MapEntry).modify i fun e => { e with key, val := v' }) c0)
                        | none => Go.setObj b' (.map ((⟨es'⟩ : Array MapEntry).push { key := k', val := v', born := c0 }) (c0 + 1)) : Sem Unit).run P w = R) → (Instr.mapUpdate t (.map (some b')) k' v').run P w = R := fun R hR => by
                      unfold Instr.mapUpdate
                      rw [Sem.run_bind, run_runP _ _ q0 w]
                      dsimp only [Result.andThen]
                      rw [Sem.run_bind, hget]
                      dsimp only [Result.andThen]
                      rw [Sem.run_bind, run_runP _ _ q3 w]
                      dsimp only [Result.andThen]
                      rw [Sem.run_bind, h4]
                      dsimp only [Result.andThen]
                      exact hR
                    cases o with
                    | none =>
                      have h5' : x = none := h5
                      subst h5'
                      cases e
                      obtain ⟨r', w', p1, p2⟩ := set (es0 ++ [⟨k', v, c0⟩]) (es' ++ [⟨k', v', c0⟩]) (c0 + 1) (ER.append hE ⟨rig, v', [], hv, rfl, rfl⟩)
                      refine ⟨r', w', head _ ?_, p2⟩
                      simpa using p1
                    | some j =>
                      obtain ⟨j', e', hj, g4, rfl⟩ := h5
                      have hj' : j = j' := by omega
                      subst hj'
                      have hat := ER.at hE j
                      rw [g4] at hat
                      dsimp only at e
                      cases q6 : es0[j]? with
                      | none => rw [q6] at e; cases e
                      | some y =>
                        rw [q6] at e hat
                        dsimp only at e
                        cases q7 : Instr.sameBits 10000 y.key k' with
                        | false => rw [q7] at e; cases e
                        | true =>
                          rw [q7] at e
                          cases e
                          obtain ⟨r', w', p1, p2⟩ := set _ _ _ (ER.set rig hv hE q6)
                          refine ⟨r', w', head _ ?_, p2⟩
                          dsimp only
                          have hst : (Instr.keyThatStays ((((⟨es'⟩ : Array MapEntry)[j]?).map (·.key)).getD k') k').run P w = .ok k' w := by
                            have : (((⟨es'⟩ : Array MapEntry)[j]?).map (·.key)).getD k' = y.key := by
                              have g4' : (⟨es'⟩ : Array MapEntry)[j]? = some e' := by simpa using g4
                              rw [g4']
                              exact hat.1
                            rw [this]
                            unfold Instr.keyThatStays
                            rw [if_pos q7]
                            rfl
                          rw [Sem.run_bind, hst]
                          dsimp only [Result.andThen]
                          have hmod : (⟨es'⟩ : Array MapEntry).modify j (fun e => { e with key := k', val := v' }) = ⟨es'.modify j fun e => { e with key := k', val := v' }⟩ := by
                            apply Array.toList_inj.1
                            simp
                          rw [hmod]
                          exact p1
            | _ => cases e
      | _ => cases e
    | _ => cases e
/-- Operations on entries of maps. -/
def mapOp : Op → Bool
  | .lookup .. | .mapUpdate .. | .insert .. => true
  | _ => false
def mapX (P : Program) (op : Op) (ev : Operand → Value) (h : Hp) : Option (Next × Option (Nat × List MapEntry × Nat)) :=
  match op with
  | .lookup t x k ok => match lookP P t (ev x) (ev k) ok h with
    | some v => some (.value v, none)
    | none => none
  | .mapUpdate t m k x => match updP P t (ev m) (ev k) (ev x) h with
    | some u => some (.skip, some u)
    | none => none
  | .insert t m k x => match updP P t (ev m) (ev k) (ev x) h with
    | some u => some (.skip, some u)
    | none => none
  | _ => none
def mapH (u : Option (Nat × List MapEntry × Nat)) (h : Hp) : Hp :=
  match u with
  | none => h
  | some (b, es, c) => ⟨h.t.set b (some (.map ⟨es⟩ c)), h.n⟩
theorem mapX_sound {r : Env} {h : Hp} {w : World} (H : HR r h w) (hT : Tidy h) {ev ev' : Operand → Value} {o : Oper} (ha : ∀ x ∈ o.op.operands, VR r (ev x) (ev' x)) {n : Next} {u : Option (Nat × List MapEntry × Nat)} (e : mapX P o.op ev h = some (n, u)) :
    ∃ r' w', HR r' (mapH u h) w' ∧ Tidy (mapH u h) ∧ Fr r r' h (mapH u h) w w' ∧ ∃ n', (execOp ev' o).run P w = .ok n' w' ∧ NR r' n n' := by
  obtain ⟨dst, op, type, pos, after, guard⟩ := o
  have upd : ∀ (t : TypeId) (m k x : Operand), (∀ y ∈ [m, k, x], VR r (ev y) (ev' y)) → (match updP P t (ev m) (ev k) (ev x) h with
      | some u => some (Next.skip, some u)
      | none => none) = some (n, u) → ∃ r' w', HR r' (mapH u h) w' ∧ Tidy (mapH u h) ∧ Fr r r' h (mapH u h) w w' ∧ ∃ n', ((do Instr.mapUpdate t (ev' m) (ev' k) (ev' x); pure .skip : Sem Next)).run P w = .ok n' w' ∧ NR r' n n' := fun t m k x ha e => by
    cases q : updP P t (ev m) (ev k) (ev x) h with
    | none => rw [q] at e; cases e
    | some y =>
      rw [q] at e
      obtain ⟨b, es, c⟩ := y
      cases e
      obtain ⟨r', w', p1, p2, p3, p4⟩ := updP_sound H hT (ha m (by simp)) (ha k (by simp)) (ha x (by simp)) q
      refine ⟨r', w', p2, p3, p4, .skip, ?_, rfl⟩
      rw [Sem.run_bind, p1]
      rfl
  cases op with
  | lookup t x k ok =>
    simp only [mapX] at e
    cases q : lookP P t (ev x) (ev k) ok h with
    | none => rw [q] at e; cases e
    | some v =>
      rw [q] at e
      cases e
      obtain ⟨v', p1, p2⟩ := lookP_sound H (ha x (by simp [Op.operands])) (ha k (by simp [Op.operands])) q
      refine ⟨r, w, H, hT, .refl H, .value v', ?_, v', p2, rfl⟩
      show (Instr.lookup t (ev' x) (ev' k) ok >>= fun v => pure (Next.value v) : Sem Next).run P w = _
      rw [Sem.run_bind, p1]
      rfl
  | mapUpdate t m k x => exact upd t m k x (fun y hy => ha y (by simpa [Op.operands] using hy)) e
  | insert t m k x => exact upd t m k x (fun y hy => ha y (by simpa [Op.operands] using hy)) e
  | _ => cases e
theorem mapX_congr {ev ev' : Operand → Value} (op : Op) (h : Hp) (ha : ∀ x ∈ op.operands, ev x = ev' x) : mapX P op ev h = mapX P op ev' h := by
  cases op with
  | lookup t x k ok => simp only [mapX]; rw [ha x (by simp [Op.operands]), ha k (by simp [Op.operands])]
  | mapUpdate t m k x => simp only [mapX]; rw [ha m (by simp [Op.operands]), ha k (by simp [Op.operands]), ha x (by simp [Op.operands])]
  | insert t m k x => simp only [mapX]; rw [ha m (by simp [Op.operands]), ha k (by simp [Op.operands]), ha x (by simp [Op.operands])]
  | _ => rfl
end
end Go.Proofs.YtekhnmfmdkfidaaGreat.EX
/- One operation of a frame whose slots are a tree. -/
namespace Go.Proofs.YtekhnmfmdkfidaaGreat.EX
open Go
section
variable {P : Program}
structure St where
  tm : T Value
  nt : Nat
  ds : Option Value
  h : Hp
def St.ev (s : St) : Operand → Value
  | .tmp t => (s.tm.get t).getD undef
  | .const v => v
  | .global g => .pointer (some ⟨g, 0, none⟩)
  | .func f => .func (.func f) #[] #[]
/-- Operands that are slots, functions, or values without blocks. -/
def opdOK : Operand → Bool
  | .tmp _ | .func _ => true
  | .const v => closed 64 v
  | .global _ => false
def noSel : Op → Bool
  | .select .. => false
  | _ => true
/-- What is deferred, alike: one call of a function value at most. -/
def DsR (r : Env) (o : Option Value) (ds : List Deferred) : Prop :=
  match o with
  | none => ds = []
  | some v => ∃ g first cap first' cap', v = .func (.func g) first cap ∧ ds = [{ target := .fn (.func g) cap', args := first' }] ∧ AVs r first first' ∧ AVs r cap cap'
theorem DsR.mono {r r' : Env} {o : Option Value} {ds : List Deferred} (hl : Le r r') (h : DsR r o ds) : DsR r' o ds := by
  cases o with
  | none => exact h
  | some v =>
    obtain ⟨g, f, c, f', c', h1, h2, h3, h4⟩ := h
    exact ⟨g, f, c, f', c', h1, h2, VRs.mono hl _ _ h3, VRs.mono hl _ _ h4⟩
/-- A frame and an activation alike. -/
structure SL (r : Env) (s : St) (a : Act) (w : World) : Prop where
  defers : DsR r s.ds a.defers
  size : a.tmps.size = s.nt
  tm : ∀ t, VR r ((s.tm.get t).getD undef) (a.tmps.getD t undef)
  h : HR r s.h w
  tidy : Tidy s.h
theorem SL.ev {r : Env} {s : St} {a : Act} {w : World} (S : SL r s a w) (x : Operand) (h : opdOK x = true) : VR r (s.ev x) (a.eval x) := by
  cases x with
  | tmp t => exact S.tm t
  | const v => exact (VR.closed 64 v v h).2 rfl
  | global g => cases h
  | func f => exact (VR.closed 2 _ _ rfl).2 rfl
def opStep (P : Program) (s : St) (o : Oper) : Option (Except Value Next × Hp) :=
  if o.op.operands.toList.all opdOK && noSel o.op then
    if okOp P s.ev o.op then runX P (execOp s.ev o) s.h
    else match appOp o.op with
    | some (ts, as) => match appX P ts (as.map s.ev) s.h with
      | some (v, h1) => some (.ok (.value v), h1)
      | none => none
    | none => if mapOp o.op then
      match mapX P o.op s.ev s.h with
      | some (n, u) => some (.ok n, mapH u s.h)
      | none => none
    else if o.op.operands.toList.all fun x => closed 64 (s.ev x) then
      match runP P (execOp s.ev o) with
      | some (.value v) => if closed 64 v then some (.ok (.value v), s.h) else none
      | _ => none
    else none
  else none
theorem okOp_congr {ev ev0 : Operand → Value} (op : Op) (h : ∀ x ∈ op.operands, ev x = ev0 x) : okOp P ev op = okOp P ev0 op := by
  cases op with
  | slice t x lo hi mx =>
    simp only [okOp]
    have hx : ev x = ev0 x := h x (by simp [Op.operands])
    have hh : hi.map ev = hi.map ev0 := by
      cases hi with
      | none => rfl
      | some y => simp only [Option.map]; rw [h y (by simp [Op.operands])]
    have hm : mx.map ev = mx.map ev0 := by
      cases mx with
      | none => rfl
      | some y => simp only [Option.map]; rw [h y (by simp [Op.operands])]
    rw [hx, hh, hm]
  | nilCheck x => simp only [okOp]; rw [h x (by simp [Op.operands])]
  | call c =>
    obtain ⟨callee, args, ats⟩ := c
    have hargs : args.map ev = args.map ev0 := Array.map_congr_left fun x hx => h x (by simp [Op.operands, Call.operands, hx])
    cases callee with
    | value x => simp only [okOp]; rw [h x (by simp [Op.operands, Call.operands])]
    | invoke x name => simp only [okOp]; rw [h x (by simp [Op.operands, Call.operands])]
    | builtin b => cases b <;> first | rfl | simp only [okOp, hargs]
  | defer c =>
    obtain ⟨callee, args, ats⟩ := c
    cases callee with
    | value x => simp only [okOp]; rw [h x (by simp [Op.operands, Call.operands])]
    | _ => rfl
  | binOp op t x y yt =>
    have hx : ev x = ev0 x := h x (by simp [Op.operands])
    have hy : ev y = ev0 y := h y (by simp [Op.operands])
    cases op <;> first | rfl | simp only [okOp, hx, hy]
  | convert a b x => simp only [okOp]; rw [h x (by simp [Op.operands])]
  | makeMap t n => cases n <;> rfl
  | _ => rfl
theorem opStep_sound (hz : Zc P) {r : Env} {s : St} {a : Act} {w : World} (S : SL r s a w) (o : Oper) (x : Except Value Next) (h1 : Hp) (e : opStep P s o = some (x, h1)) :
    ∃ r' w', HR r' h1 w' ∧ Tidy h1 ∧ Fr r r' s.h h1 w w' ∧ match (generalizing := false) x with
      | .ok v => ∃ v', (execOp a.eval o).run P w = .ok v' w' ∧ NR r' v v'
      | .error v => ∃ v', (execOp a.eval o).run P w = .halt (.panic v') w' ∧ VR r' v v' := by
  unfold opStep at e
  split at e
  · rename_i hk
    simp only [Bool.and_eq_true] at hk
    have hops : ∀ x ∈ o.op.operands, opdOK x = true := fun x hx => List.all_eq_true.1 hk.1 x (by simpa using hx)
    have hns : ∀ cs b, o.op ≠ .select cs b := fun cs b q => by have := hk.2; rw [q] at this; cases this
    split at e
    · rename_i hok
      have c1 : execOp s.ev o = execOp (fun x => if opdOK x then s.ev x else undef) o := execOp_congr o hns fun x hx => by simp [hops x hx]
      have c2 : execOp a.eval o = execOp (fun x => if opdOK x then a.eval x else undef) o := execOp_congr o hns fun x hx => by simp [hops x hx]
      rw [c1] at e
      rw [c2]
      have hev : ∀ x, VR r ((fun x => if opdOK x then s.ev x else undef) x) ((fun x => if opdOK x then a.eval x else undef) x) := fun x => by
        dsimp only
        split
        · rename_i h; exact S.ev x h
        · exact (VR.closed 3 undef undef rfl).2 rfl
      have hk2 : okOp P (fun x => if opdOK x then s.ev x else undef) o.op = true := by
        rw [← okOp_congr o.op (ev := s.ev) fun x hx => by simp [hops x hx]]
        exact hok
      have key := run_SR _ _ r s.h w (SR.execOp hz o hev hk2) S.h S.tidy x h1 e
      cases x <;> exact key
    · split at e
      · rename_i ts as hao
        split at e
        · rename_i v h2 hax
          cases e
          obtain ⟨r', w', q1, q2, q3, v', q4, q5⟩ := appX_sound hz S.h S.tidy hao (fun x hx => S.ev x (hops x (appOp_mem hao x hx))) hax
          exact ⟨r', w', q1, q2, q3, .value v', q4, v', q5, rfl⟩
        · cases e
      · split at e
        · split at e
          · rename_i n u hmx
            cases e
            obtain ⟨r', w', q1, q2, q3, q4⟩ := mapX_sound S.h S.tidy (fun x hx => S.ev x (hops x hx)) hmx
            exact ⟨r', w', q1, q2, q3, q4⟩
          · cases e
        split at e
        case isFalse => cases e
        rename_i hcl
        split at e
        · rename_i v hv
          split at e
          · rename_i hc
            cases e
            have c : execOp a.eval o = execOp s.ev o := execOp_congr o hns fun x hx => by
              have h1 := S.ev x (hops x hx)
              exact (VR.closed 64 _ _ (List.all_eq_true.1 hcl x (by simpa using hx))).1 h1
            refine ⟨r, w, S.h, S.tidy, .refl S.h, .value v, ?_, v, (VR.closed 64 v v hc).2 rfl, rfl⟩
            rw [c]
            exact run_runP _ _ hv w
          · cases e
        · cases e
  · cases e
end
end Go.Proofs.YtekhnmfmdkfidaaGreat.EX
/- What a function answers; slots written; guards. -/
namespace Go.Proofs.YtekhnmfmdkfidaaGreat.EX
open Go
section
variable {P : Program}
def tmpRes : List ResultVar → Option (List Tmp)
  | [] => some []
  | .tmp t :: s => (tmpRes s).map (t :: ·)
  | _ => none
def resV : List Value → Value
  | [v] => v
  | l => .tuple ⟨l⟩
theorem results_eq (fn : Func) (ts : List Tmp) (h : tmpRes fn.results.toList = some ts) (tmps : Array Value) : results fn tmps = pure (resV (ts.map fun t => tmps.getD t undef)) := by
  have key : ∀ (l : List ResultVar) (ts : List Tmp), tmpRes l = some ts → (l.mapM fun (x : ResultVar) => match x with
      | .tmp t => (pure (tmps.getD t undef) : Sem Value)
      | .cell a t => do loadVar t (← asAddr (tmps.getD a undef))) = pure (ts.map fun t => tmps.getD t undef) := by
    intro l
    induction l with
    | nil => intro ts h; cases h; simp
    | cons x s ih =>
      intro ts h
      cases x with
      | tmp t =>
        simp only [tmpRes, Option.map_eq_some_iff] at h
        obtain ⟨ts', h', rfl⟩ := h
        rw [List.mapM_cons, ih ts' h']
        rfl
      | cell a t => cases h
  unfold results
  rw [Array.mapM_eq_mapM_toList]
  refine Eq.trans (congrArg (fun m : Sem (List Value) => (do let vs ← List.toArray <$> m; pure (if h : vs.size = 1 then vs[0] else Value.tuple vs))) (key _ ts h)) ?_
  generalize ts.map (fun t => tmps.getD t undef) = l
  match l with
  | [] => rfl
  | [v] => rfl
  | v :: u :: s => rfl
theorem resV_alike {r : Env} : ∀ {l l' : List Value}, VRs r l l' → VR r (resV l) (resV l')
  | [], _, h => by cases h; exact (VR.closed 2 _ _ rfl).2 rfl
  | [v], _, ⟨v', s', h1, h2, h3⟩ => by cases h2; subst h3; exact h1
  | v :: u :: s, _, ⟨v', s', h1, ⟨u', s'', h2, h4, h5⟩, h3⟩ => by
    subst h5
    subst h3
    show VR r (.tuple ⟨v :: u :: s⟩) (.tuple ⟨v' :: u' :: s''⟩)
    simp only [VRe]
    exact ⟨_, ⟨v', _, h1, ⟨u', _, h2, h4, rfl⟩, rfl⟩, rfl⟩
/-- A slot written. -/
def St.put (s : St) (d : Option Tmp) (v : Value) : Option St :=
  match d with
  | none => some s
  | some d => if d < s.nt then some { s with tm := s.tm.set d (some v) } else none
theorem SL.put {r : Env} {s s' : St} {a : Act} {w : World} (S : SL r s a w) (d : Option Tmp) {v v' : Value} (hv : VR r v v') (h : s.put d v = some s') : SL r s' (a.put d v') w := by
  cases d with
  | none => cases h; exact S
  | some d =>
    simp only [St.put] at h
    split at h
    · rename_i hd
      cases h
      have hsz := S.size
      refine ⟨S.defers, by simpa [Act.put] using hsz, fun t => ?_, S.h, S.tidy⟩
      simp only [T.get_set, Act.put]
      by_cases e : t = d
      · subst e
        have : t < a.tmps.size := Nat.lt_of_lt_of_eq hd hsz.symm
        simpa [Array.getD, this] using hv
      · rw [if_neg e]
        have := S.tm t
        have e2 : (a.tmps.setIfInBounds d v').getD t undef = a.tmps.getD t undef := by
          simp only [Array.getD_eq_getD_getElem?]
          rw [Array.getElem?_setIfInBounds_ne (Ne.symm e)]
        rw [e2]
        exact this
    · cases h
/-- What an operation yielded, for guards. -/
def yieldT (s : St) (ops : List Oper) (j : Nat) : Option Bool :=
  match (ops[j]?).bind (·.dst) with
  | some d => if d < s.nt then match (s.tm.get d).getD undef with
    | .bool b => some b
    | _ => none
    else none
  | none => none
theorem yieldT_eq {r : Env} {s : St} {a : Act} {w : World} (S : SL r s a w) (ops : Array Oper) (j : Nat) : yielded ops a.tmps j = yieldT s ops.toList j := by
  unfold yielded yieldT
  have e0 : ops.toList[j]? = ops[j]? := by simp
  rw [e0]
  cases (ops[j]?).bind (·.dst) with
  | none => rfl
  | some d =>
    dsimp only [Option.bind]
    have hsz := S.size
    have h := S.tm d
    by_cases hd : d < s.nt
    · rw [if_pos hd]
      have hd' : d < a.tmps.size := Nat.lt_of_lt_of_eq hd hsz.symm
      have e : a.tmps[d]? = some (a.tmps.getD d undef) := by simp [Array.getD, hd']
      rw [e]
      revert h
      generalize a.tmps.getD d undef = v'
      generalize (s.tm.get d).getD undef = v
      intro h
      cases v with
      | bool b => cases h; rfl
      | pointer p => cases p with
        | none => cases h; rfl
        | some p => obtain ⟨_, _, rfl⟩ := h; rfl
      | slice p _ _ => cases p with
        | none => cases h; rfl
        | some p => obtain ⟨_, _, _, _, _, _, _, _, rfl⟩ := h; rfl
      | map p => cases p with
        | none => cases h; rfl
        | some p => obtain ⟨_, _, rfl⟩ := h; rfl
      | chan p => cases p with
        | none => cases h; rfl
        | some p => cases h
      | func fn f c => obtain ⟨f⟩ := f; obtain ⟨c⟩ := c; simp only [VRe] at h; obtain ⟨_, _, _, _, rfl⟩ := h; rfl
      | iface t x => obtain ⟨_, _, rfl⟩ := h; rfl
      | agg cs => obtain ⟨cs⟩ := cs; simp only [VRe] at h; obtain ⟨_, _, rfl⟩ := h; rfl
      | tuple cs => obtain ⟨cs⟩ := cs; simp only [VRe] at h; obtain ⟨_, _, rfl⟩ := h; rfl
      | _ => cases h; rfl
    · rw [if_neg hd]
      have e : a.tmps[d]? = none := Array.getElem?_eq_none (hsz ▸ Nat.le_of_not_lt hd)
      rw [e]
end
end Go.Proofs.YtekhnmfmdkfidaaGreat.EX
/- Trees that only load: the world stays the same one. What a function answers, where its results are cells. -/
namespace Go.Proofs.YtekhnmfmdkfidaaGreat.EX
open Go
section
variable {P : Program}
/-- Results read from slots that are a tree. -/
def resT (s : T Value) : List ResultVar → Sem (List Value)
  | [] => pure []
  | .tmp t :: l => do
    let vs ← resT s l
    pure ((s.get t).getD undef :: vs)
  | .cell a t :: l => do
    let v ← loadVar t (← asAddr ((s.get a).getD undef))
    let vs ← resT s l
    pure (v :: vs)
def resA (tmps : Array Value) : List ResultVar → Sem (List Value)
  | [] => pure []
  | .tmp t :: l => do
    let vs ← resA tmps l
    pure (tmps.getD t undef :: vs)
  | .cell a t :: l => do
    let v ← loadVar t (← asAddr (tmps.getD a undef))
    let vs ← resA tmps l
    pure (v :: vs)
theorem SR.asAddr {r : Env} {v v' : Value} (h : VR r v v') : SR P AR (asAddr v) (asAddr v') r := by
  cases v with
  | pointer a => cases a with
    | none => cases h; exact SR.nilPanic
    | some a => obtain ⟨c, h1, rfl⟩ := h; exact SR.p ⟨c, h1, rfl⟩
  | _ => exact SR.stuck _ _
theorem res_alike {s : T Value} {tmps : Array Value} : ∀ (l : List ResultVar) (r : Env), (∀ t, VR r ((s.get t).getD undef) (tmps.getD t undef)) → SR P VRs (resT s l) (resA tmps l) r
  | [], r, _ => SR.p rfl
  | .tmp t :: l, r, h => by
    refine SR.b (res_alike l r h) fun r1 vs vs' l1 hv => ?_
    exact SR.p ⟨_, vs', (h t).mono l1, hv, rfl⟩
  | .cell a t :: l, r, h => by
    refine SR.b (SR.asAddr (h a)) fun r1 x x' l1 hx => ?_
    refine SR.b (SR.loadVar t hx) fun r2 v v' l2 hv => ?_
    refine SR.b (res_alike l r2 fun t => (h t).mono (l1.trans l2)) fun r3 vs vs' l3 hvs => ?_
    exact SR.p ⟨v', vs', hv.mono l3, hvs, rfl⟩
theorem resA_eq (fn : Func) (tmps : Array Value) : results fn tmps = (do let vs ← resA tmps fn.results.toList; pure (resV vs)) := by
  have key : ∀ (l : List ResultVar), (l.mapM fun (x : ResultVar) => match x with
      | .tmp t => (pure (tmps.getD t undef) : Sem Value)
      | .cell a t => do loadVar t (← asAddr (tmps.getD a undef))) = resA tmps l := by
    intro l
    induction l with
    | nil => rw [List.mapM_nil]; rfl
    | cons x s ih =>
      rw [List.mapM_cons, ih]
      cases x with
      | tmp t => simp [resA]
      | cell a t => simp [resA]
  unfold results
  rw [Array.mapM_eq_mapM_toList]
  refine Eq.trans (congrArg (fun m : Sem (List Value) => (do let vs ← List.toArray <$> m; pure (if h : vs.size = 1 then vs[0] else Value.tuple vs))) (key fn.results.toList)) ?_
  have e : ∀ l : List Value, (if h : l.toArray.size = 1 then l.toArray[0] else Value.tuple l.toArray) = resV l := by
    intro l
    match l with
    | [] => rfl
    | [v] => rfl
    | v :: u :: s => rfl
  simp only [map_eq_pure_bind, bind_assoc, pure_bind, e]
/-- What a function answers, in whatever world that is alike. -/
theorem results_run {r : Env} {s : St} {a : Act} {w : World} (S : SL r s a w) (fn : Func) (vs : List Value) (h : runL P (resT s.tm fn.results.toList) s.h = some vs) : ∃ v', (results fn a.tmps).run P w = .ok v' w ∧ VR r (resV vs) v' := by
  obtain ⟨vs', h1, h2⟩ := run_SRL _ _ r s.h w (res_alike (P := P) fn.results.toList r S.tm) S.h vs h
  refine ⟨resV vs', ?_, resV_alike h2⟩
  rw [resA_eq]
  have : ∀ (m : Sem (List Value)) w, m.run P w = .ok vs' w → (m >>= fun vs => pure (resV vs)).run P w = .ok (resV vs') w := by
    intro m w hm
    rw [Sem.run_bind, hm]
    rfl
  exact this _ w h1
end
end Go.Proofs.YtekhnmfmdkfidaaGreat.EX
