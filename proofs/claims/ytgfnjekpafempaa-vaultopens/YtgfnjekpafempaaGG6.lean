/- A record that is read by parts; what a map keeps against the list by keys. No program. -/
import Derived.Test.YtgfnjekpafempaaGV2
import Derived.Test.YtgfnjekpafempaaGM1
namespace Go.Proofs.Ytgfnjekpafempaa
open Go.RowKit
theorem Vf {r : List Nat} {a : Nat} (ha : a ≤ r.length) : getV r ((a : Nat) : Int) = if r.length - a < 16 then (valL z16, 0, 3) else (valL ((r.drop a).take 16), a + 16, 0) := by
  unfold getV getI
  rw [if_neg (by omega)]
  simp only [Int.toNat_natCast]
  split <;> rfl
theorem US {r : List Nat} (hr : ∀ b ∈ r, b < 256) {i : Int} {n a : Nat} (h : getE r i = (n, a, 0)) : a ≤ r.length := ((Jt r hr i n a 0 h).1 rfl).2.2.2.1
theorem uV {r : List Nat} (hr : ∀ b ∈ r, b < 256) {n a e : Nat} (h : getE r 0 = (n, a, e)) : readV r = if e ≠ 0 then none else if n = 1 then ((rbV r a).bind fun m => if 1 ≤ m then some (.inl m) else none) else if n = 2 then (riV r a).map .inr else none := by
  unfold readV
  rw [h]
  simp only
  by_cases he : e = 0
  · subst he
    rw [if_neg (show ¬ (0 : Nat) ≠ 0 from fun h => h rfl), if_neg (show ¬ (0 : Nat) ≠ 0 from fun h => h rfl)]
    by_cases h1 : n = 1
    · rw [if_pos h1, if_pos h1]
      unfold rbV
      by_cases c : (getE r (a : Int)).2.2 = 0 ∧ (getE r (a : Int)).2.1 = r.length ∧ (getE r (a : Int)).1 ≤ 1048576
      · rw [if_pos c, Option.bind_some]
        by_cases d : 1 ≤ (getE r (a : Int)).1
        · rw [if_pos d, if_pos ⟨c.1, c.2.1, d, c.2.2⟩]
        · rw [if_neg d, if_neg (fun x => d x.2.2.1)]
      · rw [if_neg c, Option.bind_none, if_neg (fun x => c ⟨x.1, x.2.1, x.2.2.2⟩)]
    · rw [if_neg h1, if_neg h1]
      by_cases h2 : n = 2
      · rw [if_pos h2, if_pos h2]
        have ha := US hr h
        unfold riV
        rw [Vf ha]
        by_cases c : r.length - a < 16
        · rw [if_pos c, if_pos c, if_neg (by simp)]
          rfl
        · rw [if_neg c, if_neg c]
          simp only [if_true]
          obtain ⟨m, b, f, g⟩ := tri (getE r ((a + 16 : Nat) : Int))
          unfold rvV
          rw [g]
          simp only
          by_cases d : f = 0 ∧ 1 ≤ m ∧ m ≤ 4611686018427387903
          · obtain ⟨rfl, d2, d3⟩ := d
            have hb := US hr g
            rw [if_neg (show ¬ ((0 : Nat) ≠ 0 ∨ m < 1 ∨ 4611686018427387904 ≤ m) by omega), if_pos (show (0 : Nat) = 0 ∧ 1 ≤ m ∧ m ≤ 4611686018427387903 from ⟨rfl, d2, d3⟩), Vf hb]
            by_cases c2 : r.length - b < 16
            · rw [if_pos c2, if_pos c2, if_neg (by simp)]
              rfl
            · rw [if_neg c2, if_neg c2]
              simp only [if_true]
              by_cases c3 : (getT r ((b + 16 : Nat) : Int) 64).2.2 = 0 ∧ (getT r ((b + 16 : Nat) : Int) 64).2.1 = r.length
              · rw [if_pos c3, if_neg (by omega)]
                rfl
              · rw [if_neg c3, if_pos (by omega)]
                rfl
          · rw [if_pos (by omega), if_neg d]
            rfl
      · rw [if_neg h2, if_neg h2]
  · rw [if_pos he, if_pos he]
/-! ### What a map keeps -/
def MRel (M : List (Nat × IM)) (L : List It) : Prop := ∀ k, (getM M k).map IM.it = lkV L k
theorem MRel.nil : MRel [] [] := fun _ => rfl
def isN (M : List (Nat × IM)) (x : IM) : Bool := match getM M x.key with
  | none => true
  | some y => nwV x.ver y.ver
theorem JT {x y : IM} (hx : 0 ≤ x.n) (hy : 0 ≤ y.n) : nwV x.ver y.ver = nwr x.it y.it := by
  unfold nwV nwr IM.ver IM.it
  rw [decide_eq_decide]
  simp only
  omega
theorem jay {M : List (Nat × IM)} {L : List It} (h : MRel M L) {x : IM} (hx : 0 ≤ x.n) (hM : ∀ y ∈ M, 0 ≤ y.2.n) (hi : isN M x = true) : pickV x.it (lkV L x.key) = some x.it := by
  rw [← h x.key]
  unfold isN at hi
  cases g : getM M x.key with
  | none => rfl
  | some y =>
    rw [g] at hi
    simp only at hi
    rw [JT hx (hM _ (zu g))] at hi
    unfold pickV
    simp only [Option.map_some]
    exact if_pos hi
theorem QQ {M : List (Nat × IM)} {L : List It} (h : MRel M L) {x : IM} (hx : 0 ≤ x.n) (hM : ∀ y ∈ M, 0 ≤ y.2.n) (hi : isN M x = false) : ∃ y, lkV L x.key = some y ∧ nwr x.it y = false := by
  rw [← h x.key]
  unfold isN at hi
  cases g : getM M x.key with
  | none => rw [g] at hi; cases hi
  | some y =>
    rw [g] at hi
    simp only at hi
    rw [JT hx (hM _ (zu g))] at hi
    exact ⟨y.it, rfl, hi⟩
theorem MRel.put {M : List (Nat × IM)} {L : List It} (h : MRel M L) (hk : KNM M) (hL : SKv L) {x : IM} (hp : pickV x.it (lkV L x.key) = some x.it) {y : IM} (hy : y.it = x.it) : MRel (putM M x.key y) (tkV L x.it) := fun k => by
  rw [jbl hk, Yb hL]
  by_cases c : k = x.key
  · subst c
    rw [if_pos rfl, if_pos (show x.key = x.it.key from rfl), Option.map_some, hy]
    exact hp.symm
  · rw [if_neg c, if_neg (show ¬ k = x.it.key from c)]
    exact h k
end Go.Proofs.Ytgfnjekpafempaa
