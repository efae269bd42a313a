/- Scripts of calls: their rows; with power for so many writes (DiskStops). -/
import Derived.Test.YtaejjmoocnpdaaaD7
namespace Go.Proofs.Ytaejjmoocnpdaaa
open Go.RowKit

theorem OB.gros {S : List Nat} {w w' : World} {e : TypeId} {k : IntKind} {B : Nat} {ao : Option Addr} {cap : Nat} {l : List Nat} (h : OB w e k B ao cap l) (G : GroS S w w') (hs : ∀ ad, ao = some ad → ad.block ∉ S) : OB w' e k B ao cap l := by
  refine ⟨⟨h.own.1, ?_⟩, h.wf⟩
  rcases h.own.2 with h1 | ⟨g, c, cur, h1, h2, h3, h4⟩
  · exact .inl h1
  · refine .inr ⟨g, c, cur, h1, h2, G.has h3 ?_, h4⟩
    injection h1 with e1 e2 e3
    exact hs _ e1

theorem blk_xn {w : World} {Q : Exit → Act → World → Prop} {i j : Nat} {a : Act} (hne : j ≠ i) (h : Q (.exit j) a w) : Exit.inBlock i Q (.exit j) a w := by
  simpa [Exit.inBlock, hne] using h
/-- A call of a script. -/
structure OpV where
  k : Int
  i : Int
  ao : Option Addr
  cap : Nat
  l : List Nat
def opC (o : OpV) : List Value := [.int .i64 o.k, .int .i64 o.i, .slice o.ao o.l.length o.cap]
theorem flat3 : ∀ (os : List OpV) (j : Nat) (o : OpV), os[j]? = some o → ((os.flatMap opC).drop (j * 3)).take 3 = opC o
  | x :: os, 0, o, h => by
    simp at h
    subst h
    simp [opC]
  | x :: os, j + 1, o, h => by
    simp only [List.getElem?_cons_succ] at h
    have := flat3 os j o h
    rw [List.flatMap_cons, Nat.add_mul, Nat.one_mul, Nat.add_comm, ← List.drop_drop]
    exact this
  | [], _, _, h => by simp at h
structure OC (w : World) (ao : Option Addr) (cap : Nat) (os : List OpV) : Prop where
  xc : XC w 3 ao cap os.length (os.flatMap opC)
  row : ∀ o ∈ os, NC w .u8 o.ao o.cap o.l
  num : ∀ o ∈ os, -9223372036854775808 ≤ o.i ∧ o.i < 9223372036854775808
  len : ∀ o ∈ os, o.l.length ≤ o.cap
def browE (L : List Nat) : PostE := PostE.ex (fun v w => ∃ g, v = .slice (some ⟨g, 0, none⟩) L.length L.length ∧ w.heap[g]? = some (.cells (bv L) 5 (0, 0))) (fun _ _ _ G ⟨g, h, k⟩ => ⟨g, h, G.has k⟩)
theorem fill_brow (L : List Nat) (v : Value) : (browE L).fill v = v := rfl
theorem run_sub64w {P : Program} {o : Oper} {A : Act} (x y : Operand) (t2 : TypeId) (ho : o.op = .binOp .sub 3 x y t2) (a b : Int) (hx : A.eval x = .int .i64 a) (hy : A.eval y = .int .i64 b) (w : World) : (execOp A.eval o).run P w = .ok (.value (.int .i64 (IntKind.i64.wrap (a - b)))) w := by
  refine run_binop .sub 3 x y t2 ho _ _ _ hx hy (by simp [eqGuard]) ?_
  simp [go_sem]
/-- Power of the disk, and what is left of it as the law counts it, behind c writes. -/
def PwL (power : Int) (c : Nat) (lf pw : Int) : Prop :=
  (0 ≤ power ∧ lf = power - c ∧ pw = power - c ∧ (c : Int) ≤ power) ∨ (power < 0 ∧ pw = -1 ∧ (lf = power - c ∨ lf = power - c + 18446744073709551616))
theorem PwL.start {power : Int} : PwL power 0 power (max power (-1)) := by
  unfold PwL
  omega
theorem wrap_sub {a : Int} (h1 : -9223372036854775808 ≤ a) (h2 : a < 9223372036854775808) : IntKind.i64.wrap (a - 1) = if a = -9223372036854775808 then 9223372036854775807 else a - 1 := by
  by_cases h : a = -9223372036854775808
  · subst h
    rfl
  · rw [if_neg h]
    exact wrap_in _ (by omega) (by omega)
theorem PwL.next {power lf pw : Int} {c : Nat} (h : PwL power c lf pw) (h1 : -9223372036854775808 ≤ lf) (h2 : lf < 9223372036854775808) (h0 : lf ≠ 0) (hc : c ≤ 301) (hp : -9223372036854775808 ≤ power) : PwL power (c + 1) (IntKind.i64.wrap (lf - 1)) (if pw = -1 then -1 else pw - 1) := by
  rw [wrap_sub h1 h2]
  unfold PwL at *
  split <;> split <;> omega
theorem wrap_lo {a : Int} (h1 : -9223372036854775808 ≤ a) (h2 : a < 9223372036854775808) : -9223372036854775808 ≤ IntKind.i64.wrap (a - 1) ∧ IntKind.i64.wrap (a - 1) < 9223372036854775808 := by
  rw [wrap_sub h1 h2]
  split <;> omega
theorem ways (n : Nat) (i : Int) (m : Nat) : (hasB n i = false ∧ i < 0) ∨ (hasB n i = false ∧ 0 ≤ i ∧ (n : Int) ≤ i) ∨ (∃ j : Nat, i = (j : Int) ∧ j < n ∧ 64 < m) ∨ (∃ j : Nat, i = (j : Int) ∧ j < n ∧ m ≤ 64) := by
  cases hB : hasB n i
  · rcases hasB_f hB with h | ⟨h, h2⟩
    · exact .inl ⟨rfl, h⟩
    · exact .inr (.inl ⟨rfl, h, h2⟩)
  · obtain ⟨j, hj, hjn⟩ := hasB_nat hB
    by_cases hm : 64 < m
    · exact .inr (.inr (.inl ⟨j, hj, hjn, hm⟩))
    · exact .inr (.inr (.inr ⟨j, hj, hjn, by omega⟩))
theorem write_go (w : World) (p sg n : Nat) (L : List Nat) (pw dn : Int) (H : DK w p sg n L pw dn) (ao : Option Addr) (cap : Nat) (l : List Nat) (HB : BS [p, sg] w ao cap l) (i : Nat) (hi : i < n) (hl : l.length ≤ 64) (h1 : pw = -1 ∨ 0 < pw) (h2 : pw < 9223372036854775808) (hd : 0 ≤ dn) (hd2 : dn < 9223372036854775807) : Calls Try.prog 39 #[.pointer (some ⟨p, 0, none⟩), .int .i64 ((i : Nat) : Int), .slice ao l.length cap] w fun e w' => e = .returned (.int .i64 0) ∧ GroS [p, sg] w w' ∧ DK w' p sg n (wr L (i * 64) (padS l)) (if pw = -1 then -1 else pw - 1) (dn + 1) := by
  rcases h1 with h1 | h1
  · rw [if_pos h1]
    have := write_end w p sg n L pw dn H ao cap l HB i hi hl h1 hd hd2
    rwa [h1] at this
  · rw [if_neg (by omega)]
    exact write_ok w p sg n L pw dn H ao cap l HB i hi hl h1 h2 hd hd2
end Go.Proofs.Ytaejjmoocnpdaaa
