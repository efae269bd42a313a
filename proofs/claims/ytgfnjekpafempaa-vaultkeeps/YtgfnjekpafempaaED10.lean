/- A disk of any bytes (DiskOf). -/
import Derived.Test.YtgfnjekpafempaaED5
namespace Go.Proofs.Ytgfnjekpafempaa
open Go.RowKit
theorem DK.st {w w' : World} {p sg n : Nat} {L : List Nat} {pw dn : Int} {g : Nat} {x : Obj} (h : DK w p sg n L pw dn) (S : Stored w w' g x) (h1 : g ≠ p) (h2 : g ≠ sg) : DK w' p sg n L pw dn := ⟨S.has (Ne.symm h1) h.box, S.has (Ne.symm h2) h.sec, h.len, h.le, h.byte, h.ne⟩
theorem RDk.st {w w' : World} {p sg n : Nat} {L : List Nat} {pw dn : Int} {g : Nat} {x : Obj} (h : RDk w p sg n L pw dn) (S : Stored w w' g x) (h1 : g ≠ p) (h2 : g ≠ sg) : RDk w' p sg n L pw dn := ⟨S.has (Ne.symm h1) h.box, S.has (Ne.symm h2) h.sec, h.len, h.le, h.byte, h.ne⟩
end Go.Proofs.Ytgfnjekpafempaa
namespace Go.Proofs.Ytgfnjekpafempaa
open Go.RowKit
/-- Power of the disk, and what is left of it as the law counts it, behind c writes. -/
def PwL (power : Int) (c : Nat) (lf pw : Int) : Prop :=
  (0 ≤ power ∧ lf = power - c ∧ pw = power - c ∧ (c : Int) ≤ power) ∨ (power < 0 ∧ pw = -1 ∧ (lf = power - c ∨ lf = power - c + 18446744073709551616))
theorem wrap_sube {a : Int} (h1 : -9223372036854775808 ≤ a) (h2 : a < 9223372036854775808) : IntKind.i64.wrap (a - 1) = if a = -9223372036854775808 then 9223372036854775807 else a - 1 := by
  by_cases h : a = -9223372036854775808
  · subst h
    rfl
  · rw [if_neg h]
    exact wrap_in _ (by omega) (by omega)
theorem PwL.next {power lf pw : Int} {c : Nat} (h : PwL power c lf pw) (h1 : -9223372036854775808 ≤ lf) (h2 : lf < 9223372036854775808) (h0 : lf ≠ 0) (hc : c ≤ 301) (hp : -9223372036854775808 ≤ power) : PwL power (c + 1) (IntKind.i64.wrap (lf - 1)) (if pw = -1 then -1 else pw - 1) := by
  rw [wrap_sube h1 h2]
  unfold PwL at *
  split <;> split <;> omega
theorem ways (n : Nat) (i : Int) (m : Nat) : (hasB n i = false ∧ i < 0) ∨ (hasB n i = false ∧ 0 ≤ i ∧ (n : Int) ≤ i) ∨ (∃ j : Nat, i = (j : Int) ∧ j < n ∧ 64 < m) ∨ (∃ j : Nat, i = (j : Int) ∧ j < n ∧ m ≤ 64) := by
  cases hB : hasB n i
  · rcases hasB_f hB with h | ⟨h, h2⟩
    · exact .inl ⟨rfl, h⟩
    · exact .inr (.inl ⟨rfl, h, h2⟩)
  · obtain ⟨j, hj, hjn⟩ := hasB_nat hB
    by_cases hm : 64 < m
    · exact .inr (.inr (.inl ⟨j, hj, hjn, hm⟩))
    · exact .inr (.inr (.inr ⟨j, hj, hjn, by omega⟩))
theorem write_go (w : World) (p sg n : Nat) (L : List Nat) (pw dn : Int) (H : DK w p sg n L pw dn) (ao : Option Addr) (cap : Nat) (l : List Nat) (HB : BS [p, sg] w ao cap l) (i : Nat) (hi : i < n) (hl : l.length ≤ 64) (h1 : pw = -1 ∨ 0 < pw) (h2 : pw < 9223372036854775808) (hd : 0 ≤ dn) (hd2 : dn < 9223372036854775807) : Calls Try.prog 81 #[.pointer (some ⟨p, 0, none⟩), .int .i64 ((i : Nat) : Int), .slice ao l.length cap] w fun e w' => e = .returned (.int .i64 0) ∧ GroS [p, sg] w w' ∧ DK w' p sg n (wr L (i * 64) (padS l)) (if pw = -1 then -1 else pw - 1) (dn + 1) := by
  rcases h1 with h1 | h1
  · rw [if_pos h1]
    have := write_end w p sg n L pw dn H ao cap l HB i hi hl h1 hd hd2
    rwa [h1] at this
  · rw [if_neg (by omega)]
    exact write_ok w p sg n L pw dn H ao cap l HB i hi hl h1 h2 hd hd2
end Go.Proofs.Ytgfnjekpafempaa
namespace Go.Proofs.Ytgfnjekpafempaa
open Go.RowKit
theorem DK.below {w w' : World} {p sg n B : Nat} {L : List Nat} {pw dn : Int} (h : DK w p sg n L pw dn) (G : Below B w w') (h1 : p < B) (h2 : sg < B) : DK w' p sg n L pw dn := ⟨by rw [G.block p h1]; exact h.box, by rw [G.block sg h2]; exact h.sec, h.len, h.le, h.byte, h.ne⟩
theorem RDk.below {w w' : World} {p sg n B : Nat} {L : List Nat} {pw dn : Int} (h : RDk w p sg n L pw dn) (G : Below B w w') (h1 : p < B) (h2 : sg < B) : RDk w' p sg n L pw dn := ⟨by rw [G.block p h1]; exact h.box, by rw [G.block sg h2]; exact h.sec, h.len, h.le, h.byte, h.ne⟩
theorem read_len (w : World) (p sg n : Nat) (L : List Nat) (pw dn : Int) (H : DK w p sg n L pw dn) (i : Nat) (hi : i < n) : Calls Try.prog 76 #[.pointer (some ⟨p, 0, none⟩), .int .i64 ((i : Nat) : Int)] w fun e w' => ∃ g, e = .returned (.tuple #[.slice (some ⟨g, 0, none⟩) (secL L i).length (secL L i).length, .int .i64 0]) ∧ Gro w w' ∧ w.heap.size ≤ g ∧ w'.heap[g]? = some (.cells (bv (secL L i)) 5 (0, 0)) := by
  rw [secL_len H.len hi]
  exact read_ok w p sg n L pw dn H i hi
def okP (pw : Int) : Prop := -1 ≤ pw ∧ pw < 9223372036854775808
theorem okP.next {pw : Int} (h : okP pw) (_h0 : pw ≠ 0) : okP (if pw = -1 then -1 else pw - 1) := by
  unfold okP at *
  split <;> omega
theorem okP.set {x : Int} (h : x < 9223372036854775808) : okP (max x (-1)) := by
  unfold okP
  omega
end Go.Proofs.Ytgfnjekpafempaa
