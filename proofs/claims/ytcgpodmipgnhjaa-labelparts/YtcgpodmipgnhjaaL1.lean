/- Labels: runes of a text, and what counts. -/
import Derived.Test.YtcgpodmipgnhjaaBase
import Derived.Laws.RangeAny
import Derived.Laws.AppendOwn
import Derived.Laws.Cover4
namespace Go.Proofs.Ytcgpodmipgnhjaa
open Go.RowKit

/-- A fact kept from the walk. -/
structure Shut (p : Prop) : Prop where
  out : p
theorem width_pos (s : ByteArray) (p : Nat) (h : p < s.size) : 1 ≤ (Utf8.decode s p).2 := by
  by_cases ha : (s[p]'h).toNat < 128
  · rw [decode_ascii s p h ha]; exact Nat.le_refl 1
  · exact (decode_high s p h (by omega)).2
/-- The runes of a text from place p on. -/
def rl (s : ByteArray) : Nat → Nat → List Nat
  | 0, _ => []
  | f + 1, p => if p < s.size then (Utf8.decode s p).1 :: rl s f (p + (Utf8.decode s p).2) else []
def runeL (s : ByteArray) : List Nat := rl s s.size 0
theorem rl_end (s : ByteArray) (f p : Nat) (h : ¬ p < s.size) : rl s f p = [] := by
  cases f with
  | zero => rfl
  | succ f => unfold rl; rw [if_neg h]
theorem rl_step (s : ByteArray) (f p : Nat) (h : p < s.size) (hf : s.size ≤ p + f) : ∃ f', rl s f p = (Utf8.decode s p).1 :: rl s f' (p + (Utf8.decode s p).2) ∧ s.size ≤ p + (Utf8.decode s p).2 + f' := by
  cases f with
  | zero => omega
  | succ f =>
    refine ⟨f, ?_, ?_⟩
    · rw [rl, if_pos h]
    · have := width_pos s p h; omega
/-- May a rune stand in a label? -/
def okR (r : Nat) : Bool := (decide (65 ≤ r) && decide (r ≤ 90)) || (decide (97 ≤ r) && decide (r ≤ 122)) || (decide (48 ≤ r) && decide (r ≤ 57)) || decide (r = 45) || (decide (161 ≤ r) && decide (r ≠ 65533))
/-- The rune as it counts. -/
def cntN (r : Nat) : Nat := if 65 ≤ r ∧ r ≤ 90 then r + 32 else r
theorem okR_iff (r : Nat) : okR r = true ↔ (65 ≤ r ∧ r ≤ 90) ∨ (97 ≤ r ∧ r ≤ 122) ∨ (48 ≤ r ∧ r ≤ 57) ∨ r = 45 ∨ (161 ≤ r ∧ r ≠ 65533) := by
  simp [okR, or_assoc]
def labE (s : ByteArray) : Int := if s.size = 0 then 3 else if ((runeL s).take 25).all okR = true then (if 24 < (runeL s).length then 4 else 0) else 2
def labL (s : ByteArray) : List Nat := if labE s = 0 then (runeL s).map cntN else []
theorem lab_empty (s : ByteArray) (h : s.size = 0) : labE s = 3 ∧ labL s = [] := by
  have h1 : labE s = 3 := by rw [labE, if_pos h]
  exact ⟨h1, by rw [labL, h1]; rfl⟩
theorem lab_done (s : ByteArray) (h0 : s.size ≠ 0) (dn : List Nat) (h : runeL s = dn) (hl : dn.length ≤ 24) (ho : ∀ r ∈ dn, okR r = true) : labE s = 0 ∧ labL s = dn.map cntN := by
  have h1 : labE s = 0 := by
    rw [labE, if_neg h0, h, if_pos, if_neg (by omega)]
    rw [List.all_eq_true]
    exact fun r hr => ho r (List.mem_of_mem_take hr)
  exact ⟨h1, by rw [labL, if_pos h1, h]⟩
theorem lab_form (s : ByteArray) (h0 : s.size ≠ 0) (dn rest : List Nat) (r : Nat) (h : runeL s = dn ++ r :: rest) (hl : dn.length ≤ 24) (ho : okR r = false) : labE s = 2 ∧ labL s = [] := by
  have h1 : labE s = 2 := by
    rw [labE, if_neg h0, if_neg]
    intro h2
    rw [List.all_eq_true] at h2
    have h3 := h2 r (by
      rw [h, List.take_append]
      have e : 25 - dn.length = (24 - dn.length) + 1 := by omega
      rw [e, List.take_succ_cons]
      simp)
    rw [ho] at h3
    cases h3
  exact ⟨h1, by rw [labL, h1]; rfl⟩
theorem lab_long (s : ByteArray) (h0 : s.size ≠ 0) (dn rest : List Nat) (r : Nat) (h : runeL s = dn ++ r :: rest) (hl : dn.length = 24) (hd : ∀ r ∈ dn, okR r = true) (ho : okR r = true) : labE s = 4 ∧ labL s = [] := by
  have h1 : labE s = 4 := by
    rw [labE, if_neg h0, if_pos, if_pos]
    · rw [h]; simp; omega
    · rw [List.all_eq_true]
      intro x hx
      rw [h, List.take_append] at hx
      have e : 25 - dn.length = 0 + 1 := by omega
      rw [e, List.take_succ_cons] at hx
      rcases List.mem_append.1 hx with hx | hx
      · exact hd x (List.mem_of_mem_take hx)
      · simp at hx; rw [hx]; exact ho
  exact ⟨h1, by rw [labL, h1]; rfl⟩
theorem decode_small (s : ByteArray) (p : Nat) : ((Utf8.decode s p).1 : Int) ≤ 2147483647 := by
  have := decode_le s p; omega

set_option maxHeartbeats 400000 in
theorem counted_AZ (r : Nat) (h1 : 65 ≤ r) (h2 : r ≤ 90) (w : World) : Calls Try.prog 20 #[.int .i32 (r : Int)] w fun e w' => e = .returned (.tuple #[.int .i32 ((r : Int) - 65 + 97), .bool true]) ∧ Gro w w' := by
  go_enter Try.func20, Try.ntmps20
  go_wp2
  go_ret2
  exact ⟨rfl, Gro.refl w⟩

set_option maxHeartbeats 400000 in
theorem counted_az (r : Nat) (h1 : 97 ≤ r) (h2 : r ≤ 122) (w : World) : Calls Try.prog 20 #[.int .i32 (r : Int)] w fun e w' => e = .returned (.tuple #[.int .i32 (r : Int), .bool true]) ∧ Gro w w' := by
  go_enter Try.func20, Try.ntmps20
  go_wp2
  go_ret2
  exact ⟨rfl, Gro.refl w⟩

set_option maxHeartbeats 400000 in
theorem counted_09 (r : Nat) (h1 : 48 ≤ r) (h2 : r ≤ 57) (w : World) : Calls Try.prog 20 #[.int .i32 (r : Int)] w fun e w' => e = .returned (.tuple #[.int .i32 (r : Int), .bool true]) ∧ Gro w w' := by
  go_enter Try.func20, Try.ntmps20
  go_wp2
  go_ret2
  exact ⟨rfl, Gro.refl w⟩

set_option maxHeartbeats 400000 in
theorem counted_45 (r : Nat) (h1 : r = 45) (w : World) : Calls Try.prog 20 #[.int .i32 (r : Int)] w fun e w' => e = .returned (.tuple #[.int .i32 (r : Int), .bool true]) ∧ Gro w w' := by
  go_enter Try.func20, Try.ntmps20
  go_wp2
  go_ret2
  exact ⟨rfl, Gro.refl w⟩

set_option maxHeartbeats 400000 in
theorem counted_hi (r : Nat) (h1 : 161 ≤ r) (h2 : r ≠ 65533) (w : World) : Calls Try.prog 20 #[.int .i32 (r : Int)] w fun e w' => e = .returned (.tuple #[.int .i32 (r : Int), .bool true]) ∧ Gro w w' := by
  go_enter Try.func20, Try.ntmps20
  go_wp2
  go_ret2
  exact ⟨rfl, Gro.refl w⟩

theorem counted_ok (r : Nat) (h : okR r = true) (w : World) : Calls Try.prog 20 #[.int .i32 (r : Int)] w fun e w' => e = .returned (.tuple #[.int .i32 (cntN r : Int), .bool true]) ∧ Gro w w' := by
  rw [okR_iff] at h
  by_cases hA : 65 ≤ r ∧ r ≤ 90
  · have e : (cntN r : Int) = (r : Int) - 65 + 97 := by rw [cntN, if_pos hA]; omega
    rw [e]
    exact counted_AZ r hA.1 hA.2 w
  · have e : (cntN r : Int) = (r : Int) := by rw [cntN, if_neg hA]
    rw [e]
    rcases h with h | h | h | h | h
    · exact absurd h hA
    · exact counted_az r h.1 h.2 w
    · exact counted_09 r h.1 h.2 w
    · exact counted_45 r h w
    · exact counted_hi r h.1 h.2 w
set_option maxHeartbeats 1600000 in
theorem counted_no (r : Nat) (h : okR r = false) (w : World) : Calls Try.prog 20 #[.int .i32 (r : Int)] w fun e w' => e = .returned (.tuple #[.int .i32 0, .bool false]) ∧ Gro w w' := by
  have h' : ¬ ((65 ≤ r ∧ r ≤ 90) ∨ (97 ≤ r ∧ r ≤ 122) ∨ (48 ≤ r ∧ r ≤ 57) ∨ r = 45 ∨ (161 ≤ r ∧ r ≠ 65533)) := fun h2 => by
    rw [(okR_iff r).2 h2] at h; cases h
  have h2 : r < 45 ∨ (45 < r ∧ r < 48) ∨ (57 < r ∧ r < 65) ∨ (90 < r ∧ r < 97) ∨ (122 < r ∧ r < 161) ∨ r = 65533 := by omega
  clear h h'
  rcases h2 with h | ⟨h, h'⟩ | ⟨h, h'⟩ | ⟨h, h'⟩ | ⟨h, h'⟩ | h
  all_goals
    go_enter Try.func20, Try.ntmps20
    go_wp2
    go_ret2
    exact ⟨rfl, Gro.refl w⟩
end Go.Proofs.Ytcgpodmipgnhjaa
