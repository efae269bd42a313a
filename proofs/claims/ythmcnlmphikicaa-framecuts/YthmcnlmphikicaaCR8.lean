/- A frame that is read (frame.Decode). -/
import Derived.Test.YthmcnlmphikicaaCR7
import Derived.Test.YthmcnlmphikicaaCG1
namespace Go.Proofs.Ythmcnlmphikicaa
open Go.RowKit
/-- What Decode answers. -/
def DecP (w : World) (l : List Nat) (e : Ending) (w' : World) : Prop :=
  Gro w w' ∧ match decE l with
    | .error x => e = .returned (.tuple #[.agg (frA Fr.zero), .int .i64 (x : Int)])
    | .ok a => ∃ g : Fr, e = .returned (.tuple #[.agg (frA g), .int .i64 0]) ∧ (∃ s1 s2 s3 s4 : Sl, g = { bare a.1 a.2.1 with kind := (a.1 : Int), tr := s1, ids := s2, val := s3, tx := s4 }) ∧ FrO w' w.heap.size g (bareD a.1 a.2.2)
set_option maxRecDepth 100000 in
set_option maxHeartbeats 4000000 in
theorem decode_E (so : Option Addr) (sc : Nat) (l : List Nat) (w : World) (H : NC w .u8 so sc l) (hl : l.length ≤ 140737488355000) (x : Nat) (hx : x ≠ 0) (hD : decE l = .error x) : Calls Try.prog 14 #[.slice so l.length sc] w (DecP w l) := by
  refine s_enter Try.func14 rfl Try.ntmps14 [.slice so l.length sc] [.slice so l.length sc, undef, undef, undef, undef, undef, undef, undef, undef, undef, undef, undef, undef, undef, undef, undef, undef] rfl ?_
  have GG := Gro.refl w
  refine wp_seq ?_
  refine wp_region_lit ?_
  refine s_alloc 2 rfl rfl 36 rfl _ zv36 _ rfl ?_
  intro w1 g1 G eg1 kg1
  have bg1 := size_base GG eg1
  replace GG := GG.trans G
  clear G eg1
  simp only [z0, z1]
  refine s_val 3 rfl rfl (.int .i64 0) (rfl) ?_
  simp only [z0, z1]
  refine wpList_nil ?_
  refine then_n ?_
  refine wp_seq ?_
  refine wp_region_lit ?_
  refine s_val 7 rfl rfl (.slice so l.length sc) (rfl) ?_
  simp only [z0, z1]
  have szr := GG.size
  have drg1 := lt_of_heap kg1
  have HC := read_any so sc l _ (H.gro GG) hl
  unfold ReadP at HC
  rw [hD] at HC
  refine s_callx 8 rfl rfl _ 30 Try.call30 rfl rfl _ rfl [.slice so l.length sc] rfl HC (fun _ _ ⟨_, he⟩ => ⟨_, he⟩) ?_
  rintro v w2 ⟨G, he⟩
  cases he
  replace kg1 := G.has kg1
  replace GG := GG.trans G
  clear G
  clear HC
  simp only [z0, z1]
  refine s_val 6 rfl rfl (.tuple #[.nilIface, .int .i64 ((x : Nat) : Int)]) (rfl) ?_
  simp only [z0, z1]
  refine s_val 9 rfl rfl (.nilIface) (rfl) ?_
  simp only [z0, z1]
  refine s_val 10 rfl rfl (.int .i64 ((x : Nat) : Int)) (rfl) ?_
  simp only [z0, z1]
  refine s_val 4 rfl rfl (.nilIface) (rfl) ?_
  simp only [z0, z1]
  refine s_val 5 rfl rfl (.int .i64 ((x : Nat) : Int)) (rfl) ?_
  simp only [z0, z1]
  refine wpList_nil ?_
  refine then_n ?_
  refine wp_seq ?_
  refine wp_seq ?_
  refine wp_region_lit ?_
  refine s_val 11 rfl rfl (.int .i64 ((x : Nat) : Int)) (rfl) ?_
  simp only [z0, z1]
  refine s_val 12 rfl rfl (.bool true) (run_neqT 38 .i64 _ _ _ rfl Try.underlying38 _ _ rfl rfl (decide_eq_false (by omega)) _) ?_
  simp only [z0, z1]
  refine wpList_nil ?_
  refine then_n ?_
  refine wp_cond_true rfl ?_
  refine wp_seq ?_
  refine wp_region_lit ?_
  refine s_val 13 rfl rfl (.agg (c36 0 zF 0 false zF zF 0 0 0 0 0 Sl.nil Sl.nil zF 0 zF Sl.nil 0 0 Sl.nil)) (run_bd 36 _ rfl [] rfl _ (by kernel_rfl)) ?_
  simp only [z0, z1]
  refine s_val 14 rfl rfl (.int .i64 ((x : Nat) : Int)) (rfl) ?_
  simp only [z0, z1]
  refine s_store rfl rfl 36 _ _ rfl g1 0 rfl (.agg (c36 0 zF 0 false zF zF 0 0 0 0 0 Sl.nil Sl.nil zF 0 zF Sl.nil 0 0 Sl.nil)) rfl 36 _ kg1 (c36 0 zF 0 false zF zF 0 0 0 0 0 Sl.nil Sl.nil zF 0 zF Sl.nil 0 0 Sl.nil) rfl (by kernel_rfl) (Nat.le_of_ble_eq_true rfl) (by kernel_rfl) (c36 0 zF 0 false zF zF 0 0 0 0 0 Sl.nil Sl.nil zF 0 zF Sl.nil 0 0 Sl.nil) (by kernel_rfl) ?_
  intro w4 S
  replace GG := GG.store S bg1
  replace kg1 := S.new
  clear S
  refine s_val 3 rfl rfl (.int .i64 ((x : Nat) : Int)) (rfl) ?_
  simp only [z0, z1]
  refine wpList_nil ?_
  refine then_n ?_
  refine wp_ret ?_
  refine then_r ?_
  refine bodyPost_ret (results_cell_tmp Try.results14 _ _ g1 36 _ (0, 0) _ rfl (.int .i64 ((x : Nat) : Int)) rfl kg1 Try.underlying36 rfl (by kernel_rfl)) rfl ?_
  unfold DecP
  rw [hD]
  exact ⟨GG, rfl⟩
end Go.Proofs.Ythmcnlmphikicaa
