/- The document's side: what the records say. -/
import Derived.Test.YtgfnjekpafempaaGRB
namespace Go.Proofs.Ytgfnjekpafempaa
open Go.RowKit
theorem box_n5 {w : World} {vp : Nat} {c : Array Value} {t : TypeId} (k : w.heap[vp]? = some (.cells c t (0, 0))) (ht : t ≠ 5) : ∀ j ∈ [vp], ∀ d, w.heap[j]? ≠ some (.cells d 5 (0, 0)) := fun j hj d hd => by
  rw [List.mem_singleton.1 hj, k] at hd
  injection hd with hd
  injection hd with _ h2
  exact ht h2
theorem OBs.both {w : World} {B : Nat} {R R2 : List IM} {x : IM} (h : OBs w B R) (hx : OB w 5 .u8 B x.ao x.cap x.val) (hm : ∀ y ∈ R2, y ∈ R ∨ y = x) : OBs w B R2 := fun y hy => by
  rcases hm y hy with hy | rfl
  · exact h y hy
  · exact hx
theorem all_both {R R2 : List IM} {x : IM} {p : IM → Prop} (h : ∀ y ∈ R, p y) (hx : p x) (hm : ∀ y ∈ R2, y ∈ R ∨ y = x) : ∀ y ∈ R2, p y := fun y hy => by
  rcases hm y hy with hy | rfl
  · exact h y hy
  · exact hx
theorem take_oneL {ls : List (List Nat)} {i : Nat} {r : List Nat} (hi : i < ls.length) (hr : ls.getD i [] = r) : ls.take (i + 1) = ls.take i ++ [r] := by
  rw [take_one ls [] i hi, hr]
def HdP (w : World) : Option (List It × Nat) → Ending → World → Prop
  | none, e, w' => e = .returned (.tuple #[.slice none 0 0, .int .i64 0, .bool false]) ∧ Gro w w'
  | some s, e, w' => ∃ ao cap R, e = .returned (.tuple #[.slice ao (List.length R) cap, .int .i64 (s.2 : Int), .bool true]) ∧ Gro w w' ∧ OW kM 56 w' w.heap.size ao cap R ∧ OBs w' w.heap.size R ∧ R.map IM.it = s.1 ∧ ∀ y ∈ R, 1 ≤ y.n
set_option maxRecDepth 100000 in
set_option maxHeartbeats 4000000 in
theorem rheld_any (w : World) (ao : Option Addr) (cap : Nat) (ls : List (List Nat)) (HL : LC w ao cap ls) (hlen : ∀ r ∈ ls, r.length ≤ 1024) (hll : ls.length ≤ 4096) : Calls Try.prog 41 #[.slice ao ls.length cap] w (HdP w (hld ls)) := by
  refine s_enter Try.func41 rfl Try.ntmps41 [.slice ao ls.length cap] [.slice ao ls.length cap, undef, undef, undef, undef, undef, undef, undef, undef, undef, undef, undef, undef, undef, undef, undef, undef, undef, undef, undef, undef, undef, undef, undef, undef, undef, undef, undef, undef, undef, undef, undef, undef, undef, undef, undef, undef, undef, undef, undef, undef, undef, undef, undef, undef, undef, undef, undef, undef, undef, undef, undef, undef, undef, undef, undef, undef, undef] rfl ?_
  have GG := Gro.refl w
  refine wp_seq ?_
  refine wp_region_lit ?_
  refine s_val 2 rfl rfl (.slice none 0 0) (rfl) ?_
  refine nr ?_; intro U h; simp only [z0, z1] at h; subst h
  refine s_val 3 rfl rfl (.int .i64 0) (rfl) ?_
  refine nr ?_; intro U h; simp only [z0, z1] at h; subst h
  refine s_val 4 rfl rfl (.bool false) (rfl) ?_
  refine nr ?_; intro U h; simp only [z0, z1] at h; subst h
  refine wpList_nil ?_
  refine then_n ?_
  refine wp_seq ?_
  refine wp_region_lit ?_
  refine s_val 10 rfl rfl (.agg (rvA none none 0 0 0)) (run_bd 48 _ rfl [] rfl _ (bdRv0 _)) ?_
  refine nr ?_; intro U h; simp only [z0, z1] at h; subst h
  refine s_box 11 rfl rfl 48 _ rfl _ rfl (rvA none none 0 0 0) rfl ?_
  intro w1 vp G evp kvp
  have bvp : w.heap.size ≤ vp := by rw [← evp]; exact GG.size
  replace GG := GG.trans G
  clear G
  refine nr ?_; intro U h; simp only [z0, z1] at h; subst h
  refine s_val 5 rfl rfl (.pointer (some ⟨vp, 0, none⟩)) (rfl) ?_
  refine nr ?_; intro U h; simp only [z0, z1] at h; subst h
  refine wpList_nil ?_
  refine then_n ?_
  refine wp_seq ?_
  refine wp_seq ?_
  refine wp_region_lit ?_
  refine s_val 6 rfl rfl (.int .i64 0) (rfl) ?_
  refine nr ?_; intro U h; simp only [z0, z1] at h; subst h
  refine wpList_nil ?_
  refine then_n ?_
  refine wp_block ?_
  refine wp_loopN (fun mz az wv => ∃ (i : Nat) (c : Nat) (R : List IM) (ro : Option Addr) (rc : Nat) (us1 : Nat → Value), mz = ls.length - i ∧ az = ⟨[.slice ao ls.length cap, undef, us1 0, us1 1, us1 2, .pointer (some ⟨vp, 0, none⟩), .int .i64 ((i : Nat) : Int), us1 3, us1 4, us1 5, .agg (rvA none none 0 0 0), .pointer (some ⟨vp, 0, none⟩), us1 6, us1 7, us1 8, us1 9, us1 10, us1 11, us1 12, us1 13, us1 14, us1 15, us1 16, us1 17, us1 18, us1 19, us1 20, us1 21, us1 22, us1 23, us1 24, us1 25, us1 26, us1 27, us1 28, us1 29, us1 30, us1 31, us1 32, us1 33, us1 34, us1 35, us1 36, us1 37, us1 38, us1 39, us1 40, us1 41, us1 42, us1 43, undef, undef, undef, undef, undef, undef, undef, undef].toArray, []⟩ ∧ Gro w wv ∧ wv.heap[vp]? = some (.cells (rvA none ro R.length rc ((c : Nat) : Int)) 48 (0, 0)) ∧ OW kM 56 wv w.heap.size ro rc R ∧ OBs wv w.heap.size R ∧ i ≤ ls.length ∧ hld (ls.take i) = some (R.map IM.it, c) ∧ (∀ y ∈ R, 1 ≤ y.n)) ?_ _ ⟨0, 0, [], none, 0, (fun kz => ([.slice none 0 0, .int .i64 0, .bool false, undef, undef, undef, undef, undef, undef, undef, undef, undef, undef, undef, undef, undef, undef, undef, undef, undef, undef, undef, undef, undef, undef, undef, undef, undef, undef, undef, undef, undef, undef, undef, undef, undef, undef, undef, undef, undef, undef, undef, undef, undef] : List Value).getD kz undef), rfl, rfl, GG, kvp, OW.nil _ _, OBs.nil _ _, Nat.zero_le _, rfl, fun _ h => by (cases h)⟩
  clear GG kvp
  rintro mz az wv ⟨i, c, R, ro, rc, us1, rfl, rfl, GG, kvp, HW, HS, hi, hh, hn0⟩
  have hRl : R.length ≤ i := by
    have h1 := hld_len (s := ([], 0)) hh
    rw [List.length_map, List.length_take] at h1
    simp only [List.length_nil] at h1
    omega
  refine wp_seq ?_
  refine wp_seq ?_
  cases h1 : decide (((i : Nat) : Int) < ((ls.length : Nat) : Int))
  · have hiq : i = ls.length := by have := of_decide_eq_false h1; omega
    rw [List.take_of_length_le (by omega)] at hh
    refine wp_region_lit ?_
    refine s_val 12 rfl rfl (.int .i64 ((i : Nat) : Int)) (rfl) ?_
    refine nr ?_; intro U h; simp only [z0, z1] at h; subst h
    refine s_val 13 rfl rfl (.slice ao ls.length cap) (rfl) ?_
    refine nr ?_; intro U h; simp only [z0, z1] at h; subst h
    refine s_val 14 rfl rfl (.int .i64 ((ls.length : Nat) : Int)) (run_len Try.underlying22 _ rfl _ _ _ rfl _) ?_
    refine nr ?_; intro U h; simp only [z0, z1] at h; subst h
    refine s_val 15 rfl rfl (.bool false) (run_lssT 3 _ _ _ rfl ((i : Nat) : Int) ((ls.length : Nat) : Int) rfl rfl false h1 _) ?_
    refine nr ?_; intro U h; simp only [z0, z1] at h; subst h
    refine wpList_nil ?_
    refine then_n ?_
    refine wp_cond_false rfl ?_
    refine wp_exit ?_
    refine then_x ?_
    refine then_x ?_
    refine blk_x ?_
    refine then_n ?_
    refine wp_seq ?_
    refine wp_region_exA (A := ?Ax1) 9 [(0, 50), (1, 51), (2, 52), (3, 53), (4, 54), (5, 55), (6, 56), (7, 57), (8, 2)] [.val (.pointer (some ⟨vp, 0, none⟩)), .val (.pointer (some ⟨vp, 0, none⟩)), .val (.pointer (some ⟨vp, 1, none⟩)), .val (.slice ro R.length rc), .val (.pointer (some ⟨vp, 0, none⟩)), .val (.pointer (some ⟨vp, 0, none⟩)), .val (.pointer (some ⟨vp, 2, none⟩)), .val (.int .i64 ((c : Nat) : Int)), .val (.slice ro R.length rc)] follows (by kernel_rfl) rfl ?hAx1 (opsA_cons ?o0x1 (opsA_cons ?o1x1 (opsA_cons ?o2x1 (opsA_cons ?o3x1 (opsA_cons ?o4x1 (opsA_cons ?o5x1 (opsA_cons ?o6x1 (opsA_cons ?o7x1 (opsA_cons ?o8x1 opsA_nil))))))))) ?restx1
    case hAx1 =>
      intro ptrs
      simp only [full, foldSlots, filledE, postE, List.foldl_cons, List.foldl_nil, List.getD_cons_zero, List.getD_cons_succ, fill_val, List.set_cons_zero, List.set_cons_succ]
      exact rfl
    case o0x1 => exact fun _ _ _ _ => opE_move (v := .pointer (some ⟨vp, 0, none⟩)) _ rfl rfl rfl
    case o1x1 => exact fun _ _ _ _ => opE_value (v := .pointer (some ⟨vp, 0, none⟩)) rfl (run_nc _ rfl _ rfl)
    case o2x1 => exact fun _ _ _ _ => opE_value (v := .pointer (some ⟨vp, 1, none⟩)) rfl (run_fld 48 _ 1 rfl vp 0 rfl 1 (by kernel_rfl))
    case o3x1 => exact fun _ _ hw _ => opE_value (v := .slice ro R.length rc) rfl (ldRvr _ rfl vp rfl (hw.has kvp))
    case o4x1 => exact fun _ _ _ _ => opE_move (v := .pointer (some ⟨vp, 0, none⟩)) _ rfl rfl rfl
    case o5x1 => exact fun _ _ _ _ => opE_value (v := .pointer (some ⟨vp, 0, none⟩)) rfl (run_nc _ rfl _ rfl)
    case o6x1 => exact fun _ _ _ _ => opE_value (v := .pointer (some ⟨vp, 2, none⟩)) rfl (run_fld 48 _ 2 rfl vp 0 rfl 2 (by kernel_rfl))
    case o7x1 => exact fun _ _ hw _ => opE_value (v := .int .i64 ((c : Nat) : Int)) rfl (ldRvi _ rfl vp rfl (hw.has kvp))
    case o8x1 => exact fun _ _ _ _ => opE_assign (v := .slice ro R.length rc) _ rfl rfl rfl
    intro ptrs w2 GD hxE
    simp only [List.drop_succ_cons, List.drop_zero]
    replace kvp := GD.has kvp
    replace HW := HW.gro ((Gro.refl _).drew.trans GD)
    replace HS := HS.gro ((Gro.refl _).drew.trans GD)
    replace GG := GG.drew.trans GD
    clear GD
    refine s_val 3 rfl rfl (.int .i64 ((c : Nat) : Int)) (rfl) ?_
    refine nr ?_; intro U h; simp only [z0, z1] at h; subst h
    refine s_val 4 rfl rfl (.bool true) (rfl) ?_
    refine nr ?_; intro U h; simp only [z0, z1] at h; subst h
    refine wpList_nil ?_
    refine then_n ?_
    refine wp_ret ?_
    refine bodyPost_ret (results_tmp3 Try.results41 _ _ _) rfl ?_
    rw [hh]
    exact ⟨_, _, R, rfl, GG, HW, HS, rfl, hn0⟩
  · have hlt : i < ls.length := by have := of_decide_eq_true h1; omega
    refine wp_region_lit ?_
    refine s_val 12 rfl rfl (.int .i64 ((i : Nat) : Int)) (rfl) ?_
    refine nr ?_; intro U h; simp only [z0, z1] at h; subst h
    refine s_val 13 rfl rfl (.slice ao ls.length cap) (rfl) ?_
    refine nr ?_; intro U h; simp only [z0, z1] at h; subst h
    refine s_val 14 rfl rfl (.int .i64 ((ls.length : Nat) : Int)) (run_len Try.underlying22 _ rfl _ _ _ rfl _) ?_
    refine nr ?_; intro U h; simp only [z0, z1] at h; subst h
    refine s_val 15 rfl rfl (.bool true) (run_lssT 3 _ _ _ rfl ((i : Nat) : Int) ((ls.length : Nat) : Int) rfl rfl true h1 _) ?_
    refine nr ?_; intro U h; simp only [z0, z1] at h; subst h
    refine wpList_nil ?_
    refine then_n ?_
    refine wp_cond_true rfl ?_
    refine wp_skip ?_
    refine then_n ?_
    refine wp_seq ?_
    refine wp_block ?_
    refine wp_seq ?_
    obtain ⟨ad, ao2, cap2, had, hcell, HR⟩ := (HL.gro GG).at (j := i) hlt
    obtain ⟨r, hr⟩ : ∃ r, ls.getD i [] = r := ⟨_, rfl⟩
    rw [hr] at hcell HR
    have hrl : r.length ≤ 1024 := hlen r (by rw [← hr]; exact getD_mem2 hlt)
    have hs : hld (ls.take (i + 1)) = hldR (R.map IM.it, c) r := by rw [take_oneL hlt hr, hld_snoc, hh]; rfl
    have hSK : SKv (R.map IM.it) := hld_SK (s := ([], 0)) SKv.nil hh
    rcases hx : readV r with _ | (n | x)
    · have hs2 : hld (ls.take (i + 1)) = none := by rw [hs]; unfold hldR; rw [hx]; rfl
      refine wp_region_lit ?_
      refine s_val 19 rfl rfl (.slice ao ls.length cap) (rfl) ?_
      refine nr ?_; intro U h; simp only [z0, z1] at h; subst h
      refine s_val 20 rfl rfl (.int .i64 ((i : Nat) : Int)) (rfl) ?_
      refine nr ?_; intro U h; simp only [z0, z1] at h; subst h
      refine s_val 21 rfl rfl (.pointer (some (ad.add i))) (run_idx23 _ _ rfl ad _ _ i (by rw [← had]; rfl) rfl hlt _) ?_
      refine nr ?_; intro U h; simp only [z0, z1] at h; subst h
      refine s_val 22 rfl rfl (.slice ao2 r.length cap2) (run_ld24 _ rfl (ad.add i) rfl _ _ hcell) ?_
      refine nr ?_; intro U h; simp only [z0, z1] at h; subst h
      refine s_callx 23 rfl rfl _ 68 Try.call68 rfl rfl _ rfl [.slice ao2 r.length cap2] rfl ((rread_any _ ao2 cap2 r HR (by omega)).mono fun e w' HZ => by rw [hx] at HZ; exact HZ) (by rintro _ _ ⟨_, he, _⟩; exact ⟨_, he⟩) ?_
      rintro v w2 ⟨n, he, G⟩
      cases he
      replace kvp := G.has kvp
      replace HW := HW.gro G
      replace HS := HS.gro G
      replace GG := GG.trans G
      clear G
      refine nr ?_; intro U h; simp only [z0, z1] at h; subst h
      refine s_val 18 rfl rfl (.tuple #[.agg (itA zM), .int .i64 n, .bool false]) (rfl) ?_
      refine nr ?_; intro U h; simp only [z0, z1] at h; subst h
      refine s_val 24 rfl rfl (.agg (itA zM)) (rfl) ?_
      refine nr ?_; intro U h; simp only [z0, z1] at h; subst h
      refine s_val 25 rfl rfl (.int .i64 n) (rfl) ?_
      refine nr ?_; intro U h; simp only [z0, z1] at h; subst h
      refine s_val 26 rfl rfl (.bool false) (rfl) ?_
      refine nr ?_; intro U h; simp only [z0, z1] at h; subst h
      refine s_alloc 7 rfl rfl 56 rfl _ zeroIt (itA zM) rfl ?_
      intro w3 g1 G eg1 kg1
      have bg1 := size_base GG eg1
      have dvpg1 := lt_new kvp eg1
      have dHWg1 := HW.ne eg1
      have dHSg1 := HS.ne eg1
      replace kvp := G.has kvp
      replace HW := HW.gro G
      replace HS := HS.gro G
      replace GG := GG.trans G
      clear G
      clear eg1
      refine nr ?_; intro U h; simp only [z0, z1] at h; subst h
      refine s_store rfl rfl 56 _ _ rfl g1 0 rfl (.agg (itA zM)) rfl 56 _ kg1 (itA zM) rfl (siIt' _) (itA_fit _ _) (itA_one _) (itA zM) (splice_whole _ _ (itA_sz _ _)) ?_
      intro w4 St
      replace kvp := St.has (by omega) kvp
      replace HW := HW.st St dHWg1
      replace HS := HS.st St dHSg1
      replace GG := GG.store St bg1
      replace kg1 := St.new
      clear St
      refine s_val 8 rfl rfl (.int .i64 n) (rfl) ?_
      refine nr ?_; intro U h; simp only [z0, z1] at h; subst h
      refine s_val 9 rfl rfl (.bool false) (rfl) ?_
      refine nr ?_; intro U h; simp only [z0, z1] at h; subst h
      refine wpList_nil ?_
      refine then_n ?_
      refine wp_seq ?_
      refine wp_seq ?_
      refine wp_region_opq ?_
      intro OPS hY
      have y2 := hY 2 29 rfl
      have y5 := hY 5 32 rfl
      clear hY
      refine s_val 27 rfl rfl (.bool false) (rfl) ?_
      refine nr ?_; intro U h; simp only [z0, z1] at h; subst h
      refine s_val 28 rfl rfl (.bool true) (run_nt _ _ rfl false rfl) ?_
      refine nr ?_; intro U h; simp only [z0, z1] at h; subst h
      refine s_val 29 rfl rfl (.bool true) (rfl) ?_
      refine nr ?_; intro U h; simp only [z0, z1] at h; subst h
      refine s_skipY 30 rfl rfl y2 rfl ?_
      refine nr ?_; intro U h; simp only [z0, z1] at h; subst h
      refine s_skipY 31 rfl rfl y2 rfl ?_
      refine nr ?_; intro U h; simp only [z0, z1] at h; subst h
      refine s_skipY 32 rfl rfl y2 rfl ?_
      refine nr ?_; intro U h; simp only [z0, z1] at h; subst h
      refine s_skipY 33 rfl rfl y5 rfl ?_
      refine nr ?_; intro U h; simp only [z0, z1] at h; subst h
      refine s_skipY 34 rfl rfl y5 rfl ?_
      refine nr ?_; intro U h; simp only [z0, z1] at h; subst h
      refine s_skipY 35 rfl rfl y5 rfl ?_
      refine nr ?_; intro U h; simp only [z0, z1] at h; subst h
      refine s_skipY 36 rfl rfl y5 rfl ?_
      refine nr ?_; intro U h; simp only [z0, z1] at h; subst h
      refine s_skipY 37 rfl rfl y5 rfl ?_
      refine nr ?_; intro U h; simp only [z0, z1] at h; subst h
      refine s_skipY 38 rfl rfl y5 rfl ?_
      refine nr ?_; intro U h; simp only [z0, z1] at h; subst h
      refine s_skipY 39 rfl rfl y2 rfl ?_
      refine nr ?_; intro U h; simp only [z0, z1] at h; subst h
      refine s_val 40 rfl rfl (.bool true) (rfl) ?_
      refine nr ?_; intro U h; simp only [z0, z1] at h; subst h
      refine wpList_nil ?_
      refine then_n ?_
      refine wp_cond_true rfl ?_
      refine wp_seq ?_
      refine wp_region_lit ?_
      refine s_val 2 rfl rfl (.slice none 0 0) (rfl) ?_
      refine nr ?_; intro U h; simp only [z0, z1] at h; subst h
      refine s_val 3 rfl rfl (.int .i64 0) (rfl) ?_
      refine nr ?_; intro U h; simp only [z0, z1] at h; subst h
      refine s_val 4 rfl rfl (.bool false) (rfl) ?_
      refine nr ?_; intro U h; simp only [z0, z1] at h; subst h
      refine wpList_nil ?_
      refine then_n ?_
      refine wp_ret ?_
      refine then_r ?_
      refine blk_r ?_
      refine then_r ?_
      refine then_r ?_
      refine blk_r ?_
      refine then_r ?_
      refine bodyPost_ret (results_tmp3 Try.results41 _ _ _) rfl ?_
      rw [hld_take hs2]
      exact ⟨rfl, GG⟩
    · have hn := rdv_inc hx
      have k1 : decide ((0 : Int) < ((n : Nat) : Int)) = true := decide_eq_true (by omega)
      refine wp_region_lit ?_
      refine s_val 19 rfl rfl (.slice ao ls.length cap) (rfl) ?_
      refine nr ?_; intro U h; simp only [z0, z1] at h; subst h
      refine s_val 20 rfl rfl (.int .i64 ((i : Nat) : Int)) (rfl) ?_
      refine nr ?_; intro U h; simp only [z0, z1] at h; subst h
      refine s_val 21 rfl rfl (.pointer (some (ad.add i))) (run_idx23 _ _ rfl ad _ _ i (by rw [← had]; rfl) rfl hlt _) ?_
      refine nr ?_; intro U h; simp only [z0, z1] at h; subst h
      refine s_val 22 rfl rfl (.slice ao2 r.length cap2) (run_ld24 _ rfl (ad.add i) rfl _ _ hcell) ?_
      refine nr ?_; intro U h; simp only [z0, z1] at h; subst h
      refine s_callv 23 rfl rfl _ 68 Try.call68 rfl rfl _ rfl [.slice ao2 r.length cap2] rfl ((rread_any _ ao2 cap2 r HR (by omega)).mono fun e w' HZ => by rw [hx] at HZ; exact HZ) ?_
      intro w2 G
      replace kvp := G.has kvp
      replace HW := HW.gro G
      replace HS := HS.gro G
      replace GG := GG.trans G
      clear G
      refine nr ?_; intro U h; simp only [z0, z1] at h; subst h
      refine s_val 18 rfl rfl (.tuple #[.agg (itA zM), .int .i64 ((n : Nat) : Int), .bool true]) (rfl) ?_
      refine nr ?_; intro U h; simp only [z0, z1] at h; subst h
      refine s_val 24 rfl rfl (.agg (itA zM)) (rfl) ?_
      refine nr ?_; intro U h; simp only [z0, z1] at h; subst h
      refine s_val 25 rfl rfl (.int .i64 ((n : Nat) : Int)) (rfl) ?_
      refine nr ?_; intro U h; simp only [z0, z1] at h; subst h
      refine s_val 26 rfl rfl (.bool true) (rfl) ?_
      refine nr ?_; intro U h; simp only [z0, z1] at h; subst h
      refine s_alloc 7 rfl rfl 56 rfl _ zeroIt (itA zM) rfl ?_
      intro w3 g1 G eg1 kg1
      have bg1 := size_base GG eg1
      have dvpg1 := lt_new kvp eg1
      have dHWg1 := HW.ne eg1
      have dHSg1 := HS.ne eg1
      replace kvp := G.has kvp
      replace HW := HW.gro G
      replace HS := HS.gro G
      replace GG := GG.trans G
      clear G
      clear eg1
      refine nr ?_; intro U h; simp only [z0, z1] at h; subst h
      refine s_store rfl rfl 56 _ _ rfl g1 0 rfl (.agg (itA zM)) rfl 56 _ kg1 (itA zM) rfl (siIt' _) (itA_fit _ _) (itA_one _) (itA zM) (splice_whole _ _ (itA_sz _ _)) ?_
      intro w4 St
      replace kvp := St.has (by omega) kvp
      replace HW := HW.st St dHWg1
      replace HS := HS.st St dHSg1
      replace GG := GG.store St bg1
      replace kg1 := St.new
      clear St
      refine s_val 8 rfl rfl (.int .i64 ((n : Nat) : Int)) (rfl) ?_
      refine nr ?_; intro U h; simp only [z0, z1] at h; subst h
      refine s_val 9 rfl rfl (.bool true) (rfl) ?_
      refine nr ?_; intro U h; simp only [z0, z1] at h; subst h
      refine wpList_nil ?_
      refine then_n ?_
      refine wp_seq ?_
      refine wp_seq ?_
      cases h2 : decide (((n : Nat) : Int) ≤ ((c : Nat) : Int))
      · refine wp_region_opq ?_
        intro OPS hY
        have y2 := hY 2 29 rfl
        have y5 := hY 5 32 rfl
        clear hY
        refine s_val 27 rfl rfl (.bool true) (rfl) ?_
        refine nr ?_; intro U h; simp only [z0, z1] at h; subst h
        refine s_val 28 rfl rfl (.bool false) (run_nt _ _ rfl true rfl) ?_
        refine nr ?_; intro U h; simp only [z0, z1] at h; subst h
        refine s_val 29 rfl rfl (.bool false) (rfl) ?_
        refine nr ?_; intro U h; simp only [z0, z1] at h; subst h
        refine s_gvalY 30 rfl rfl y2 rfl (.int .i64 ((n : Nat) : Int)) (rfl) ?_
        refine nr ?_; intro U h; simp only [z0, z1] at h; subst h
        refine s_gvalY 31 rfl rfl y2 rfl (.bool true) (run_gtrT 2 _ _ _ rfl ((n : Nat) : Int) 0 rfl rfl true k1 _) ?_
        refine nr ?_; intro U h; simp only [z0, z1] at h; subst h
        refine s_gvalY 32 rfl rfl y2 rfl (.bool true) (rfl) ?_
        refine nr ?_; intro U h; simp only [z0, z1] at h; subst h
        refine s_gvalY 33 rfl rfl y5 rfl (.int .i64 ((n : Nat) : Int)) (rfl) ?_
        refine nr ?_; intro U h; simp only [z0, z1] at h; subst h
        refine s_gvalY 34 rfl rfl y5 rfl (.pointer (some ⟨vp, 0, none⟩)) (rfl) ?_
        refine nr ?_; intro U h; simp only [z0, z1] at h; subst h
        refine s_gvalY 35 rfl rfl y5 rfl (.pointer (some ⟨vp, 0, none⟩)) (run_nc _ rfl _ rfl) ?_
        refine nr ?_; intro U h; simp only [z0, z1] at h; subst h
        refine s_gvalY 36 rfl rfl y5 rfl (.pointer (some ⟨vp, 2, none⟩)) (run_fld 48 _ 2 rfl vp 0 rfl 2 (by kernel_rfl)) ?_
        refine nr ?_; intro U h; simp only [z0, z1] at h; subst h
        refine s_gvalY 37 rfl rfl y5 rfl (.int .i64 ((c : Nat) : Int)) (ldRvi _ rfl vp rfl (kvp)) ?_
        refine nr ?_; intro U h; simp only [z0, z1] at h; subst h
        refine s_gvalY 38 rfl rfl y5 rfl (.bool false) (run_leqT 2 _ _ _ rfl ((n : Nat) : Int) ((c : Nat) : Int) rfl rfl false h2 _) ?_
        refine nr ?_; intro U h; simp only [z0, z1] at h; subst h
        refine s_gvalY 39 rfl rfl y2 rfl (.bool false) (rfl) ?_
        refine nr ?_; intro U h; simp only [z0, z1] at h; subst h
        refine s_val 40 rfl rfl (.bool false) (rfl) ?_
        refine nr ?_; intro U h; simp only [z0, z1] at h; subst h
        refine wpList_nil ?_
        refine then_n ?_
        refine wp_cond_false rfl ?_
        refine wp_skip ?_
        refine then_n ?_
        refine wp_seq ?_
        refine wp_region_lit ?_
        refine s_val 41 rfl rfl (.int .i64 ((n : Nat) : Int)) (rfl) ?_
        refine nr ?_; intro U h; simp only [z0, z1] at h; subst h
        refine s_val 42 rfl rfl (.bool true) (run_gtrT 2 _ _ _ rfl ((n : Nat) : Int) 0 rfl rfl true k1 _) ?_
        refine nr ?_; intro U h; simp only [z0, z1] at h; subst h
        refine wpList_nil ?_
        refine then_n ?_
        refine wp_cond_true rfl ?_
        refine wp_region_lit ?_
        refine s_val 43 rfl rfl (.pointer (some ⟨vp, 0, none⟩)) (rfl) ?_
        refine nr ?_; intro U h; simp only [z0, z1] at h; subst h
        refine s_val 44 rfl rfl (.int .i64 ((n : Nat) : Int)) (rfl) ?_
        refine nr ?_; intro U h; simp only [z0, z1] at h; subst h
        refine s_val 45 rfl rfl (.pointer (some ⟨vp, 0, none⟩)) (run_nc _ rfl _ rfl) ?_
        refine nr ?_; intro U h; simp only [z0, z1] at h; subst h
        refine s_val 46 rfl rfl (.pointer (some ⟨vp, 2, none⟩)) (run_fld 48 _ 2 rfl vp 0 rfl 2 (by kernel_rfl)) ?_
        refine nr ?_; intro U h; simp only [z0, z1] at h; subst h
        refine s_store rfl rfl 2 _ _ rfl vp 2 rfl (.int .i64 ((n : Nat) : Int)) rfl 48 _ kvp #[.int .i64 ((n : Nat) : Int)] rfl si64i (by rw [rvA_size]; exact Nat.le_of_ble_eq_true rfl) (i_one _) (rvA none ro R.length rc ((n : Nat) : Int)) (spl_rinc _ _ _ _ _ _) ?_
        intro w5 St
        replace HS := HS.gros St.gros (box_n5 kvp (by decide))
        replace HW := HW.st St (fun hm => by obtain ⟨cur, hc, _⟩ := HW.blkt hm; exact ne_type hc kvp (by decide) rfl)
        replace GG := St.gros.gro GG (fun k hk => by rw [List.mem_singleton.1 hk]; exact bvp)
        have kv2 := St.new
        clear St kvp
        have kvp := kv2
        clear kv2
        have hh2 : hld (ls.take (i + 1)) = some (R.map IM.it, n) := by
          rw [hs]
          unfold hldR
          rw [hx]
          exact if_pos (by have := of_decide_eq_false h2; simp only; omega)
        refine wpList_nil ?_
        refine blk_n ?_
        refine then_n ?_
        refine wp_region_lit ?_
        refine s_val 16 rfl rfl (.int .i64 ((i : Nat) : Int)) (rfl) ?_
        refine nr ?_; intro U h; simp only [z0, z1] at h; subst h
        refine s_val 17 rfl rfl (.int .i64 ((i + 1 : Nat) : Int)) (run_addI 3 _ _ _ rfl ((i : Nat) : Int) 1 ((i + 1 : Nat) : Int) rfl rfl (by omega) (by omega) (by omega) _) ?_
        refine nr ?_; intro U h; simp only [z0, z1] at h; subst h
        refine s_val 6 rfl rfl (.int .i64 ((i + 1 : Nat) : Int)) (rfl) ?_
        refine nr ?_; intro U h; simp only [z0, z1] at h; subst h
        refine wpList_nil ?_
        refine then_n ?_
        exact ⟨_, by omega, i + 1, n, R, _, _, (fun kz => ([us1 0, us1 1, us1 2, .pointer (some ⟨g1, 0, none⟩), .int .i64 ((n : Nat) : Int), .bool true, .int .i64 ((i : Nat) : Int), .slice ao ls.length cap, .int .i64 ((ls.length : Nat) : Int), .bool true, .int .i64 ((i : Nat) : Int), .int .i64 ((i + 1 : Nat) : Int), .tuple #[.agg (itA zM), .int .i64 ((n : Nat) : Int), .bool true], .slice ao ls.length cap, .int .i64 ((i : Nat) : Int), .pointer (some (ad.add i)), .slice ao2 r.length cap2, .tuple #[.agg (itA zM), .int .i64 ((n : Nat) : Int), .bool true], .agg (itA zM), .int .i64 ((n : Nat) : Int), .bool true, .bool true, .bool false, .bool false, .int .i64 ((n : Nat) : Int), .bool true, .bool true, .int .i64 ((n : Nat) : Int), .pointer (some ⟨vp, 0, none⟩), .pointer (some ⟨vp, 0, none⟩), .pointer (some ⟨vp, 2, none⟩), .int .i64 ((c : Nat) : Int), .bool false, .bool false, .bool false, .int .i64 ((n : Nat) : Int), .bool true, .pointer (some ⟨vp, 0, none⟩), .int .i64 ((n : Nat) : Int), .pointer (some ⟨vp, 0, none⟩), .pointer (some ⟨vp, 2, none⟩), us1 41, us1 42, us1 43] : List Value).getD kz undef), rfl, rfl, GG, kvp, HW, HS, by omega, hh2, hn0⟩
      · refine wp_region_opq ?_
        intro OPS hY
        have y2 := hY 2 29 rfl
        have y5 := hY 5 32 rfl
        clear hY
        refine s_val 27 rfl rfl (.bool true) (rfl) ?_
        refine nr ?_; intro U h; simp only [z0, z1] at h; subst h
        refine s_val 28 rfl rfl (.bool false) (run_nt _ _ rfl true rfl) ?_
        refine nr ?_; intro U h; simp only [z0, z1] at h; subst h
        refine s_val 29 rfl rfl (.bool false) (rfl) ?_
        refine nr ?_; intro U h; simp only [z0, z1] at h; subst h
        refine s_gvalY 30 rfl rfl y2 rfl (.int .i64 ((n : Nat) : Int)) (rfl) ?_
        refine nr ?_; intro U h; simp only [z0, z1] at h; subst h
        refine s_gvalY 31 rfl rfl y2 rfl (.bool true) (run_gtrT 2 _ _ _ rfl ((n : Nat) : Int) 0 rfl rfl true k1 _) ?_
        refine nr ?_; intro U h; simp only [z0, z1] at h; subst h
        refine s_gvalY 32 rfl rfl y2 rfl (.bool true) (rfl) ?_
        refine nr ?_; intro U h; simp only [z0, z1] at h; subst h
        refine s_gvalY 33 rfl rfl y5 rfl (.int .i64 ((n : Nat) : Int)) (rfl) ?_
        refine nr ?_; intro U h; simp only [z0, z1] at h; subst h
        refine s_gvalY 34 rfl rfl y5 rfl (.pointer (some ⟨vp, 0, none⟩)) (rfl) ?_
        refine nr ?_; intro U h; simp only [z0, z1] at h; subst h
        refine s_gvalY 35 rfl rfl y5 rfl (.pointer (some ⟨vp, 0, none⟩)) (run_nc _ rfl _ rfl) ?_
        refine nr ?_; intro U h; simp only [z0, z1] at h; subst h
        refine s_gvalY 36 rfl rfl y5 rfl (.pointer (some ⟨vp, 2, none⟩)) (run_fld 48 _ 2 rfl vp 0 rfl 2 (by kernel_rfl)) ?_
        refine nr ?_; intro U h; simp only [z0, z1] at h; subst h
        refine s_gvalY 37 rfl rfl y5 rfl (.int .i64 ((c : Nat) : Int)) (ldRvi _ rfl vp rfl (kvp)) ?_
        refine nr ?_; intro U h; simp only [z0, z1] at h; subst h
        refine s_gvalY 38 rfl rfl y5 rfl (.bool true) (run_leqT 2 _ _ _ rfl ((n : Nat) : Int) ((c : Nat) : Int) rfl rfl true h2 _) ?_
        refine nr ?_; intro U h; simp only [z0, z1] at h; subst h
        refine s_gvalY 39 rfl rfl y2 rfl (.bool true) (rfl) ?_
        refine nr ?_; intro U h; simp only [z0, z1] at h; subst h
        refine s_val 40 rfl rfl (.bool true) (rfl) ?_
        refine nr ?_; intro U h; simp only [z0, z1] at h; subst h
        refine wpList_nil ?_
        refine then_n ?_
        refine wp_cond_true rfl ?_
        refine wp_seq ?_
        refine wp_region_lit ?_
        refine s_val 2 rfl rfl (.slice none 0 0) (rfl) ?_
        refine nr ?_; intro U h; simp only [z0, z1] at h; subst h
        refine s_val 3 rfl rfl (.int .i64 0) (rfl) ?_
        refine nr ?_; intro U h; simp only [z0, z1] at h; subst h
        refine s_val 4 rfl rfl (.bool false) (rfl) ?_
        refine nr ?_; intro U h; simp only [z0, z1] at h; subst h
        refine wpList_nil ?_
        refine then_n ?_
        refine wp_ret ?_
        refine then_r ?_
        refine blk_r ?_
        refine then_r ?_
        refine then_r ?_
        refine blk_r ?_
        refine then_r ?_
        refine bodyPost_ret (results_tmp3 Try.results41 _ _ _) rfl ?_
        have hs2 : hld (ls.take (i + 1)) = none := by
          rw [hs]
          unfold hldR
          rw [hx]
          exact if_neg (by have := of_decide_eq_true h2; simp only; omega)
        rw [hld_take hs2]
        exact ⟨rfl, GG⟩
    · have hxo := rdv_ok HR.lt256 top_256 hx
      have hx1 := hxo.n1
      have k1 : decide ((0 : Int) < 0) = false := rfl
      have hs2 : hld (ls.take (i + 1)) = some (tkV (R.map IM.it) x, c) := by rw [hs]; unfold hldR; rw [hx]; rfl
      refine wp_region_lit ?_
      refine s_val 19 rfl rfl (.slice ao ls.length cap) (rfl) ?_
      refine nr ?_; intro U h; simp only [z0, z1] at h; subst h
      refine s_val 20 rfl rfl (.int .i64 ((i : Nat) : Int)) (rfl) ?_
      refine nr ?_; intro U h; simp only [z0, z1] at h; subst h
      refine s_val 21 rfl rfl (.pointer (some (ad.add i))) (run_idx23 _ _ rfl ad _ _ i (by rw [← had]; rfl) rfl hlt _) ?_
      refine nr ?_; intro U h; simp only [z0, z1] at h; subst h
      refine s_val 22 rfl rfl (.slice ao2 r.length cap2) (run_ld24 _ rfl (ad.add i) rfl _ _ hcell) ?_
      refine nr ?_; intro U h; simp only [z0, z1] at h; subst h
      refine s_callx 23 rfl rfl _ 68 Try.call68 rfl rfl _ rfl [.slice ao2 r.length cap2] rfl ((rread_any _ ao2 cap2 r HR (by omega)).mono fun e w' HZ => by rw [hx] at HZ; exact HZ) (by rintro _ _ ⟨_, _, he, _, _⟩; exact ⟨_, he⟩) ?_
      have lzvp := lt_of_heap kvp
      rintro v w2 ⟨ao3, cap3, he, G, HB⟩
      cases he
      have dHBvp := HB.neB lzvp
      replace HB := HB.mono GG.size
      replace kvp := G.has kvp
      replace HW := HW.gro G
      replace HS := HS.gro G
      replace GG := GG.trans G
      clear G
      refine nr ?_; intro U h; simp only [z0, z1] at h; subst h
      refine s_val 18 rfl rfl (.tuple #[.agg (itA (x.im ao3 cap3)), .int .i64 0, .bool true]) (rfl) ?_
      refine nr ?_; intro U h; simp only [z0, z1] at h; subst h
      refine s_val 24 rfl rfl (.agg (itA (x.im ao3 cap3))) (rfl) ?_
      refine nr ?_; intro U h; simp only [z0, z1] at h; subst h
      refine s_val 25 rfl rfl (.int .i64 0) (rfl) ?_
      refine nr ?_; intro U h; simp only [z0, z1] at h; subst h
      refine s_val 26 rfl rfl (.bool true) (rfl) ?_
      refine nr ?_; intro U h; simp only [z0, z1] at h; subst h
      refine s_alloc 7 rfl rfl 56 rfl _ zeroIt (itA zM) rfl ?_
      intro w3 g1 G eg1 kg1
      have bg1 := size_base GG eg1
      have dvpg1 := lt_new kvp eg1
      have dHWg1 := HW.ne eg1
      have dHSg1 := HS.ne eg1
      have dHBg1 := HB.ne eg1
      replace kvp := G.has kvp
      replace HW := HW.gro G
      replace HS := HS.gro G
      replace HB := HB.gro G
      replace GG := GG.trans G
      clear G
      clear eg1
      refine nr ?_; intro U h; simp only [z0, z1] at h; subst h
      refine s_store rfl rfl 56 _ _ rfl g1 0 rfl (.agg (itA (x.im ao3 cap3))) rfl 56 _ kg1 (itA (x.im ao3 cap3)) rfl (siIt' _) (itA_fit _ _) (itA_one _) (itA (x.im ao3 cap3)) (splice_whole _ _ (itA_sz _ _)) ?_
      intro w4 St
      replace kvp := St.has (by omega) kvp
      replace HW := HW.st St dHWg1
      replace HS := HS.st St dHSg1
      replace HB := HB.st St dHBg1
      replace GG := GG.store St bg1
      replace kg1 := St.new
      clear St
      refine s_val 8 rfl rfl (.int .i64 0) (rfl) ?_
      refine nr ?_; intro U h; simp only [z0, z1] at h; subst h
      refine s_val 9 rfl rfl (.bool true) (rfl) ?_
      refine nr ?_; intro U h; simp only [z0, z1] at h; subst h
      refine wpList_nil ?_
      refine then_n ?_
      refine wp_seq ?_
      refine wp_seq ?_
      refine wp_region_opq ?_
      intro OPS hY
      have y2 := hY 2 29 rfl
      have y5 := hY 5 32 rfl
      clear hY
      refine s_val 27 rfl rfl (.bool true) (rfl) ?_
      refine nr ?_; intro U h; simp only [z0, z1] at h; subst h
      refine s_val 28 rfl rfl (.bool false) (run_nt _ _ rfl true rfl) ?_
      refine nr ?_; intro U h; simp only [z0, z1] at h; subst h
      refine s_val 29 rfl rfl (.bool false) (rfl) ?_
      refine nr ?_; intro U h; simp only [z0, z1] at h; subst h
      refine s_gvalY 30 rfl rfl y2 rfl (.int .i64 0) (rfl) ?_
      refine nr ?_; intro U h; simp only [z0, z1] at h; subst h
      refine s_gvalY 31 rfl rfl y2 rfl (.bool false) (run_gtrT 2 _ _ _ rfl 0 0 rfl rfl false k1 _) ?_
      refine nr ?_; intro U h; simp only [z0, z1] at h; subst h
      refine s_gvalY 32 rfl rfl y2 rfl (.bool false) (rfl) ?_
      refine nr ?_; intro U h; simp only [z0, z1] at h; subst h
      refine s_skipY 33 rfl rfl y5 rfl ?_
      refine nr ?_; intro U h; simp only [z0, z1] at h; subst h
      refine s_skipY 34 rfl rfl y5 rfl ?_
      refine nr ?_; intro U h; simp only [z0, z1] at h; subst h
      refine s_skipY 35 rfl rfl y5 rfl ?_
      refine nr ?_; intro U h; simp only [z0, z1] at h; subst h
      refine s_skipY 36 rfl rfl y5 rfl ?_
      refine nr ?_; intro U h; simp only [z0, z1] at h; subst h
      refine s_skipY 37 rfl rfl y5 rfl ?_
      refine nr ?_; intro U h; simp only [z0, z1] at h; subst h
      refine s_skipY 38 rfl rfl y5 rfl ?_
      refine nr ?_; intro U h; simp only [z0, z1] at h; subst h
      refine s_gvalY 39 rfl rfl y2 rfl (.bool false) (rfl) ?_
      refine nr ?_; intro U h; simp only [z0, z1] at h; subst h
      refine s_val 40 rfl rfl (.bool false) (rfl) ?_
      refine nr ?_; intro U h; simp only [z0, z1] at h; subst h
      refine wpList_nil ?_
      refine then_n ?_
      refine wp_cond_false rfl ?_
      refine wp_skip ?_
      refine then_n ?_
      refine wp_seq ?_
      refine wp_region_lit ?_
      refine s_val 41 rfl rfl (.int .i64 0) (rfl) ?_
      refine nr ?_; intro U h; simp only [z0, z1] at h; subst h
      refine s_val 42 rfl rfl (.bool false) (run_gtrT 2 _ _ _ rfl 0 0 rfl rfl false k1 _) ?_
      refine nr ?_; intro U h; simp only [z0, z1] at h; subst h
      refine wpList_nil ?_
      refine then_n ?_
      refine wp_cond_false rfl ?_
      refine wp_region_lit ?_
      refine s_val 47 rfl rfl (.pointer (some ⟨vp, 0, none⟩)) (rfl) ?_
      refine nr ?_; intro U h; simp only [z0, z1] at h; subst h
      refine s_val 48 rfl rfl (.agg (itA (x.im ao3 cap3))) (ldIt0 _ rfl g1 rfl (kg1)) ?_
      refine nr ?_; intro U h; simp only [z0, z1] at h; subst h
      have hsz := GG.size
      refine s_callx 49 rfl rfl _ 69 Try.call69 rfl rfl _ rfl [.pointer (some ⟨vp, 0, none⟩), .agg (itA (x.im ao3 cap3))] rfl (rtake_any _ w.heap.size vp none ro rc R ((c : Nat) : Int) kvp HW GG.size (by omega) hSK (fun y hy => by have := hn0 y hy; omega) (x.im ao3 cap3) (im_ok hxo _ _) (by simp only [It.im]; omega)) (by rintro _ _ ⟨_, _, _, _, he, _, _, _, _, _⟩; exact ⟨_, he⟩) ?_
      rintro v w5 ⟨b, ro2, rc2, R2, he, G, kv2, HW2, hR2, hm2⟩
      cases he
      replace HS := HS.gros G (box_n5 kvp (by decide))
      replace HB := HB.gros G (fun ad ha hm => by obtain ⟨cur, hc⟩ := HB.blk5 ha; exact box_n5 kvp (by decide) _ hm _ hc)
      replace GG := G.gro GG (fun k hk => by rw [List.mem_singleton.1 hk]; exact bvp)
      clear kvp HW
      have kvp := kv2
      have HW := HW2
      clear kv2 HW2
      replace HS := HS.both (x := (x.im ao3 cap3)) HB hm2
      have hh2 : hld (ls.take (i + 1)) = some (R2.map IM.it, c) := by rw [hs2, hR2, im_it]
      refine nr ?_; intro U h; simp only [z0, z1] at h; subst h
      refine wpList_nil ?_
      refine blk_n ?_
      refine then_n ?_
      refine wp_region_lit ?_
      refine s_val 16 rfl rfl (.int .i64 ((i : Nat) : Int)) (rfl) ?_
      refine nr ?_; intro U h; simp only [z0, z1] at h; subst h
      refine s_val 17 rfl rfl (.int .i64 ((i + 1 : Nat) : Int)) (run_addI 3 _ _ _ rfl ((i : Nat) : Int) 1 ((i + 1 : Nat) : Int) rfl rfl (by omega) (by omega) (by omega) _) ?_
      refine nr ?_; intro U h; simp only [z0, z1] at h; subst h
      refine s_val 6 rfl rfl (.int .i64 ((i + 1 : Nat) : Int)) (rfl) ?_
      refine nr ?_; intro U h; simp only [z0, z1] at h; subst h
      refine wpList_nil ?_
      refine then_n ?_
      exact ⟨_, by omega, i + 1, c, R2, _, _, (fun kz => ([us1 0, us1 1, us1 2, .pointer (some ⟨g1, 0, none⟩), .int .i64 0, .bool true, .int .i64 ((i : Nat) : Int), .slice ao ls.length cap, .int .i64 ((ls.length : Nat) : Int), .bool true, .int .i64 ((i : Nat) : Int), .int .i64 ((i + 1 : Nat) : Int), .tuple #[.agg (itA (x.im ao3 cap3)), .int .i64 0, .bool true], .slice ao ls.length cap, .int .i64 ((i : Nat) : Int), .pointer (some (ad.add i)), .slice ao2 r.length cap2, .tuple #[.agg (itA (x.im ao3 cap3)), .int .i64 0, .bool true], .agg (itA (x.im ao3 cap3)), .int .i64 0, .bool true, .bool true, .bool false, .bool false, .int .i64 0, .bool false, .bool false, undef, undef, undef, undef, undef, undef, .bool false, .bool false, .int .i64 0, .bool false, us1 37, us1 38, us1 39, us1 40, .pointer (some ⟨vp, 0, none⟩), .agg (itA (x.im ao3 cap3)), .bool b] : List Value).getD kz undef), rfl, rfl, GG, kvp, HW, HS, by omega, hh2, all_both hn0 (x := (x.im ao3 cap3)) (by simp only [It.im]; omega) hm2⟩
end Go.Proofs.Ytgfnjekpafempaa
