/- Of any records a vault is opened just where the document says (the law). -/
import Derived.Test.YtgfnjekpafempaaGRF
namespace Go.Proofs.Ytgfnjekpafempaa
open Go.RowKit
theorem prsF_byte : ∀ (k : Nat) (l : List Nat) (rs : List (List Nat)), (∀ x ∈ l, x < 256) → prsF k l = some rs → ∀ r ∈ rs, ∀ b ∈ r, b < 256
  | 0, l, rs, _, h => by
    unfold prsF at h
    cases h
  | k + 1, l, rs, hl, h => by
    unfold prsF at h
    split at h
    · cases h
      intro r hr
      cases hr
    split at h
    · cases h
    · cases hp : prsF k (l.drop (secN (recM l) * 64)) with
      | none => rw [hp] at h; cases h
      | some rs2 =>
        rw [hp] at h
        cases h
        intro r hr
        rcases List.mem_cons.1 hr with rfl | hr
        · intro b hb
          exact hl b (List.mem_of_mem_drop (List.mem_of_mem_take hb))
        · exact prsF_byte k _ _ (fun x hx => hl x (List.mem_of_mem_drop hx)) hp r hr
theorem Good.bytes {L : List Nat} {n : Nat} {h : Hd} {rs : List (List Nat)} (H : Good L n h rs) (hL : ∀ x ∈ L, x < 256) : ∀ r ∈ rs, ∀ b ∈ r, b < 256 := prsF_byte _ _ _ (fun x hx => hL x (List.mem_of_mem_drop (List.mem_of_mem_take hx))) H.recs
set_option maxRecDepth 100000 in
set_option maxHeartbeats 4000000 in
theorem vaultOpens_any (w : World) (ao : Option Addr) (cap : Nat) (ls : List (List Nat)) (HA : LC w ao cap ls) : Calls Try.prog 3 #[.slice ao ls.length cap] w (fun e w' => e = .returned (.bool true) ∧ Gro w w') := by
  refine s_enter Try.func3 rfl Try.ntmps3 [.slice ao ls.length cap] [.slice ao ls.length cap, undef, undef, undef, undef, undef, undef, undef, undef, undef, undef, undef, undef, undef, undef, undef, undef, undef, undef, undef, undef, undef, undef, undef, undef, undef, undef, undef, undef, undef, undef, undef, undef, undef, undef, undef, undef, undef, undef, undef, undef, undef, undef, undef, undef, undef, undef, undef, undef, undef, undef, undef, undef, undef, undef, undef, undef, undef, undef, undef, undef, undef, undef, undef, undef, undef, undef, undef, undef, undef, undef, undef, undef, undef, undef, undef, undef, undef, undef, undef, undef, undef, undef, undef, undef, undef, undef, undef, undef, undef, undef, undef, undef, undef, undef, undef, undef, undef, undef, undef, undef, undef] rfl ?_
  have GG := Gro.refl w
  refine wp_seq ?_
  refine wp_region_lit ?_
  refine s_val 2 rfl rfl (.bool false) (rfl) ?_
  refine nr ?_; intro U h; simp only [z0, z1] at h; subst h
  refine wpList_nil ?_
  refine then_n ?_
  refine wp_seq ?_
  refine wp_region_lit ?_
  refine s_callx 15 rfl rfl _ 8 Try.call8 rfl rfl _ rfl [.int .i64 600] rfl (rnew_600 _) (by rintro _ _ ⟨_, _, _, he, _, _, _⟩; exact ⟨_, he⟩) ?_
  rintro v w1 ⟨rp, ro, rc, he, G, hrp, HQ⟩
  cases he
  replace GG := GG.trans G
  clear G
  refine nr ?_; intro U h; simp only [z0, z1] at h; subst h
  refine s_val 3 rfl rfl (.pointer (some ⟨rp, 0, none⟩)) (rfl) ?_
  refine nr ?_; intro U h; simp only [z0, z1] at h; subst h
  refine wpList_nil ?_
  refine then_n ?_
  refine wp_seq ?_
  refine wp_region_lit ?_
  refine s_val 17 rfl rfl (.pointer (some ⟨rp, 0, none⟩)) (rfl) ?_
  refine nr ?_; intro U h; simp only [z0, z1] at h; subst h
  have hz1 := GG.size
  refine s_callx 18 rfl rfl _ 9 Try.call9 rfl rfl _ rfl [.pointer (some ⟨rp, 0, none⟩)] rfl (ropen_ok _ rp _ ro rc 600 _ (-1) 0 HQ (by decide) [] ((good_new 600 (by decide)).opens (by decide))) (by rintro _ _ ⟨_, _, _, _, he, _, _, _, _, _⟩; exact ⟨_, he⟩) ?_
  rintro v w2 ⟨mp, qo, qc, q, he, hq, G, hmp, HM, HL⟩
  cases he
  replace HQ := HQ.gro G
  replace GG := GG.trans G
  clear G
  rw [(good_new 600 (by decide)).counts] at HM
  replace hmp := Nat.le_trans hz1 hmp
  clear HL hq
  refine nr ?_; intro U h; simp only [z0, z1] at h; subst h
  refine s_val 16 rfl rfl (.tuple #[.pointer (some ⟨mp, 0, none⟩), .slice qo q.length qc, .int .i64 0]) (rfl) ?_
  refine nr ?_; intro U h; simp only [z0, z1] at h; subst h
  refine s_val 19 rfl rfl (.pointer (some ⟨mp, 0, none⟩)) (rfl) ?_
  refine nr ?_; intro U h; simp only [z0, z1] at h; subst h
  refine s_val 20 rfl rfl (.slice qo q.length qc) (rfl) ?_
  refine nr ?_; intro U h; simp only [z0, z1] at h; subst h
  refine s_val 21 rfl rfl (.int .i64 0) (rfl) ?_
  refine nr ?_; intro U h; simp only [z0, z1] at h; subst h
  refine s_val 4 rfl rfl (.pointer (some ⟨mp, 0, none⟩)) (rfl) ?_
  refine nr ?_; intro U h; simp only [z0, z1] at h; subst h
  refine s_val 5 rfl rfl (.slice qo q.length qc) (rfl) ?_
  refine nr ?_; intro U h; simp only [z0, z1] at h; subst h
  refine s_val 6 rfl rfl (.int .i64 0) (rfl) ?_
  refine nr ?_; intro U h; simp only [z0, z1] at h; subst h
  refine wpList_nil ?_
  refine then_n ?_
  refine wp_seq ?_
  refine wp_seq ?_
  refine wp_region_opq ?_
  intro OPS hY
  have y2 := hY 2 24 rfl
  clear hY
  refine s_val 22 rfl rfl (.int .i64 0) (rfl) ?_
  refine nr ?_; intro U h; simp only [z0, z1] at h; subst h
  refine s_val 23 rfl rfl (.bool false) (run_neq_k 26 .i64 _ _ _ rfl Try.underlying26 0 0 rfl rfl false (decide_eq_true rfl) _) ?_
  refine nr ?_; intro U h; simp only [z0, z1] at h; subst h
  refine s_val 24 rfl rfl (.bool false) (rfl) ?_
  refine nr ?_; intro U h; simp only [z0, z1] at h; subst h
  refine s_gcallvY 25 rfl rfl y2 rfl _ 10 Try.call10 rfl rfl _ rfl [] rfl (fixed_any _) ?_
  intro w3 G
  replace HQ := HQ.gro G
  replace HM := HM.gro G
  replace GG := GG.trans G
  clear G
  refine nr ?_; intro U h; simp only [z0, z1] at h; subst h
  refine s_gvalY 26 rfl rfl y2 rfl (.bool false) (run_nt _ _ rfl true rfl) ?_
  refine nr ?_; intro U h; simp only [z0, z1] at h; subst h
  refine s_val 27 rfl rfl (.bool false) (rfl) ?_
  refine nr ?_; intro U h; simp only [z0, z1] at h; subst h
  refine wpList_nil ?_
  refine then_n ?_
  refine wp_cond_false rfl ?_
  refine wp_skip ?_
  refine then_n ?_
  refine wp_seq ?_
  refine wp_seq ?_
  refine wp_region_lit ?_
  refine s_val 28 rfl rfl (.slice ao ls.length cap) (rfl) ?_
  refine nr ?_; intro U h; simp only [z0, z1] at h; subst h
  refine s_val 29 rfl rfl (.int .i64 ((ls.length : Nat) : Int)) (run_len Try.underlying22 _ rfl _ _ _ rfl _) ?_
  refine nr ?_; intro U h; simp only [z0, z1] at h; subst h
  refine s_val 30 rfl rfl (.int .i64 0) (rfl) ?_
  refine nr ?_; intro U h; simp only [z0, z1] at h; subst h
  refine wpList_nil ?_
  refine then_n ?_
  refine wp_block ?_
  refine wp_loopN (fun mz az wv => ∃ (i : Nat) (L : List Nat) (dn : Int) (h : Hd) (rs : List (List Nat)) (us1 : Nat → Value), mz = ls.length - i ∧ az = ⟨[.slice ao ls.length cap, undef, .bool false, .pointer (some ⟨rp, 0, none⟩), .pointer (some ⟨mp, 0, none⟩), .slice qo q.length qc, .int .i64 0, us1 0, us1 1, undef, undef, undef, undef, undef, undef, .pointer (some ⟨rp, 0, none⟩), .tuple #[.pointer (some ⟨mp, 0, none⟩), .slice qo q.length qc, .int .i64 0], .pointer (some ⟨rp, 0, none⟩), .tuple #[.pointer (some ⟨mp, 0, none⟩), .slice qo q.length qc, .int .i64 0], .pointer (some ⟨mp, 0, none⟩), .slice qo q.length qc, .int .i64 0, .int .i64 0, .bool false, .bool false, .bool true, .bool false, .bool false, .slice ao ls.length cap, .int .i64 ((ls.length : Nat) : Int), .int .i64 ((i : Nat) : Int), us1 2, us1 3, us1 4, us1 5, us1 6, us1 7, us1 8, us1 9, us1 10, us1 11, undef, undef, undef, undef, undef, undef, undef, undef, undef, undef, undef, undef, undef, undef, undef, undef, undef, undef, undef, undef, undef, undef, undef, undef, undef, undef, undef, undef, undef, undef, undef, undef, undef, undef, undef, undef, undef, undef, undef, undef, undef, undef, undef, undef, undef, undef, undef, undef, undef, undef, undef, undef, undef, undef, undef, undef, undef, undef, undef, undef, undef].toArray, []⟩ ∧ Gro w wv ∧ QK wv rp w.heap.size ro rc 600 L (-1) dn ∧ MK wv mp rp h false ∧ Good L 600 h rs ∧ i ≤ ls.length ∧ (i ≤ 81 ∧ h.g ≤ i ∧ 0 ≤ dn ∧ dn ≤ 20 * i)) ?_ _ ⟨0, _, 0, ⟨0, 0, 0⟩, [], (fun kz => ([undef, undef, undef, undef, undef, undef, undef, undef, undef, undef, undef, undef] : List Value).getD kz undef), rfl, rfl, GG, HQ, HM, good_new 600 (by decide), Nat.zero_le _, ⟨by decide, by decide, by decide, by decide⟩⟩
  clear GG HQ HM
  rintro mz az wv ⟨i, L, dn, h, rs, us1, rfl, rfl, GG, HQ, HM, HG, hi, hb⟩
  refine wp_seq ?_
  cases h1 : decide (((i : Nat) : Int) < ((ls.length : Nat) : Int))
  · refine wp_region_lit ?_
    refine s_val 31 rfl rfl (.bool false) (run_lssT 3 _ _ _ rfl ((i : Nat) : Int) ((ls.length : Nat) : Int) rfl rfl false h1 _) ?_
    refine nr ?_; intro U h; simp only [z0, z1] at h; subst h
    refine wpList_nil ?_
    refine then_n ?_
    refine wp_seq ?_
    refine wp_cond_false rfl ?_
    refine wp_exit ?_
    refine then_x ?_
    refine then_x ?_
    refine blk_x ?_
    refine then_n ?_
    refine wp_seq ?_
    refine wp_region_lit ?_
    refine s_val 42 rfl rfl (.pointer (some ⟨rp, 0, none⟩)) (rfl) ?_
    refine nr ?_; intro U h; simp only [z0, z1] at h; subst h
    refine s_val 43 rfl rfl (.pointer (some ⟨rp, 0, none⟩)) (run_nc _ rfl _ rfl) ?_
    refine nr ?_; intro U h; simp only [z0, z1] at h; subst h
    refine s_val 44 rfl rfl (.pointer (some ⟨rp, 0, none⟩)) (run_fld 36 _ 0 rfl rp 0 rfl 0 (by kernel_rfl)) ?_
    refine nr ?_; intro U h; simp only [z0, z1] at h; subst h
    refine s_val 45 rfl rfl (.slice ro (600 * 64) rc) (ldQr HQ _ rfl rfl) ?_
    refine nr ?_; intro U h; simp only [z0, z1] at h; subst h
    have hz2 := GG.size
    refine s_callx 46 rfl rfl _ 12 Try.call12 rfl rfl _ rfl [.slice ro (600 * 64) rc] rfl (pair_n _ ro rc L HQ.row.nc 600 (600 * 64) HQ.len (by decide) HQ.len.symm) (by rintro _ _ ⟨_, _, _, _, _, he, _, _, _, _, _, _⟩; exact ⟨_, he⟩) ?_
    rintro v w4 ⟨p, sg, rp2, ro2, rc2, he, G, bp, bsg, brp, HD, _⟩
    cases he
    replace HQ := HQ.gro G
    replace HM := HM.gro G
    replace GG := GG.trans G
    clear G
    replace bp := Nat.le_trans hz2 bp
    replace bsg := Nat.le_trans hz2 bsg
    refine nr ?_; intro U h; simp only [z0, z1] at h; subst h
    refine s_val 41 rfl rfl (.tuple #[.pointer (some ⟨p, 0, none⟩), .pointer (some ⟨rp2, 0, none⟩)]) (rfl) ?_
    refine nr ?_; intro U h; simp only [z0, z1] at h; subst h
    refine s_val 47 rfl rfl (.pointer (some ⟨p, 0, none⟩)) (rfl) ?_
    refine nr ?_; intro U h; simp only [z0, z1] at h; subst h
    refine s_val 48 rfl rfl (.pointer (some ⟨rp2, 0, none⟩)) (rfl) ?_
    refine nr ?_; intro U h; simp only [z0, z1] at h; subst h
    refine s_val 9 rfl rfl (.pointer (some ⟨p, 0, none⟩)) (rfl) ?_
    refine nr ?_; intro U h; simp only [z0, z1] at h; subst h
    refine s_val 10 rfl rfl (.pointer (some ⟨rp2, 0, none⟩)) (rfl) ?_
    refine nr ?_; intro U h; simp only [z0, z1] at h; subst h
    refine wpList_nil ?_
    refine then_n ?_
    refine wp_seq ?_
    refine wp_seq ?_
    refine wp_region_lit ?_
    refine s_val 49 rfl rfl (.pointer (some ⟨p, 0, none⟩)) (rfl) ?_
    refine nr ?_; intro U h; simp only [z0, z1] at h; subst h
    refine s_val 50 rfl rfl (.bool false) (run_eqnp 32 _ _ _ rfl _ rfl rfl Try.underlying32 _) ?_
    refine nr ?_; intro U h; simp only [z0, z1] at h; subst h
    refine wpList_nil ?_
    refine then_n ?_
    refine wp_cond_false rfl ?_
    refine wp_skip ?_
    refine then_n ?_
    refine wp_seq ?_
    have hU0 : ∀ k ∈ (p :: sg :: rp :: blk ro), k < w4.heap.size := fun k hk => by
      rcases List.mem_cons.1 hk with rfl | hk
      · exact lt_of_heap HD.box
      rcases List.mem_cons.1 hk with rfl | hk
      · exact lt_of_heap HD.sec
      rcases List.mem_cons.1 hk with rfl | hk
      · exact lt_of_heap HQ.box
      · exact HQ.ltr k hk
    have hgeq : ∀ k ∈ rp :: blk ro, w.heap.size ≤ k := fun k hk => HQ.ge3 hrp hmp k (by
      rcases List.mem_cons.1 hk with rfl | hk
      · exact List.mem_cons.2 (.inl rfl)
      · exact List.mem_cons.2 (.inr (List.mem_cons.2 (.inr hk))))
    rcases hN : hld rs with _ | ⟨Lx, c⟩
    · skip
      refine wp_region_lit ?_
      refine s_val 52 rfl rfl (.pointer (some ⟨p, 0, none⟩)) (rfl) ?_
      refine nr ?_; intro U h; simp only [z0, z1] at h; subst h
      refine s_callx 53 rfl rfl _ 13 Try.call13 rfl rfl _ rfl [.pointer (some ⟨p, 0, none⟩)] rfl (vopen_badD (p :: sg :: rp :: blk ro) _ p sg 600 L (-1) 0 HD (by decide) h rs HG (by omega) hU0 hN) (by rintro _ _ ⟨he, _, _⟩; exact ⟨_, he⟩) ?_
      rintro v w5 ⟨he, G, HD2⟩
      cases he
      replace HQ := HQ.keepD HD G
      replace GG := G.gro GG (fun k hk => by simp only [List.mem_cons, List.not_mem_nil, or_false] at hk; omega)
      clear HD HM G
      have HD := HD2
      clear HD2
      refine nr ?_; intro U h; simp only [z0, z1] at h; subst h
      refine s_val 51 rfl rfl (.tuple #[.pointer none, .int .i64 2]) (rfl) ?_
      refine nr ?_; intro U h; simp only [z0, z1] at h; subst h
      refine s_val 54 rfl rfl (.pointer none) (rfl) ?_
      refine nr ?_; intro U h; simp only [z0, z1] at h; subst h
      refine s_val 55 rfl rfl (.int .i64 2) (rfl) ?_
      refine nr ?_; intro U h; simp only [z0, z1] at h; subst h
      refine s_val 11 rfl rfl (.pointer none) (rfl) ?_
      refine nr ?_; intro U h; simp only [z0, z1] at h; subst h
      refine s_val 12 rfl rfl (.int .i64 2) (rfl) ?_
      refine nr ?_; intro U h; simp only [z0, z1] at h; subst h
      refine wpList_nil ?_
      refine then_n ?_
      refine wp_seq ?_
      refine wp_region_lit ?_
      refine s_val 57 rfl rfl (.pointer (some ⟨rp, 0, none⟩)) (rfl) ?_
      refine nr ?_; intro U h; simp only [z0, z1] at h; subst h
      refine s_callv 58 rfl rfl _ 14 Try.call14 rfl rfl _ rfl [.pointer (some ⟨rp, 0, none⟩)] rfl (rvopen_bad _ rp _ ro rc 600 L (-1) dn HQ (by decide) h rs HG (by omega) hN) ?_
      intro w6 G
      replace HQ := HQ.gro G
      replace HD := HD.gro G
      replace GG := GG.trans G
      clear G
      refine nr ?_; intro U h; simp only [z0, z1] at h; subst h
      refine s_val 56 rfl rfl (.tuple #[.pointer none, .int .i64 2]) (rfl) ?_
      refine nr ?_; intro U h; simp only [z0, z1] at h; subst h
      refine s_val 59 rfl rfl (.pointer none) (rfl) ?_
      refine nr ?_; intro U h; simp only [z0, z1] at h; subst h
      refine s_val 60 rfl rfl (.int .i64 2) (rfl) ?_
      refine nr ?_; intro U h; simp only [z0, z1] at h; subst h
      refine s_val 13 rfl rfl (.pointer none) (rfl) ?_
      refine nr ?_; intro U h; simp only [z0, z1] at h; subst h
      refine s_val 14 rfl rfl (.int .i64 2) (rfl) ?_
      refine nr ?_; intro U h; simp only [z0, z1] at h; subst h
      refine wpList_nil ?_
      refine then_n ?_
      refine wp_seq ?_
      refine wp_seq ?_
      refine wp_region_exA (A := ?Ax1) 20 [(0, 61), (1, 62), (2, 63), (3, 64), (4, 65), (5, 66), (6, 67), (7, 68), (8, 69), (9, 70), (10, 71), (11, 72), (12, 73), (13, 74), (14, 75), (15, 76), (16, 77), (17, 78), (18, 79), (19, 80)] [.val (.int .i64 2), .val (.int .i64 2), .val (.bool false), .val (.bool false), .val (.pointer none), .val (.bool true), .val (.pointer none), .val (.bool true), .val (.bool false), .val (.bool false), .val (.bool false), .val (.pointer (some ⟨p, 0, none⟩)), bytE w6.heap.size L, .val (.string (bas L)), .val (.pointer (some ⟨rp, 0, none⟩)), .val (.pointer (some ⟨rp, 0, none⟩)), .val (.pointer (some ⟨rp, 0, none⟩)), .val (.slice ro (600 * 64) rc), .val (.string (bas L)), .val (.bool false)] follows (by kernel_rfl) rfl ?hAx1 (opsA_cons ?o0x1 (opsA_cons ?o1x1 (opsA_cons ?o2x1 (opsA_cons ?o3x1 (opsA_cons ?o4x1 (opsA_cons ?o5x1 (opsA_cons ?o6x1 (opsA_cons ?o7x1 (opsA_cons ?o8x1 (opsA_cons ?o9x1 (opsA_cons ?o10x1 (opsA_cons ?o11x1 (opsA_cons ?o12x1 (opsA_cons ?o13x1 (opsA_cons ?o14x1 (opsA_cons ?o15x1 (opsA_cons ?o16x1 (opsA_cons ?o17x1 (opsA_cons ?o18x1 (opsA_cons ?o19x1 opsA_nil)))))))))))))))))))) ?restx1
      case hAx1 =>
        intro ptrs
        simp only [full, foldSlots, filledE, postE, List.foldl_cons, List.foldl_nil, List.getD_cons_zero, List.getD_cons_succ, fill_val, fill_bytE, List.set_cons_zero, List.set_cons_succ]
        exact rfl
      case o0x1 => exact fun _ _ _ _ => opE_move (v := .int .i64 2) _ rfl rfl rfl
      case o1x1 => exact fun _ _ _ _ => opE_move (v := .int .i64 2) _ rfl rfl rfl
      case o2x1 => exact fun _ _ _ _ => opE_value (v := .bool false) rfl (run_neq_k 26 .i64 _ _ _ rfl Try.underlying26 2 2 rfl rfl false (decide_eq_true rfl) _)
      case o3x1 => exact fun _ _ _ _ => opE_move (v := .bool false) _ rfl rfl rfl
      case o4x1 => exact fun _ _ _ _ => opE_move (v := .pointer none) _ rfl rfl rfl
      case o5x1 => exact fun _ _ _ _ => opE_value (v := .bool true) rfl (run_eqnn 37 _ _ _ rfl rfl rfl Try.underlying37 _)
      case o6x1 => exact fun _ _ _ _ => opE_move (v := .pointer none) _ rfl rfl rfl
      case o7x1 => exact fun _ _ _ _ => opE_value (v := .bool true) rfl (run_eqnn 40 _ _ _ rfl rfl rfl Try.underlying40 _)
      case o8x1 => exact fun _ _ _ _ => opE_value (v := .bool false) rfl (run_neB 4 _ _ _ rfl true true rfl rfl Try.underlying4 false (by decide) _)
      case o9x1 => exact fun _ _ _ _ => opE_pick (v := .bool false) _ _ _ rfl rfl false rfl rfl
      case o10x1 => exact fun _ _ _ _ => opE_move (v := .bool false) _ rfl rfl rfl
      case o11x1 => exact fun _ _ _ _ => opE_move (v := .pointer (some ⟨p, 0, none⟩)) _ rfl rfl rfl
      case o12x1 =>
        intro ptrs w' hw hE
        exact opE_call (bytE w6.heap.size L) rfl _ 15 Try.call15 rfl rfl _ rfl [.pointer (some ⟨p, 0, none⟩)] rfl ((bytes_ob _ p sg 600 L _ _ (HD.gro ((Gro.refl _).drew.trans hw))).mono fun e w' ⟨ao, cap, he, hg, ho⟩ => ⟨_, he, hg, ao, cap, rfl, ho.mono hw.size⟩)
      case o13x1 =>
        intro ptrs w' hw hE
        obtain ⟨⟨ao12, cap12, h12, o12⟩, _⟩ := hE
        exact opE_value (v := .string (bas L)) rfl (run_text_op bT 9 rfl _ rfl (by exact h12) o12.nc)
      case o14x1 => exact fun _ _ _ _ => opE_move (v := .pointer (some ⟨rp, 0, none⟩)) _ rfl rfl rfl
      case o15x1 => exact fun _ _ _ _ => opE_value (v := .pointer (some ⟨rp, 0, none⟩)) rfl (run_nc _ rfl _ rfl)
      case o16x1 => exact fun _ _ _ _ => opE_value (v := .pointer (some ⟨rp, 0, none⟩)) rfl (run_fld 36 _ 0 rfl rp 0 rfl 0 (by kernel_rfl))
      case o17x1 => exact fun _ _ hw _ => opE_value (v := .slice ro (600 * 64) rc) rfl (ldQr (HQ.gro ((Gro.refl _).drew.trans hw)) _ rfl rfl)
      case o18x1 => exact fun _ _ hw _ => opE_value (v := .string (bas L)) rfl (run_text_op bT 9 rfl _ rfl (by rw [(HQ.gro ((Gro.refl _).drew.trans hw)).len]; rfl) (HQ.gro ((Gro.refl _).drew.trans hw)).row.nc)
      case o19x1 => exact fun _ _ _ _ => opE_value (v := .bool false) rfl (run_nes_op _ _ _ rfl _ _ rfl rfl false (decide_eq_true rfl) _)
      intro ptrs w7 GD hxE
      simp only [List.drop_succ_cons, List.drop_zero]
      replace HQ := HQ.gro ((Gro.refl _).drew.trans GD)
      replace HD := HD.gro ((Gro.refl _).drew.trans GD)
      replace GG := GG.drew.trans GD
      obtain ⟨_, _⟩ := hxE
      clear GD
      refine s_val 81 rfl rfl (.bool false) (rfl) ?_
      refine nr ?_; intro U h; simp only [z0, z1] at h; subst h
      refine wpList_nil ?_
      refine then_n ?_
      refine wp_cond_false rfl ?_
      refine wp_skip ?_
      refine then_n ?_
      refine wp_seq ?_
      refine wp_region_exA (A := ?Ax2) 19 [(0, 82), (1, 83), (2, 84), (3, 85), (4, 86), (5, 87), (6, 88), (7, 89), (8, 90), (9, 91), (10, 92), (11, 93), (12, 94), (13, 95), (14, 96), (15, 97), (16, 98), (17, 99), (18, 100)] [.val (.pointer none), .val (.bool true), .val (.bool true), .val undef, .val undef, .val undef, .val undef, .val undef, .val undef, .val undef, .val undef, .val undef, .val undef, .val undef, .val undef, .val undef, .val undef, .val undef, .val undef] follows (by kernel_rfl) rfl ?hAx2 (opsA_cons ?o0x2 (opsA_cons ?o1x2 (opsA_cons ?o2x2 (opsA_cons ?o3x2 (opsA_cons ?o4x2 (opsA_cons ?o5x2 (opsA_cons ?o6x2 (opsA_cons ?o7x2 (opsA_cons ?o8x2 (opsA_cons ?o9x2 (opsA_cons ?o10x2 (opsA_cons ?o11x2 (opsA_cons ?o12x2 (opsA_cons ?o13x2 (opsA_cons ?o14x2 (opsA_cons ?o15x2 (opsA_cons ?o16x2 (opsA_cons ?o17x2 (opsA_cons ?o18x2 opsA_nil))))))))))))))))))) ?restx2
      case hAx2 =>
        intro ptrs
        simp only [full, foldSlots, filledE, postE, List.foldl_cons, List.foldl_nil, List.getD_cons_zero, List.getD_cons_succ, fill_val, List.set_cons_zero, List.set_cons_succ]
        exact rfl
      case o0x2 => exact fun _ _ _ _ => opE_move (v := .pointer none) _ rfl rfl rfl
      case o1x2 => exact fun _ _ _ _ => opE_value (v := .bool true) rfl (run_eqnn 37 _ _ _ rfl rfl rfl Try.underlying37 _)
      case o2x2 => exact fun _ _ _ _ => opE_move (v := .bool true) _ rfl rfl rfl
      case o3x2 => exact fun _ _ _ _ => opE_skip rfl
      case o4x2 => exact fun _ _ _ _ => opE_skip rfl
      case o5x2 => exact fun _ _ _ _ => opE_skip rfl
      case o6x2 => exact fun _ _ _ _ => opE_skip rfl
      case o7x2 => exact fun _ _ _ _ => opE_skip rfl
      case o8x2 => exact fun _ _ _ _ => opE_skip rfl
      case o9x2 => exact fun _ _ _ _ => opE_skip rfl
      case o10x2 => exact fun _ _ _ _ => opE_skip rfl
      case o11x2 => exact fun _ _ _ _ => opE_skip rfl
      case o12x2 => exact fun _ _ _ _ => opE_skip rfl
      case o13x2 => exact fun _ _ _ _ => opE_skip rfl
      case o14x2 => exact fun _ _ _ _ => opE_skip rfl
      case o15x2 => exact fun _ _ _ _ => opE_skip rfl
      case o16x2 => exact fun _ _ _ _ => opE_skip rfl
      case o17x2 => exact fun _ _ _ _ => opE_skip rfl
      case o18x2 => exact fun _ _ _ _ => opE_skip rfl
      intro ptrs w8 GD hxE
      simp only [List.drop_succ_cons, List.drop_zero]
      replace HQ := HQ.gro ((Gro.refl _).drew.trans GD)
      replace HD := HD.gro ((Gro.refl _).drew.trans GD)
      replace GG := GG.drew.trans GD
      clear GD
      refine s_val 101 rfl rfl (.bool true) (rfl) ?_
      refine nr ?_; intro U h; simp only [z0, z1] at h; subst h
      refine s_val 2 rfl rfl (.bool true) (rfl) ?_
      refine nr ?_; intro U h; simp only [z0, z1] at h; subst h
      refine wpList_nil ?_
      refine then_n ?_
      refine wp_ret ?_
      refine bodyPost_ret (results_tmp Try.results3 _ _ _) rfl ?_
      exact ⟨rfl, GG⟩
    · skip
      have hcl := (hld_ok top_256 (s := ([], 0)) (HG.bytes HD.byte) (fun _ h => by (cases h)) (Nat.zero_le _) hN).2.1
      rcases Nat.lt_or_ge c 1048576 with hc | hc
      · skip
        obtain ⟨err, L2, pw2, h2, dw2, rs2, HO, SA, SB⟩ := append_ab 600 L (-1) h false rs (begV (c + 1)) HG ok_m1 (by omega) (by decide)
        rcases HO.res with ⟨rfl, hrs⟩ | ⟨he1, hrs⟩
        · clear hrs
          refine wp_region_lit ?_
          refine s_val 52 rfl rfl (.pointer (some ⟨p, 0, none⟩)) (rfl) ?_
          refine nr ?_; intro U h; simp only [z0, z1] at h; subst h
          refine s_callx 53 rfl rfl _ 13 Try.call13 rfl rfl _ rfl [.pointer (some ⟨p, 0, none⟩)] rfl ((vopen_go (p :: sg :: rp :: blk ro) _ p sg 600 L (-1) 0 HD (by decide) h rs HG (by omega) hU0 (by simp) (by simp) Lx c hN hc 0 L2 pw2 h2 dw2 rs2 HO SA (by decide) (by decide)).mono fun e w' h => h.yes) (by rintro _ _ ⟨_, _, _, _, _, he, _, _, _, _, _, _, _, _⟩; exact ⟨_, he⟩) ?_
          rintro v w5 ⟨vp, lp, mb, M, dn1, he, G, HV, hM, hv1, hv2, hv3, hd5, hd6⟩
          cases he
          replace HQ := HQ.keepD HD G
          replace GG := G.gro GG (fun k hk => by simp only [List.mem_cons, List.not_mem_nil, or_false] at hk; omega)
          clear HD HM G
          refine nr ?_; intro U h; simp only [z0, z1] at h; subst h
          refine s_val 51 rfl rfl (.tuple #[.pointer (some ⟨vp, 0, none⟩), .int .i64 0]) (rfl) ?_
          refine nr ?_; intro U h; simp only [z0, z1] at h; subst h
          refine s_val 54 rfl rfl (.pointer (some ⟨vp, 0, none⟩)) (rfl) ?_
          refine nr ?_; intro U h; simp only [z0, z1] at h; subst h
          refine s_val 55 rfl rfl (.int .i64 0) (rfl) ?_
          refine nr ?_; intro U h; simp only [z0, z1] at h; subst h
          refine s_val 11 rfl rfl (.pointer (some ⟨vp, 0, none⟩)) (rfl) ?_
          refine nr ?_; intro U h; simp only [z0, z1] at h; subst h
          refine s_val 12 rfl rfl (.int .i64 0) (rfl) ?_
          refine nr ?_; intro U h; simp only [z0, z1] at h; subst h
          refine wpList_nil ?_
          refine then_n ?_
          refine wp_seq ?_
          refine wp_region_lit ?_
          refine s_val 57 rfl rfl (.pointer (some ⟨rp, 0, none⟩)) (rfl) ?_
          refine nr ?_; intro U h; simp only [z0, z1] at h; subst h
          refine s_callx 58 rfl rfl _ 14 Try.call14 rfl rfl _ rfl [.pointer (some ⟨rp, 0, none⟩)] rfl ((rvopen_go _ rp _ ro rc 600 L (-1) dn HQ (by decide) h rs HG (by omega) Lx c hN hc 0 L2 pw2 h2 dw2 rs2 HO SB (by omega) (by omega)).mono fun e w' h => h.yes) (by rintro _ _ ⟨_, _, _, _, _, _, he, _, _, _, _, _, _, _⟩; exact ⟨_, he⟩) ?_
          rintro v w6 ⟨vq, mp2, ao5, cap5, R, dn7, he, G, HVD, hR, hvq, hmp2, hd7, hd8⟩
          cases he
          replace HV := HV.keepQ HQ G (fun k hk => by simp [hk])
          replace GG := G.gro GG hgeq
          clear HQ G
          have HQ := HVD.dsk
          refine nr ?_; intro U h; simp only [z0, z1] at h; subst h
          refine s_val 56 rfl rfl (.tuple #[.pointer (some ⟨vq, 0, none⟩), .int .i64 0]) (rfl) ?_
          refine nr ?_; intro U h; simp only [z0, z1] at h; subst h
          refine s_val 59 rfl rfl (.pointer (some ⟨vq, 0, none⟩)) (rfl) ?_
          refine nr ?_; intro U h; simp only [z0, z1] at h; subst h
          refine s_val 60 rfl rfl (.int .i64 0) (rfl) ?_
          refine nr ?_; intro U h; simp only [z0, z1] at h; subst h
          refine s_val 13 rfl rfl (.pointer (some ⟨vq, 0, none⟩)) (rfl) ?_
          refine nr ?_; intro U h; simp only [z0, z1] at h; subst h
          refine s_val 14 rfl rfl (.int .i64 0) (rfl) ?_
          refine nr ?_; intro U h; simp only [z0, z1] at h; subst h
          refine wpList_nil ?_
          refine then_n ?_
          refine wp_seq ?_
          refine wp_seq ?_
          refine wp_region_exA (A := ?Ax3) 20 [(0, 61), (1, 62), (2, 63), (3, 64), (4, 65), (5, 66), (6, 67), (7, 68), (8, 69), (9, 70), (10, 71), (11, 72), (12, 73), (13, 74), (14, 75), (15, 76), (16, 77), (17, 78), (18, 79), (19, 80)] [.val (.int .i64 0), .val (.int .i64 0), .val (.bool false), .val (.bool false), .val (.pointer (some ⟨vp, 0, none⟩)), .val (.bool false), .val (.pointer (some ⟨vq, 0, none⟩)), .val (.bool false), .val (.bool false), .val (.bool false), .val (.bool false), .val (.pointer (some ⟨p, 0, none⟩)), bytE w6.heap.size L2, .val (.string (bas L2)), .val (.pointer (some ⟨rp, 0, none⟩)), .val (.pointer (some ⟨rp, 0, none⟩)), .val (.pointer (some ⟨rp, 0, none⟩)), .val (.slice ro (600 * 64) rc), .val (.string (bas L2)), .val (.bool false)] follows (by kernel_rfl) rfl ?hAx3 (opsA_cons ?o0x3 (opsA_cons ?o1x3 (opsA_cons ?o2x3 (opsA_cons ?o3x3 (opsA_cons ?o4x3 (opsA_cons ?o5x3 (opsA_cons ?o6x3 (opsA_cons ?o7x3 (opsA_cons ?o8x3 (opsA_cons ?o9x3 (opsA_cons ?o10x3 (opsA_cons ?o11x3 (opsA_cons ?o12x3 (opsA_cons ?o13x3 (opsA_cons ?o14x3 (opsA_cons ?o15x3 (opsA_cons ?o16x3 (opsA_cons ?o17x3 (opsA_cons ?o18x3 (opsA_cons ?o19x3 opsA_nil)))))))))))))))))))) ?restx3
          case hAx3 =>
            intro ptrs
            simp only [full, foldSlots, filledE, postE, List.foldl_cons, List.foldl_nil, List.getD_cons_zero, List.getD_cons_succ, fill_val, fill_bytE, List.set_cons_zero, List.set_cons_succ]
            exact rfl
          case o0x3 => exact fun _ _ _ _ => opE_move (v := .int .i64 0) _ rfl rfl rfl
          case o1x3 => exact fun _ _ _ _ => opE_move (v := .int .i64 0) _ rfl rfl rfl
          case o2x3 => exact fun _ _ _ _ => opE_value (v := .bool false) rfl (run_neq_k 26 .i64 _ _ _ rfl Try.underlying26 0 0 rfl rfl false (decide_eq_true rfl) _)
          case o3x3 => exact fun _ _ _ _ => opE_move (v := .bool false) _ rfl rfl rfl
          case o4x3 => exact fun _ _ _ _ => opE_move (v := .pointer (some ⟨vp, 0, none⟩)) _ rfl rfl rfl
          case o5x3 => exact fun _ _ _ _ => opE_value (v := .bool false) rfl (run_eqnp 37 _ _ _ rfl _ rfl rfl Try.underlying37 _)
          case o6x3 => exact fun _ _ _ _ => opE_move (v := .pointer (some ⟨vq, 0, none⟩)) _ rfl rfl rfl
          case o7x3 => exact fun _ _ _ _ => opE_value (v := .bool false) rfl (run_eqnp 40 _ _ _ rfl _ rfl rfl Try.underlying40 _)
          case o8x3 => exact fun _ _ _ _ => opE_value (v := .bool false) rfl (run_neB 4 _ _ _ rfl false false rfl rfl Try.underlying4 false (by decide) _)
          case o9x3 => exact fun _ _ _ _ => opE_pick (v := .bool false) _ _ _ rfl rfl false rfl rfl
          case o10x3 => exact fun _ _ _ _ => opE_move (v := .bool false) _ rfl rfl rfl
          case o11x3 => exact fun _ _ _ _ => opE_move (v := .pointer (some ⟨p, 0, none⟩)) _ rfl rfl rfl
          case o12x3 =>
            intro ptrs w' hw hE
            exact opE_call (bytE w6.heap.size L2) rfl _ 15 Try.call15 rfl rfl _ rfl [.pointer (some ⟨p, 0, none⟩)] rfl ((bytes_ob _ p sg 600 L2 _ _ (HV.dsk.gro ((Gro.refl _).drew.trans hw))).mono fun e w' ⟨ao, cap, he, hg, ho⟩ => ⟨_, he, hg, ao, cap, rfl, ho.mono hw.size⟩)
          case o13x3 =>
            intro ptrs w' hw hE
            obtain ⟨⟨ao12, cap12, h12, o12⟩, _⟩ := hE
            exact opE_value (v := .string (bas L2)) rfl (run_text_op bT 9 rfl _ rfl (by exact h12) o12.nc)
          case o14x3 => exact fun _ _ _ _ => opE_move (v := .pointer (some ⟨rp, 0, none⟩)) _ rfl rfl rfl
          case o15x3 => exact fun _ _ _ _ => opE_value (v := .pointer (some ⟨rp, 0, none⟩)) rfl (run_nc _ rfl _ rfl)
          case o16x3 => exact fun _ _ _ _ => opE_value (v := .pointer (some ⟨rp, 0, none⟩)) rfl (run_fld 36 _ 0 rfl rp 0 rfl 0 (by kernel_rfl))
          case o17x3 => exact fun _ _ hw _ => opE_value (v := .slice ro (600 * 64) rc) rfl (ldQr (HQ.gro ((Gro.refl _).drew.trans hw)) _ rfl rfl)
          case o18x3 => exact fun _ _ hw _ => opE_value (v := .string (bas L2)) rfl (run_text_op bT 9 rfl _ rfl (by rw [(HQ.gro ((Gro.refl _).drew.trans hw)).len]; rfl) (HQ.gro ((Gro.refl _).drew.trans hw)).row.nc)
          case o19x3 => exact fun _ _ _ _ => opE_value (v := .bool false) rfl (run_nes_op _ _ _ rfl _ _ rfl rfl false (decide_eq_true rfl) _)
          intro ptrs w7 GD hxE
          simp only [List.drop_succ_cons, List.drop_zero]
          replace HV := HV.gro ((Gro.refl _).drew.trans GD)
          replace HVD := HVD.gro ((Gro.refl _).drew.trans GD)
          replace HQ := HQ.gro ((Gro.refl _).drew.trans GD)
          replace GG := GG.drew.trans GD
          obtain ⟨_, _⟩ := hxE
          clear GD
          refine s_val 81 rfl rfl (.bool false) (rfl) ?_
          refine nr ?_; intro U h; simp only [z0, z1] at h; subst h
          refine wpList_nil ?_
          refine then_n ?_
          refine wp_cond_false rfl ?_
          refine wp_skip ?_
          refine then_n ?_
          refine wp_seq ?_
          have hSK : SKv Lx := hld_SK (s := ([], 0)) SKv.nil hN
          have hfew := HG.few (by decide) hN
          refine wp_region_exA (A := ?Ax4) 19 [(0, 82), (1, 83), (2, 84), (3, 85), (4, 86), (5, 87), (6, 88), (7, 89), (8, 90), (9, 91), (10, 92), (11, 93), (12, 94), (13, 95), (14, 96), (15, 97), (16, 98), (17, 99), (18, 100)] [.val (.pointer (some ⟨vp, 0, none⟩)), .val (.bool false), .val (.bool false), .val (.pointer (some ⟨vp, 0, none⟩)), itsE w7.heap.size Lx, .val (.pointer (some ⟨vq, 0, none⟩)), .val (.pointer (some ⟨vq, 0, none⟩)), .val (.pointer (some ⟨vq, 1, none⟩)), .val (.slice ao5 R.length cap5), .val (.bool true), .val (.bool true), .val (.pointer (some ⟨vp, 0, none⟩)), .val (.int .i64 ((c + 1 : Nat) : Int)), .val (.pointer (some ⟨vq, 0, none⟩)), .val (.pointer (some ⟨vq, 0, none⟩)), .val (.pointer (some ⟨vq, 2, none⟩)), .val (.int .i64 ((c + 1 : Nat) : Int)), .val (.bool true), .val (.bool true)] follows (by kernel_rfl) rfl ?hAx4 (opsA_cons ?o0x4 (opsA_cons ?o1x4 (opsA_cons ?o2x4 (opsA_cons ?o3x4 (opsA_cons ?o4x4 (opsA_cons ?o5x4 (opsA_cons ?o6x4 (opsA_cons ?o7x4 (opsA_cons ?o8x4 (opsA_cons ?o9x4 (opsA_cons ?o10x4 (opsA_cons ?o11x4 (opsA_cons ?o12x4 (opsA_cons ?o13x4 (opsA_cons ?o14x4 (opsA_cons ?o15x4 (opsA_cons ?o16x4 (opsA_cons ?o17x4 (opsA_cons ?o18x4 opsA_nil))))))))))))))))))) ?restx4
          case hAx4 =>
            intro ptrs
            simp only [full, foldSlots, filledE, postE, List.foldl_cons, List.foldl_nil, List.getD_cons_zero, List.getD_cons_succ, fill_val, fill_itsE, List.set_cons_zero, List.set_cons_succ]
            exact rfl
          case o0x4 => exact fun _ _ _ _ => opE_move (v := .pointer (some ⟨vp, 0, none⟩)) _ rfl rfl rfl
          case o1x4 => exact fun _ _ _ _ => opE_value (v := .bool false) rfl (run_eqnp 37 _ _ _ rfl _ rfl rfl Try.underlying37 _)
          case o2x4 => exact fun _ _ _ _ => opE_move (v := .bool false) _ rfl rfl rfl
          case o3x4 => exact fun _ _ _ _ => opE_move (v := .pointer (some ⟨vp, 0, none⟩)) _ rfl rfl rfl
          case o4x4 =>
            intro ptrs w' hw hE
            exact opE_call (itsE w7.heap.size Lx) rfl _ 17 Try.call17 rfl rfl _ rfl [.pointer (some ⟨vp, 0, none⟩)] rfl ((all_any _ _ vp lp p sg mb 600 L2 _ _ h2 false _ M (HV.gro ((Gro.refl _).drew.trans hw)) Lx hM hSK hfew).mono fun e w' ⟨ao, cap, Z, he, hg, ho, hb, _, hZ⟩ => ⟨_, he, hg, ao, cap, Z, rfl, ho.mono hw.size, hb.mono hw.size, hZ⟩)
          case o5x4 => exact fun _ _ _ _ => opE_move (v := .pointer (some ⟨vq, 0, none⟩)) _ rfl rfl rfl
          case o6x4 => exact fun _ _ _ _ => opE_value (v := .pointer (some ⟨vq, 0, none⟩)) rfl (run_nc _ rfl _ rfl)
          case o7x4 => exact fun _ _ _ _ => opE_value (v := .pointer (some ⟨vq, 1, none⟩)) rfl (run_fld 48 _ 1 rfl vq 0 rfl 1 (by kernel_rfl))
          case o8x4 => exact fun _ _ hw _ => opE_value (v := .slice ao5 R.length cap5) rfl (ldRvr _ rfl vq rfl (hw.has HVD.box))
          case o9x4 =>
            intro ptrs w' hw hE
            obtain ⟨⟨ao4, cap4, Z4, h4, o4, b4, e4⟩, _, _⟩ := hE
            exact opE_call (.val (.bool true)) rfl _ 16 Try.call16 rfl rfl _ rfl [.slice ao4 Z4.length cap4, .slice ao5 R.length cap5] (congrArg (fun a => [a, Value.slice ao5 R.length cap5]) h4) ((same_any _ ao4 ao5 cap4 cap5 Z4 R o4.re (HVD.row.gro ((Gro.refl _).drew.trans hw)).re b4.nc (HVD.byt.gro ((Gro.refl _).drew.trans hw)).nc (by have := congrArg List.length e4; rw [List.length_map] at this; omega) true (fun _ => rfl) (fun hn => absurd (sames_of e4 hR HVD.n0) hn)).mono fun e w' ⟨he, hg⟩ => ⟨_, he, hg, rfl⟩)
          case o10x4 => exact fun _ _ _ _ => opE_move (v := .bool true) _ rfl rfl rfl
          case o11x4 => exact fun _ _ _ _ => opE_move (v := .pointer (some ⟨vp, 0, none⟩)) _ rfl rfl rfl
          case o12x4 =>
            intro ptrs w' hw hE
            exact opE_call (.val (.int .i64 ((c + 1 : Nat) : Int))) rfl _ 18 Try.call18 rfl rfl _ rfl [.pointer (some ⟨vp, 0, none⟩)] rfl ((inc_any _ vp lp mb _ ((HV).gro ((Gro.refl _).drew.trans hw)).vb.box).mono fun e w' ⟨he, hg⟩ => ⟨_, he, hg, rfl⟩)
          case o13x4 => exact fun _ _ _ _ => opE_move (v := .pointer (some ⟨vq, 0, none⟩)) _ rfl rfl rfl
          case o14x4 => exact fun _ _ _ _ => opE_value (v := .pointer (some ⟨vq, 0, none⟩)) rfl (run_nc _ rfl _ rfl)
          case o15x4 => exact fun _ _ _ _ => opE_value (v := .pointer (some ⟨vq, 2, none⟩)) rfl (run_fld 48 _ 2 rfl vq 0 rfl 2 (by kernel_rfl))
          case o16x4 => exact fun _ _ hw _ => opE_value (v := .int .i64 ((c + 1 : Nat) : Int)) rfl (ldRvi _ rfl vq rfl (hw.has HVD.box))
          case o17x4 => exact fun _ _ _ _ => opE_value (v := .bool true) rfl (run_eq_k 2 .i64 _ _ _ rfl Try.underlying2 ((c + 1 : Nat) : Int) ((c + 1 : Nat) : Int) rfl rfl true (decide_eq_true rfl) _)
          case o18x4 => exact fun _ _ _ _ => opE_pick (v := .bool true) _ _ _ rfl rfl true rfl rfl
          intro ptrs w8 GD hxE
          simp only [List.drop_succ_cons, List.drop_zero]
          replace HV := HV.gro ((Gro.refl _).drew.trans GD)
          replace HVD := HVD.gro ((Gro.refl _).drew.trans GD)
          replace HQ := HQ.gro ((Gro.refl _).drew.trans GD)
          replace GG := GG.drew.trans GD
          obtain ⟨_, _⟩ := hxE
          clear GD
          refine s_val 101 rfl rfl (.bool true) (rfl) ?_
          refine nr ?_; intro U h; simp only [z0, z1] at h; subst h
          refine s_val 2 rfl rfl (.bool true) (rfl) ?_
          refine nr ?_; intro U h; simp only [z0, z1] at h; subst h
          refine wpList_nil ?_
          refine then_n ?_
          refine wp_ret ?_
          refine bodyPost_ret (results_tmp Try.results3 _ _ _) rfl ?_
          exact ⟨rfl, GG⟩
        · clear hrs
          refine wp_region_lit ?_
          refine s_val 52 rfl rfl (.pointer (some ⟨p, 0, none⟩)) (rfl) ?_
          refine nr ?_; intro U h; simp only [z0, z1] at h; subst h
          refine s_callx 53 rfl rfl _ 13 Try.call13 rfl rfl _ rfl [.pointer (some ⟨p, 0, none⟩)] rfl ((vopen_go (p :: sg :: rp :: blk ro) _ p sg 600 L (-1) 0 HD (by decide) h rs HG (by omega) hU0 (by simp) (by simp) Lx c hN hc err L2 pw2 h2 dw2 rs2 HO SA (by decide) (by decide)).mono fun e w' h => h.no he1) (by rintro _ _ ⟨_, he, _, _, _, _⟩; exact ⟨_, he⟩) ?_
          rintro v w5 ⟨dn1, he, G, HD2, hd5, hd6⟩
          cases he
          replace HQ := HQ.keepD HD G
          replace GG := G.gro GG (fun k hk => by simp only [List.mem_cons, List.not_mem_nil, or_false] at hk; omega)
          clear HD HM G
          have HD := HD2
          clear HD2
          refine nr ?_; intro U h; simp only [z0, z1] at h; subst h
          refine s_val 51 rfl rfl (.tuple #[.pointer none, .int .i64 err]) (rfl) ?_
          refine nr ?_; intro U h; simp only [z0, z1] at h; subst h
          refine s_val 54 rfl rfl (.pointer none) (rfl) ?_
          refine nr ?_; intro U h; simp only [z0, z1] at h; subst h
          refine s_val 55 rfl rfl (.int .i64 err) (rfl) ?_
          refine nr ?_; intro U h; simp only [z0, z1] at h; subst h
          refine s_val 11 rfl rfl (.pointer none) (rfl) ?_
          refine nr ?_; intro U h; simp only [z0, z1] at h; subst h
          refine s_val 12 rfl rfl (.int .i64 err) (rfl) ?_
          refine nr ?_; intro U h; simp only [z0, z1] at h; subst h
          refine wpList_nil ?_
          refine then_n ?_
          refine wp_seq ?_
          refine wp_region_lit ?_
          refine s_val 57 rfl rfl (.pointer (some ⟨rp, 0, none⟩)) (rfl) ?_
          refine nr ?_; intro U h; simp only [z0, z1] at h; subst h
          refine s_callx 58 rfl rfl _ 14 Try.call14 rfl rfl _ rfl [.pointer (some ⟨rp, 0, none⟩)] rfl ((rvopen_go _ rp _ ro rc 600 L (-1) dn HQ (by decide) h rs HG (by omega) Lx c hN hc err L2 pw2 h2 dw2 rs2 HO SB (by omega) (by omega)).mono fun e w' h => h.no he1) (by rintro _ _ ⟨_, he, _, _, _, _⟩; exact ⟨_, he⟩) ?_
          rintro v w6 ⟨dn7, he, G, HQ2, hd7, hd8⟩
          cases he
          replace HD := HD.keepQ HQ G
          replace GG := G.gro GG hgeq
          clear HQ G
          have HQ := HQ2
          clear HQ2
          refine nr ?_; intro U h; simp only [z0, z1] at h; subst h
          refine s_val 56 rfl rfl (.tuple #[.pointer none, .int .i64 err]) (rfl) ?_
          refine nr ?_; intro U h; simp only [z0, z1] at h; subst h
          refine s_val 59 rfl rfl (.pointer none) (rfl) ?_
          refine nr ?_; intro U h; simp only [z0, z1] at h; subst h
          refine s_val 60 rfl rfl (.int .i64 err) (rfl) ?_
          refine nr ?_; intro U h; simp only [z0, z1] at h; subst h
          refine s_val 13 rfl rfl (.pointer none) (rfl) ?_
          refine nr ?_; intro U h; simp only [z0, z1] at h; subst h
          refine s_val 14 rfl rfl (.int .i64 err) (rfl) ?_
          refine nr ?_; intro U h; simp only [z0, z1] at h; subst h
          refine wpList_nil ?_
          refine then_n ?_
          refine wp_seq ?_
          refine wp_seq ?_
          refine wp_region_exA (A := ?Ax5) 20 [(0, 61), (1, 62), (2, 63), (3, 64), (4, 65), (5, 66), (6, 67), (7, 68), (8, 69), (9, 70), (10, 71), (11, 72), (12, 73), (13, 74), (14, 75), (15, 76), (16, 77), (17, 78), (18, 79), (19, 80)] [.val (.int .i64 err), .val (.int .i64 err), .val (.bool false), .val (.bool false), .val (.pointer none), .val (.bool true), .val (.pointer none), .val (.bool true), .val (.bool false), .val (.bool false), .val (.bool false), .val (.pointer (some ⟨p, 0, none⟩)), bytE w6.heap.size L2, .val (.string (bas L2)), .val (.pointer (some ⟨rp, 0, none⟩)), .val (.pointer (some ⟨rp, 0, none⟩)), .val (.pointer (some ⟨rp, 0, none⟩)), .val (.slice ro (600 * 64) rc), .val (.string (bas L2)), .val (.bool false)] follows (by kernel_rfl) rfl ?hAx5 (opsA_cons ?o0x5 (opsA_cons ?o1x5 (opsA_cons ?o2x5 (opsA_cons ?o3x5 (opsA_cons ?o4x5 (opsA_cons ?o5x5 (opsA_cons ?o6x5 (opsA_cons ?o7x5 (opsA_cons ?o8x5 (opsA_cons ?o9x5 (opsA_cons ?o10x5 (opsA_cons ?o11x5 (opsA_cons ?o12x5 (opsA_cons ?o13x5 (opsA_cons ?o14x5 (opsA_cons ?o15x5 (opsA_cons ?o16x5 (opsA_cons ?o17x5 (opsA_cons ?o18x5 (opsA_cons ?o19x5 opsA_nil)))))))))))))))))))) ?restx5
          case hAx5 =>
            intro ptrs
            simp only [full, foldSlots, filledE, postE, List.foldl_cons, List.foldl_nil, List.getD_cons_zero, List.getD_cons_succ, fill_val, fill_bytE, List.set_cons_zero, List.set_cons_succ]
            exact rfl
          case o0x5 => exact fun _ _ _ _ => opE_move (v := .int .i64 err) _ rfl rfl rfl
          case o1x5 => exact fun _ _ _ _ => opE_move (v := .int .i64 err) _ rfl rfl rfl
          case o2x5 => exact fun _ _ _ _ => opE_value (v := .bool false) rfl (run_neq_k 26 .i64 _ _ _ rfl Try.underlying26 err err rfl rfl false (decide_eq_true rfl) _)
          case o3x5 => exact fun _ _ _ _ => opE_move (v := .bool false) _ rfl rfl rfl
          case o4x5 => exact fun _ _ _ _ => opE_move (v := .pointer none) _ rfl rfl rfl
          case o5x5 => exact fun _ _ _ _ => opE_value (v := .bool true) rfl (run_eqnn 37 _ _ _ rfl rfl rfl Try.underlying37 _)
          case o6x5 => exact fun _ _ _ _ => opE_move (v := .pointer none) _ rfl rfl rfl
          case o7x5 => exact fun _ _ _ _ => opE_value (v := .bool true) rfl (run_eqnn 40 _ _ _ rfl rfl rfl Try.underlying40 _)
          case o8x5 => exact fun _ _ _ _ => opE_value (v := .bool false) rfl (run_neB 4 _ _ _ rfl true true rfl rfl Try.underlying4 false (by decide) _)
          case o9x5 => exact fun _ _ _ _ => opE_pick (v := .bool false) _ _ _ rfl rfl false rfl rfl
          case o10x5 => exact fun _ _ _ _ => opE_move (v := .bool false) _ rfl rfl rfl
          case o11x5 => exact fun _ _ _ _ => opE_move (v := .pointer (some ⟨p, 0, none⟩)) _ rfl rfl rfl
          case o12x5 =>
            intro ptrs w' hw hE
            exact opE_call (bytE w6.heap.size L2) rfl _ 15 Try.call15 rfl rfl _ rfl [.pointer (some ⟨p, 0, none⟩)] rfl ((bytes_ob _ p sg 600 L2 _ _ (HD.gro ((Gro.refl _).drew.trans hw))).mono fun e w' ⟨ao, cap, he, hg, ho⟩ => ⟨_, he, hg, ao, cap, rfl, ho.mono hw.size⟩)
          case o13x5 =>
            intro ptrs w' hw hE
            obtain ⟨⟨ao12, cap12, h12, o12⟩, _⟩ := hE
            exact opE_value (v := .string (bas L2)) rfl (run_text_op bT 9 rfl _ rfl (by exact h12) o12.nc)
          case o14x5 => exact fun _ _ _ _ => opE_move (v := .pointer (some ⟨rp, 0, none⟩)) _ rfl rfl rfl
          case o15x5 => exact fun _ _ _ _ => opE_value (v := .pointer (some ⟨rp, 0, none⟩)) rfl (run_nc _ rfl _ rfl)
          case o16x5 => exact fun _ _ _ _ => opE_value (v := .pointer (some ⟨rp, 0, none⟩)) rfl (run_fld 36 _ 0 rfl rp 0 rfl 0 (by kernel_rfl))
          case o17x5 => exact fun _ _ hw _ => opE_value (v := .slice ro (600 * 64) rc) rfl (ldQr (HQ.gro ((Gro.refl _).drew.trans hw)) _ rfl rfl)
          case o18x5 => exact fun _ _ hw _ => opE_value (v := .string (bas L2)) rfl (run_text_op bT 9 rfl _ rfl (by rw [(HQ.gro ((Gro.refl _).drew.trans hw)).len]; rfl) (HQ.gro ((Gro.refl _).drew.trans hw)).row.nc)
          case o19x5 => exact fun _ _ _ _ => opE_value (v := .bool false) rfl (run_nes_op _ _ _ rfl _ _ rfl rfl false (decide_eq_true rfl) _)
          intro ptrs w7 GD hxE
          simp only [List.drop_succ_cons, List.drop_zero]
          replace HD := HD.gro ((Gro.refl _).drew.trans GD)
          replace HQ := HQ.gro ((Gro.refl _).drew.trans GD)
          replace GG := GG.drew.trans GD
          obtain ⟨_, _⟩ := hxE
          clear GD
          refine s_val 81 rfl rfl (.bool false) (rfl) ?_
          refine nr ?_; intro U h; simp only [z0, z1] at h; subst h
          refine wpList_nil ?_
          refine then_n ?_
          refine wp_cond_false rfl ?_
          refine wp_skip ?_
          refine then_n ?_
          refine wp_seq ?_
          refine wp_region_exA (A := ?Ax6) 19 [(0, 82), (1, 83), (2, 84), (3, 85), (4, 86), (5, 87), (6, 88), (7, 89), (8, 90), (9, 91), (10, 92), (11, 93), (12, 94), (13, 95), (14, 96), (15, 97), (16, 98), (17, 99), (18, 100)] [.val (.pointer none), .val (.bool true), .val (.bool true), .val undef, .val undef, .val undef, .val undef, .val undef, .val undef, .val undef, .val undef, .val undef, .val undef, .val undef, .val undef, .val undef, .val undef, .val undef, .val undef] follows (by kernel_rfl) rfl ?hAx6 (opsA_cons ?o0x6 (opsA_cons ?o1x6 (opsA_cons ?o2x6 (opsA_cons ?o3x6 (opsA_cons ?o4x6 (opsA_cons ?o5x6 (opsA_cons ?o6x6 (opsA_cons ?o7x6 (opsA_cons ?o8x6 (opsA_cons ?o9x6 (opsA_cons ?o10x6 (opsA_cons ?o11x6 (opsA_cons ?o12x6 (opsA_cons ?o13x6 (opsA_cons ?o14x6 (opsA_cons ?o15x6 (opsA_cons ?o16x6 (opsA_cons ?o17x6 (opsA_cons ?o18x6 opsA_nil))))))))))))))))))) ?restx6
          case hAx6 =>
            intro ptrs
            simp only [full, foldSlots, filledE, postE, List.foldl_cons, List.foldl_nil, List.getD_cons_zero, List.getD_cons_succ, fill_val, List.set_cons_zero, List.set_cons_succ]
            exact rfl
          case o0x6 => exact fun _ _ _ _ => opE_move (v := .pointer none) _ rfl rfl rfl
          case o1x6 => exact fun _ _ _ _ => opE_value (v := .bool true) rfl (run_eqnn 37 _ _ _ rfl rfl rfl Try.underlying37 _)
          case o2x6 => exact fun _ _ _ _ => opE_move (v := .bool true) _ rfl rfl rfl
          case o3x6 => exact fun _ _ _ _ => opE_skip rfl
          case o4x6 => exact fun _ _ _ _ => opE_skip rfl
          case o5x6 => exact fun _ _ _ _ => opE_skip rfl
          case o6x6 => exact fun _ _ _ _ => opE_skip rfl
          case o7x6 => exact fun _ _ _ _ => opE_skip rfl
          case o8x6 => exact fun _ _ _ _ => opE_skip rfl
          case o9x6 => exact fun _ _ _ _ => opE_skip rfl
          case o10x6 => exact fun _ _ _ _ => opE_skip rfl
          case o11x6 => exact fun _ _ _ _ => opE_skip rfl
          case o12x6 => exact fun _ _ _ _ => opE_skip rfl
          case o13x6 => exact fun _ _ _ _ => opE_skip rfl
          case o14x6 => exact fun _ _ _ _ => opE_skip rfl
          case o15x6 => exact fun _ _ _ _ => opE_skip rfl
          case o16x6 => exact fun _ _ _ _ => opE_skip rfl
          case o17x6 => exact fun _ _ _ _ => opE_skip rfl
          case o18x6 => exact fun _ _ _ _ => opE_skip rfl
          intro ptrs w8 GD hxE
          simp only [List.drop_succ_cons, List.drop_zero]
          replace HD := HD.gro ((Gro.refl _).drew.trans GD)
          replace HQ := HQ.gro ((Gro.refl _).drew.trans GD)
          replace GG := GG.drew.trans GD
          clear GD
          refine s_val 101 rfl rfl (.bool true) (rfl) ?_
          refine nr ?_; intro U h; simp only [z0, z1] at h; subst h
          refine s_val 2 rfl rfl (.bool true) (rfl) ?_
          refine nr ?_; intro U h; simp only [z0, z1] at h; subst h
          refine wpList_nil ?_
          refine then_n ?_
          refine wp_ret ?_
          refine bodyPost_ret (results_tmp Try.results3 _ _ _) rfl ?_
          exact ⟨rfl, GG⟩
      · have hc2 : c = 1048576 := by simp only at hcl; omega
        refine wp_region_lit ?_
        refine s_val 52 rfl rfl (.pointer (some ⟨p, 0, none⟩)) (rfl) ?_
        refine nr ?_; intro U h; simp only [z0, z1] at h; subst h
        refine s_callx 53 rfl rfl _ 13 Try.call13 rfl rfl _ rfl [.pointer (some ⟨p, 0, none⟩)] rfl (vopen_fullD (p :: sg :: rp :: blk ro) _ p sg 600 L (-1) 0 HD (by decide) h rs HG (by omega) hU0 Lx c hN hc2) (by rintro _ _ ⟨he, _, _⟩; exact ⟨_, he⟩) ?_
        rintro v w5 ⟨he, G, HD2⟩
        cases he
        replace HQ := HQ.keepD HD G
        replace GG := G.gro GG (fun k hk => by simp only [List.mem_cons, List.not_mem_nil, or_false] at hk; omega)
        clear HD HM G
        have HD := HD2
        clear HD2
        refine nr ?_; intro U h; simp only [z0, z1] at h; subst h
        refine s_val 51 rfl rfl (.tuple #[.pointer none, .int .i64 5]) (rfl) ?_
        refine nr ?_; intro U h; simp only [z0, z1] at h; subst h
        refine s_val 54 rfl rfl (.pointer none) (rfl) ?_
        refine nr ?_; intro U h; simp only [z0, z1] at h; subst h
        refine s_val 55 rfl rfl (.int .i64 5) (rfl) ?_
        refine nr ?_; intro U h; simp only [z0, z1] at h; subst h
        refine s_val 11 rfl rfl (.pointer none) (rfl) ?_
        refine nr ?_; intro U h; simp only [z0, z1] at h; subst h
        refine s_val 12 rfl rfl (.int .i64 5) (rfl) ?_
        refine nr ?_; intro U h; simp only [z0, z1] at h; subst h
        refine wpList_nil ?_
        refine then_n ?_
        refine wp_seq ?_
        refine wp_region_lit ?_
        refine s_val 57 rfl rfl (.pointer (some ⟨rp, 0, none⟩)) (rfl) ?_
        refine nr ?_; intro U h; simp only [z0, z1] at h; subst h
        refine s_callv 58 rfl rfl _ 14 Try.call14 rfl rfl _ rfl [.pointer (some ⟨rp, 0, none⟩)] rfl (rvopen_full _ rp _ ro rc 600 L (-1) dn HQ (by decide) h rs HG (by omega) Lx c hN hc2) ?_
        intro w6 G
        replace HQ := HQ.gro G
        replace HD := HD.gro G
        replace GG := GG.trans G
        clear G
        refine nr ?_; intro U h; simp only [z0, z1] at h; subst h
        refine s_val 56 rfl rfl (.tuple #[.pointer none, .int .i64 5]) (rfl) ?_
        refine nr ?_; intro U h; simp only [z0, z1] at h; subst h
        refine s_val 59 rfl rfl (.pointer none) (rfl) ?_
        refine nr ?_; intro U h; simp only [z0, z1] at h; subst h
        refine s_val 60 rfl rfl (.int .i64 5) (rfl) ?_
        refine nr ?_; intro U h; simp only [z0, z1] at h; subst h
        refine s_val 13 rfl rfl (.pointer none) (rfl) ?_
        refine nr ?_; intro U h; simp only [z0, z1] at h; subst h
        refine s_val 14 rfl rfl (.int .i64 5) (rfl) ?_
        refine nr ?_; intro U h; simp only [z0, z1] at h; subst h
        refine wpList_nil ?_
        refine then_n ?_
        refine wp_seq ?_
        refine wp_seq ?_
        refine wp_region_exA (A := ?Ax7) 20 [(0, 61), (1, 62), (2, 63), (3, 64), (4, 65), (5, 66), (6, 67), (7, 68), (8, 69), (9, 70), (10, 71), (11, 72), (12, 73), (13, 74), (14, 75), (15, 76), (16, 77), (17, 78), (18, 79), (19, 80)] [.val (.int .i64 5), .val (.int .i64 5), .val (.bool false), .val (.bool false), .val (.pointer none), .val (.bool true), .val (.pointer none), .val (.bool true), .val (.bool false), .val (.bool false), .val (.bool false), .val (.pointer (some ⟨p, 0, none⟩)), bytE w6.heap.size L, .val (.string (bas L)), .val (.pointer (some ⟨rp, 0, none⟩)), .val (.pointer (some ⟨rp, 0, none⟩)), .val (.pointer (some ⟨rp, 0, none⟩)), .val (.slice ro (600 * 64) rc), .val (.string (bas L)), .val (.bool false)] follows (by kernel_rfl) rfl ?hAx7 (opsA_cons ?o0x7 (opsA_cons ?o1x7 (opsA_cons ?o2x7 (opsA_cons ?o3x7 (opsA_cons ?o4x7 (opsA_cons ?o5x7 (opsA_cons ?o6x7 (opsA_cons ?o7x7 (opsA_cons ?o8x7 (opsA_cons ?o9x7 (opsA_cons ?o10x7 (opsA_cons ?o11x7 (opsA_cons ?o12x7 (opsA_cons ?o13x7 (opsA_cons ?o14x7 (opsA_cons ?o15x7 (opsA_cons ?o16x7 (opsA_cons ?o17x7 (opsA_cons ?o18x7 (opsA_cons ?o19x7 opsA_nil)))))))))))))))))))) ?restx7
        case hAx7 =>
          intro ptrs
          simp only [full, foldSlots, filledE, postE, List.foldl_cons, List.foldl_nil, List.getD_cons_zero, List.getD_cons_succ, fill_val, fill_bytE, List.set_cons_zero, List.set_cons_succ]
          exact rfl
        case o0x7 => exact fun _ _ _ _ => opE_move (v := .int .i64 5) _ rfl rfl rfl
        case o1x7 => exact fun _ _ _ _ => opE_move (v := .int .i64 5) _ rfl rfl rfl
        case o2x7 => exact fun _ _ _ _ => opE_value (v := .bool false) rfl (run_neq_k 26 .i64 _ _ _ rfl Try.underlying26 5 5 rfl rfl false (decide_eq_true rfl) _)
        case o3x7 => exact fun _ _ _ _ => opE_move (v := .bool false) _ rfl rfl rfl
        case o4x7 => exact fun _ _ _ _ => opE_move (v := .pointer none) _ rfl rfl rfl
        case o5x7 => exact fun _ _ _ _ => opE_value (v := .bool true) rfl (run_eqnn 37 _ _ _ rfl rfl rfl Try.underlying37 _)
        case o6x7 => exact fun _ _ _ _ => opE_move (v := .pointer none) _ rfl rfl rfl
        case o7x7 => exact fun _ _ _ _ => opE_value (v := .bool true) rfl (run_eqnn 40 _ _ _ rfl rfl rfl Try.underlying40 _)
        case o8x7 => exact fun _ _ _ _ => opE_value (v := .bool false) rfl (run_neB 4 _ _ _ rfl true true rfl rfl Try.underlying4 false (by decide) _)
        case o9x7 => exact fun _ _ _ _ => opE_pick (v := .bool false) _ _ _ rfl rfl false rfl rfl
        case o10x7 => exact fun _ _ _ _ => opE_move (v := .bool false) _ rfl rfl rfl
        case o11x7 => exact fun _ _ _ _ => opE_move (v := .pointer (some ⟨p, 0, none⟩)) _ rfl rfl rfl
        case o12x7 =>
          intro ptrs w' hw hE
          exact opE_call (bytE w6.heap.size L) rfl _ 15 Try.call15 rfl rfl _ rfl [.pointer (some ⟨p, 0, none⟩)] rfl ((bytes_ob _ p sg 600 L _ _ (HD.gro ((Gro.refl _).drew.trans hw))).mono fun e w' ⟨ao, cap, he, hg, ho⟩ => ⟨_, he, hg, ao, cap, rfl, ho.mono hw.size⟩)
        case o13x7 =>
          intro ptrs w' hw hE
          obtain ⟨⟨ao12, cap12, h12, o12⟩, _⟩ := hE
          exact opE_value (v := .string (bas L)) rfl (run_text_op bT 9 rfl _ rfl (by exact h12) o12.nc)
        case o14x7 => exact fun _ _ _ _ => opE_move (v := .pointer (some ⟨rp, 0, none⟩)) _ rfl rfl rfl
        case o15x7 => exact fun _ _ _ _ => opE_value (v := .pointer (some ⟨rp, 0, none⟩)) rfl (run_nc _ rfl _ rfl)
        case o16x7 => exact fun _ _ _ _ => opE_value (v := .pointer (some ⟨rp, 0, none⟩)) rfl (run_fld 36 _ 0 rfl rp 0 rfl 0 (by kernel_rfl))
        case o17x7 => exact fun _ _ hw _ => opE_value (v := .slice ro (600 * 64) rc) rfl (ldQr (HQ.gro ((Gro.refl _).drew.trans hw)) _ rfl rfl)
        case o18x7 => exact fun _ _ hw _ => opE_value (v := .string (bas L)) rfl (run_text_op bT 9 rfl _ rfl (by rw [(HQ.gro ((Gro.refl _).drew.trans hw)).len]; rfl) (HQ.gro ((Gro.refl _).drew.trans hw)).row.nc)
        case o19x7 => exact fun _ _ _ _ => opE_value (v := .bool false) rfl (run_nes_op _ _ _ rfl _ _ rfl rfl false (decide_eq_true rfl) _)
        intro ptrs w7 GD hxE
        simp only [List.drop_succ_cons, List.drop_zero]
        replace HQ := HQ.gro ((Gro.refl _).drew.trans GD)
        replace HD := HD.gro ((Gro.refl _).drew.trans GD)
        replace GG := GG.drew.trans GD
        obtain ⟨_, _⟩ := hxE
        clear GD
        refine s_val 81 rfl rfl (.bool false) (rfl) ?_
        refine nr ?_; intro U h; simp only [z0, z1] at h; subst h
        refine wpList_nil ?_
        refine then_n ?_
        refine wp_cond_false rfl ?_
        refine wp_skip ?_
        refine then_n ?_
        refine wp_seq ?_
        refine wp_region_exA (A := ?Ax8) 19 [(0, 82), (1, 83), (2, 84), (3, 85), (4, 86), (5, 87), (6, 88), (7, 89), (8, 90), (9, 91), (10, 92), (11, 93), (12, 94), (13, 95), (14, 96), (15, 97), (16, 98), (17, 99), (18, 100)] [.val (.pointer none), .val (.bool true), .val (.bool true), .val undef, .val undef, .val undef, .val undef, .val undef, .val undef, .val undef, .val undef, .val undef, .val undef, .val undef, .val undef, .val undef, .val undef, .val undef, .val undef] follows (by kernel_rfl) rfl ?hAx8 (opsA_cons ?o0x8 (opsA_cons ?o1x8 (opsA_cons ?o2x8 (opsA_cons ?o3x8 (opsA_cons ?o4x8 (opsA_cons ?o5x8 (opsA_cons ?o6x8 (opsA_cons ?o7x8 (opsA_cons ?o8x8 (opsA_cons ?o9x8 (opsA_cons ?o10x8 (opsA_cons ?o11x8 (opsA_cons ?o12x8 (opsA_cons ?o13x8 (opsA_cons ?o14x8 (opsA_cons ?o15x8 (opsA_cons ?o16x8 (opsA_cons ?o17x8 (opsA_cons ?o18x8 opsA_nil))))))))))))))))))) ?restx8
        case hAx8 =>
          intro ptrs
          simp only [full, foldSlots, filledE, postE, List.foldl_cons, List.foldl_nil, List.getD_cons_zero, List.getD_cons_succ, fill_val, List.set_cons_zero, List.set_cons_succ]
          exact rfl
        case o0x8 => exact fun _ _ _ _ => opE_move (v := .pointer none) _ rfl rfl rfl
        case o1x8 => exact fun _ _ _ _ => opE_value (v := .bool true) rfl (run_eqnn 37 _ _ _ rfl rfl rfl Try.underlying37 _)
        case o2x8 => exact fun _ _ _ _ => opE_move (v := .bool true) _ rfl rfl rfl
        case o3x8 => exact fun _ _ _ _ => opE_skip rfl
        case o4x8 => exact fun _ _ _ _ => opE_skip rfl
        case o5x8 => exact fun _ _ _ _ => opE_skip rfl
        case o6x8 => exact fun _ _ _ _ => opE_skip rfl
        case o7x8 => exact fun _ _ _ _ => opE_skip rfl
        case o8x8 => exact fun _ _ _ _ => opE_skip rfl
        case o9x8 => exact fun _ _ _ _ => opE_skip rfl
        case o10x8 => exact fun _ _ _ _ => opE_skip rfl
        case o11x8 => exact fun _ _ _ _ => opE_skip rfl
        case o12x8 => exact fun _ _ _ _ => opE_skip rfl
        case o13x8 => exact fun _ _ _ _ => opE_skip rfl
        case o14x8 => exact fun _ _ _ _ => opE_skip rfl
        case o15x8 => exact fun _ _ _ _ => opE_skip rfl
        case o16x8 => exact fun _ _ _ _ => opE_skip rfl
        case o17x8 => exact fun _ _ _ _ => opE_skip rfl
        case o18x8 => exact fun _ _ _ _ => opE_skip rfl
        intro ptrs w8 GD hxE
        simp only [List.drop_succ_cons, List.drop_zero]
        replace HQ := HQ.gro ((Gro.refl _).drew.trans GD)
        replace HD := HD.gro ((Gro.refl _).drew.trans GD)
        replace GG := GG.drew.trans GD
        clear GD
        refine s_val 101 rfl rfl (.bool true) (rfl) ?_
        refine nr ?_; intro U h; simp only [z0, z1] at h; subst h
        refine s_val 2 rfl rfl (.bool true) (rfl) ?_
        refine nr ?_; intro U h; simp only [z0, z1] at h; subst h
        refine wpList_nil ?_
        refine then_n ?_
        refine wp_ret ?_
        refine bodyPost_ret (results_tmp Try.results3 _ _ _) rfl ?_
        exact ⟨rfl, GG⟩
  · have hlt : i < ls.length := by have := of_decide_eq_true h1; omega
    refine wp_region_lit ?_
    refine s_val 31 rfl rfl (.bool true) (run_lssT 3 _ _ _ rfl ((i : Nat) : Int) ((ls.length : Nat) : Int) rfl rfl true h1 _) ?_
    refine nr ?_; intro U h; simp only [z0, z1] at h; subst h
    refine wpList_nil ?_
    refine then_n ?_
    refine wp_seq ?_
    refine wp_cond_true rfl ?_
    refine wp_skip ?_
    refine then_n ?_
    refine wp_seq ?_
    refine wp_block ?_
    refine wp_seq ?_
    obtain ⟨ad, ao2, cap2, had, hcell, HR⟩ := HA.at (j := i) hlt
    obtain ⟨r, hr⟩ : ∃ r, ls.getD i [] = r := ⟨_, rfl⟩
    rw [hr] at hcell HR
    refine wp_region_lit ?_
    refine s_val 32 rfl rfl (.int .i64 ((i : Nat) : Int)) (rfl) ?_
    refine nr ?_; intro U h; simp only [z0, z1] at h; subst h
    refine s_val 33 rfl rfl (.pointer (some (ad.add i))) (run_idx23 _ _ rfl ad _ _ i (by rw [← had]; rfl) rfl hlt _) ?_
    refine nr ?_; intro U h; simp only [z0, z1] at h; subst h
    refine s_val 34 rfl rfl (.slice ao2 r.length cap2) (run_ld24 _ rfl (ad.add i) rfl _ _ (gro_cell GG hcell)) ?_
    refine nr ?_; intro U h; simp only [z0, z1] at h; subst h
    refine s_val 7 rfl rfl (.int .i64 ((i : Nat) : Int)) (rfl) ?_
    refine nr ?_; intro U h; simp only [z0, z1] at h; subst h
    refine s_val 8 rfl rfl (.slice ao2 r.length cap2) (rfl) ?_
    refine nr ?_; intro U h; simp only [z0, z1] at h; subst h
    refine wpList_nil ?_
    refine then_n ?_
    refine wp_seq ?_
    refine wp_seq ?_
    cases h2 : decide ((80 : Int) < ((i : Nat) : Int))
    · have h80 := of_decide_eq_false h2
      refine wp_region_lit ?_
      refine s_val 35 rfl rfl (.int .i64 ((i : Nat) : Int)) (rfl) ?_
      refine nr ?_; intro U h; simp only [z0, z1] at h; subst h
      refine s_val 36 rfl rfl (.bool false) (run_gtrT 3 _ _ _ rfl ((i : Nat) : Int) 80 rfl rfl false h2 _) ?_
      refine nr ?_; intro U h; simp only [z0, z1] at h; subst h
      refine wpList_nil ?_
      refine then_n ?_
      refine wp_cond_false rfl ?_
      refine wp_skip ?_
      refine then_n ?_
      refine wp_region_lit ?_
      refine s_val 37 rfl rfl (.pointer (some ⟨mp, 0, none⟩)) (rfl) ?_
      refine nr ?_; intro U h; simp only [z0, z1] at h; subst h
      refine s_val 38 rfl rfl (.slice ao2 r.length cap2) (rfl) ?_
      refine nr ?_; intro U h; simp only [z0, z1] at h; subst h
      obtain ⟨err, L2, h2, rs2, HG2, hg2, SB2⟩ := append_m 600 L h rs r HG (by omega) (by decide)
      have hge := HQ.ge3 hrp hmp
      refine s_callx 39 rfl rfl _ 11 Try.call11 rfl rfl _ rfl [.pointer (some ⟨mp, 0, none⟩), .slice ao2 r.length cap2] rfl (SB2 _ mp rp _ ro rc dn _ _ HM HQ ⟨HR.gro GG, fun ad2 ha h0 hm => by (have := HR.lt ad2 ha h0; have := hge _ hm; omega)⟩ (by omega) (by omega)) (by rintro _ _ ⟨_, he, _, _, _, _, _⟩; exact ⟨_, he⟩) ?_
      rintro v w4 ⟨dn2, he, G, hd3, hd4, HQ2, HM2⟩
      cases he
      replace GG := G.gro GG hge
      clear HQ HM
      have HQ := HQ2
      have HM := HM2
      clear HQ2 HM2 G
      refine nr ?_; intro U h; simp only [z0, z1] at h; subst h
      refine wpList_nil ?_
      refine blk_n ?_
      refine then_n ?_
      refine wp_region_lit ?_
      refine s_val 40 rfl rfl (.int .i64 ((i + 1 : Nat) : Int)) (run_addI 3 _ _ _ rfl ((i : Nat) : Int) 1 ((i + 1 : Nat) : Int) rfl rfl (by omega) (by omega) (by omega) _) ?_
      refine nr ?_; intro U h; simp only [z0, z1] at h; subst h
      refine s_val 30 rfl rfl (.int .i64 ((i + 1 : Nat) : Int)) (rfl) ?_
      refine nr ?_; intro U h; simp only [z0, z1] at h; subst h
      refine wpList_nil ?_
      refine then_n ?_
      exact ⟨_, by omega, i + 1, L2, dn2, h2, rs2, (fun kz => ([.int .i64 ((i : Nat) : Int), .slice ao2 r.length cap2, .bool true, .int .i64 ((i : Nat) : Int), .pointer (some (ad.add i)), .slice ao2 r.length cap2, .int .i64 ((i : Nat) : Int), .bool false, .pointer (some ⟨mp, 0, none⟩), .slice ao2 r.length cap2, .int .i64 err, .int .i64 ((i + 1 : Nat) : Int)] : List Value).getD kz undef), rfl, rfl, GG, HQ, HM, HG2, by omega, ⟨by omega, by omega, by omega, by omega⟩⟩
    · refine wp_region_lit ?_
      refine s_val 35 rfl rfl (.int .i64 ((i : Nat) : Int)) (rfl) ?_
      refine nr ?_; intro U h; simp only [z0, z1] at h; subst h
      refine s_val 36 rfl rfl (.bool true) (run_gtrT 3 _ _ _ rfl ((i : Nat) : Int) 80 rfl rfl true h2 _) ?_
      refine nr ?_; intro U h; simp only [z0, z1] at h; subst h
      refine wpList_nil ?_
      refine then_n ?_
      refine wp_cond_true rfl ?_
      refine wp_exit ?_
      refine then_x ?_
      refine blk_xn (by decide) ?_
      refine then_x ?_
      refine then_x ?_
      refine blk_x ?_
      refine then_n ?_
      refine wp_seq ?_
      refine wp_region_lit ?_
      refine s_val 42 rfl rfl (.pointer (some ⟨rp, 0, none⟩)) (rfl) ?_
      refine nr ?_; intro U h; simp only [z0, z1] at h; subst h
      refine s_val 43 rfl rfl (.pointer (some ⟨rp, 0, none⟩)) (run_nc _ rfl _ rfl) ?_
      refine nr ?_; intro U h; simp only [z0, z1] at h; subst h
      refine s_val 44 rfl rfl (.pointer (some ⟨rp, 0, none⟩)) (run_fld 36 _ 0 rfl rp 0 rfl 0 (by kernel_rfl)) ?_
      refine nr ?_; intro U h; simp only [z0, z1] at h; subst h
      refine s_val 45 rfl rfl (.slice ro (600 * 64) rc) (ldQr HQ _ rfl rfl) ?_
      refine nr ?_; intro U h; simp only [z0, z1] at h; subst h
      have hz2 := GG.size
      refine s_callx 46 rfl rfl _ 12 Try.call12 rfl rfl _ rfl [.slice ro (600 * 64) rc] rfl (pair_n _ ro rc L HQ.row.nc 600 (600 * 64) HQ.len (by decide) HQ.len.symm) (by rintro _ _ ⟨_, _, _, _, _, he, _, _, _, _, _, _⟩; exact ⟨_, he⟩) ?_
      rintro v w4 ⟨p, sg, rp2, ro2, rc2, he, G, bp, bsg, brp, HD, _⟩
      cases he
      replace HQ := HQ.gro G
      replace HM := HM.gro G
      replace GG := GG.trans G
      clear G
      replace bp := Nat.le_trans hz2 bp
      replace bsg := Nat.le_trans hz2 bsg
      refine nr ?_; intro U h; simp only [z0, z1] at h; subst h
      refine s_val 41 rfl rfl (.tuple #[.pointer (some ⟨p, 0, none⟩), .pointer (some ⟨rp2, 0, none⟩)]) (rfl) ?_
      refine nr ?_; intro U h; simp only [z0, z1] at h; subst h
      refine s_val 47 rfl rfl (.pointer (some ⟨p, 0, none⟩)) (rfl) ?_
      refine nr ?_; intro U h; simp only [z0, z1] at h; subst h
      refine s_val 48 rfl rfl (.pointer (some ⟨rp2, 0, none⟩)) (rfl) ?_
      refine nr ?_; intro U h; simp only [z0, z1] at h; subst h
      refine s_val 9 rfl rfl (.pointer (some ⟨p, 0, none⟩)) (rfl) ?_
      refine nr ?_; intro U h; simp only [z0, z1] at h; subst h
      refine s_val 10 rfl rfl (.pointer (some ⟨rp2, 0, none⟩)) (rfl) ?_
      refine nr ?_; intro U h; simp only [z0, z1] at h; subst h
      refine wpList_nil ?_
      refine then_n ?_
      refine wp_seq ?_
      refine wp_seq ?_
      refine wp_region_lit ?_
      refine s_val 49 rfl rfl (.pointer (some ⟨p, 0, none⟩)) (rfl) ?_
      refine nr ?_; intro U h; simp only [z0, z1] at h; subst h
      refine s_val 50 rfl rfl (.bool false) (run_eqnp 32 _ _ _ rfl _ rfl rfl Try.underlying32 _) ?_
      refine nr ?_; intro U h; simp only [z0, z1] at h; subst h
      refine wpList_nil ?_
      refine then_n ?_
      refine wp_cond_false rfl ?_
      refine wp_skip ?_
      refine then_n ?_
      refine wp_seq ?_
      have hU0 : ∀ k ∈ (p :: sg :: rp :: blk ro), k < w4.heap.size := fun k hk => by
        rcases List.mem_cons.1 hk with rfl | hk
        · exact lt_of_heap HD.box
        rcases List.mem_cons.1 hk with rfl | hk
        · exact lt_of_heap HD.sec
        rcases List.mem_cons.1 hk with rfl | hk
        · exact lt_of_heap HQ.box
        · exact HQ.ltr k hk
      have hgeq : ∀ k ∈ rp :: blk ro, w.heap.size ≤ k := fun k hk => HQ.ge3 hrp hmp k (by
        rcases List.mem_cons.1 hk with rfl | hk
        · exact List.mem_cons.2 (.inl rfl)
        · exact List.mem_cons.2 (.inr (List.mem_cons.2 (.inr hk))))
      rcases hN : hld rs with _ | ⟨Lx, c⟩
      · skip
        refine wp_region_lit ?_
        refine s_val 52 rfl rfl (.pointer (some ⟨p, 0, none⟩)) (rfl) ?_
        refine nr ?_; intro U h; simp only [z0, z1] at h; subst h
        refine s_callx 53 rfl rfl _ 13 Try.call13 rfl rfl _ rfl [.pointer (some ⟨p, 0, none⟩)] rfl (vopen_badD (p :: sg :: rp :: blk ro) _ p sg 600 L (-1) 0 HD (by decide) h rs HG (by omega) hU0 hN) (by rintro _ _ ⟨he, _, _⟩; exact ⟨_, he⟩) ?_
        rintro v w5 ⟨he, G, HD2⟩
        cases he
        replace HQ := HQ.keepD HD G
        replace GG := G.gro GG (fun k hk => by simp only [List.mem_cons, List.not_mem_nil, or_false] at hk; omega)
        clear HD HM G
        have HD := HD2
        clear HD2
        refine nr ?_; intro U h; simp only [z0, z1] at h; subst h
        refine s_val 51 rfl rfl (.tuple #[.pointer none, .int .i64 2]) (rfl) ?_
        refine nr ?_; intro U h; simp only [z0, z1] at h; subst h
        refine s_val 54 rfl rfl (.pointer none) (rfl) ?_
        refine nr ?_; intro U h; simp only [z0, z1] at h; subst h
        refine s_val 55 rfl rfl (.int .i64 2) (rfl) ?_
        refine nr ?_; intro U h; simp only [z0, z1] at h; subst h
        refine s_val 11 rfl rfl (.pointer none) (rfl) ?_
        refine nr ?_; intro U h; simp only [z0, z1] at h; subst h
        refine s_val 12 rfl rfl (.int .i64 2) (rfl) ?_
        refine nr ?_; intro U h; simp only [z0, z1] at h; subst h
        refine wpList_nil ?_
        refine then_n ?_
        refine wp_seq ?_
        refine wp_region_lit ?_
        refine s_val 57 rfl rfl (.pointer (some ⟨rp, 0, none⟩)) (rfl) ?_
        refine nr ?_; intro U h; simp only [z0, z1] at h; subst h
        refine s_callv 58 rfl rfl _ 14 Try.call14 rfl rfl _ rfl [.pointer (some ⟨rp, 0, none⟩)] rfl (rvopen_bad _ rp _ ro rc 600 L (-1) dn HQ (by decide) h rs HG (by omega) hN) ?_
        intro w6 G
        replace HQ := HQ.gro G
        replace HD := HD.gro G
        replace GG := GG.trans G
        clear G
        refine nr ?_; intro U h; simp only [z0, z1] at h; subst h
        refine s_val 56 rfl rfl (.tuple #[.pointer none, .int .i64 2]) (rfl) ?_
        refine nr ?_; intro U h; simp only [z0, z1] at h; subst h
        refine s_val 59 rfl rfl (.pointer none) (rfl) ?_
        refine nr ?_; intro U h; simp only [z0, z1] at h; subst h
        refine s_val 60 rfl rfl (.int .i64 2) (rfl) ?_
        refine nr ?_; intro U h; simp only [z0, z1] at h; subst h
        refine s_val 13 rfl rfl (.pointer none) (rfl) ?_
        refine nr ?_; intro U h; simp only [z0, z1] at h; subst h
        refine s_val 14 rfl rfl (.int .i64 2) (rfl) ?_
        refine nr ?_; intro U h; simp only [z0, z1] at h; subst h
        refine wpList_nil ?_
        refine then_n ?_
        refine wp_seq ?_
        refine wp_seq ?_
        refine wp_region_exA (A := ?Ax9) 20 [(0, 61), (1, 62), (2, 63), (3, 64), (4, 65), (5, 66), (6, 67), (7, 68), (8, 69), (9, 70), (10, 71), (11, 72), (12, 73), (13, 74), (14, 75), (15, 76), (16, 77), (17, 78), (18, 79), (19, 80)] [.val (.int .i64 2), .val (.int .i64 2), .val (.bool false), .val (.bool false), .val (.pointer none), .val (.bool true), .val (.pointer none), .val (.bool true), .val (.bool false), .val (.bool false), .val (.bool false), .val (.pointer (some ⟨p, 0, none⟩)), bytE w6.heap.size L, .val (.string (bas L)), .val (.pointer (some ⟨rp, 0, none⟩)), .val (.pointer (some ⟨rp, 0, none⟩)), .val (.pointer (some ⟨rp, 0, none⟩)), .val (.slice ro (600 * 64) rc), .val (.string (bas L)), .val (.bool false)] follows (by kernel_rfl) rfl ?hAx9 (opsA_cons ?o0x9 (opsA_cons ?o1x9 (opsA_cons ?o2x9 (opsA_cons ?o3x9 (opsA_cons ?o4x9 (opsA_cons ?o5x9 (opsA_cons ?o6x9 (opsA_cons ?o7x9 (opsA_cons ?o8x9 (opsA_cons ?o9x9 (opsA_cons ?o10x9 (opsA_cons ?o11x9 (opsA_cons ?o12x9 (opsA_cons ?o13x9 (opsA_cons ?o14x9 (opsA_cons ?o15x9 (opsA_cons ?o16x9 (opsA_cons ?o17x9 (opsA_cons ?o18x9 (opsA_cons ?o19x9 opsA_nil)))))))))))))))))))) ?restx9
        case hAx9 =>
          intro ptrs
          simp only [full, foldSlots, filledE, postE, List.foldl_cons, List.foldl_nil, List.getD_cons_zero, List.getD_cons_succ, fill_val, fill_bytE, List.set_cons_zero, List.set_cons_succ]
          exact rfl
        case o0x9 => exact fun _ _ _ _ => opE_move (v := .int .i64 2) _ rfl rfl rfl
        case o1x9 => exact fun _ _ _ _ => opE_move (v := .int .i64 2) _ rfl rfl rfl
        case o2x9 => exact fun _ _ _ _ => opE_value (v := .bool false) rfl (run_neq_k 26 .i64 _ _ _ rfl Try.underlying26 2 2 rfl rfl false (decide_eq_true rfl) _)
        case o3x9 => exact fun _ _ _ _ => opE_move (v := .bool false) _ rfl rfl rfl
        case o4x9 => exact fun _ _ _ _ => opE_move (v := .pointer none) _ rfl rfl rfl
        case o5x9 => exact fun _ _ _ _ => opE_value (v := .bool true) rfl (run_eqnn 37 _ _ _ rfl rfl rfl Try.underlying37 _)
        case o6x9 => exact fun _ _ _ _ => opE_move (v := .pointer none) _ rfl rfl rfl
        case o7x9 => exact fun _ _ _ _ => opE_value (v := .bool true) rfl (run_eqnn 40 _ _ _ rfl rfl rfl Try.underlying40 _)
        case o8x9 => exact fun _ _ _ _ => opE_value (v := .bool false) rfl (run_neB 4 _ _ _ rfl true true rfl rfl Try.underlying4 false (by decide) _)
        case o9x9 => exact fun _ _ _ _ => opE_pick (v := .bool false) _ _ _ rfl rfl false rfl rfl
        case o10x9 => exact fun _ _ _ _ => opE_move (v := .bool false) _ rfl rfl rfl
        case o11x9 => exact fun _ _ _ _ => opE_move (v := .pointer (some ⟨p, 0, none⟩)) _ rfl rfl rfl
        case o12x9 =>
          intro ptrs w' hw hE
          exact opE_call (bytE w6.heap.size L) rfl _ 15 Try.call15 rfl rfl _ rfl [.pointer (some ⟨p, 0, none⟩)] rfl ((bytes_ob _ p sg 600 L _ _ (HD.gro ((Gro.refl _).drew.trans hw))).mono fun e w' ⟨ao, cap, he, hg, ho⟩ => ⟨_, he, hg, ao, cap, rfl, ho.mono hw.size⟩)
        case o13x9 =>
          intro ptrs w' hw hE
          obtain ⟨⟨ao12, cap12, h12, o12⟩, _⟩ := hE
          exact opE_value (v := .string (bas L)) rfl (run_text_op bT 9 rfl _ rfl (by exact h12) o12.nc)
        case o14x9 => exact fun _ _ _ _ => opE_move (v := .pointer (some ⟨rp, 0, none⟩)) _ rfl rfl rfl
        case o15x9 => exact fun _ _ _ _ => opE_value (v := .pointer (some ⟨rp, 0, none⟩)) rfl (run_nc _ rfl _ rfl)
        case o16x9 => exact fun _ _ _ _ => opE_value (v := .pointer (some ⟨rp, 0, none⟩)) rfl (run_fld 36 _ 0 rfl rp 0 rfl 0 (by kernel_rfl))
        case o17x9 => exact fun _ _ hw _ => opE_value (v := .slice ro (600 * 64) rc) rfl (ldQr (HQ.gro ((Gro.refl _).drew.trans hw)) _ rfl rfl)
        case o18x9 => exact fun _ _ hw _ => opE_value (v := .string (bas L)) rfl (run_text_op bT 9 rfl _ rfl (by rw [(HQ.gro ((Gro.refl _).drew.trans hw)).len]; rfl) (HQ.gro ((Gro.refl _).drew.trans hw)).row.nc)
        case o19x9 => exact fun _ _ _ _ => opE_value (v := .bool false) rfl (run_nes_op _ _ _ rfl _ _ rfl rfl false (decide_eq_true rfl) _)
        intro ptrs w7 GD hxE
        simp only [List.drop_succ_cons, List.drop_zero]
        replace HQ := HQ.gro ((Gro.refl _).drew.trans GD)
        replace HD := HD.gro ((Gro.refl _).drew.trans GD)
        replace GG := GG.drew.trans GD
        obtain ⟨_, _⟩ := hxE
        clear GD
        refine s_val 81 rfl rfl (.bool false) (rfl) ?_
        refine nr ?_; intro U h; simp only [z0, z1] at h; subst h
        refine wpList_nil ?_
        refine then_n ?_
        refine wp_cond_false rfl ?_
        refine wp_skip ?_
        refine then_n ?_
        refine wp_seq ?_
        refine wp_region_exA (A := ?Ax10) 19 [(0, 82), (1, 83), (2, 84), (3, 85), (4, 86), (5, 87), (6, 88), (7, 89), (8, 90), (9, 91), (10, 92), (11, 93), (12, 94), (13, 95), (14, 96), (15, 97), (16, 98), (17, 99), (18, 100)] [.val (.pointer none), .val (.bool true), .val (.bool true), .val undef, .val undef, .val undef, .val undef, .val undef, .val undef, .val undef, .val undef, .val undef, .val undef, .val undef, .val undef, .val undef, .val undef, .val undef, .val undef] follows (by kernel_rfl) rfl ?hAx10 (opsA_cons ?o0x10 (opsA_cons ?o1x10 (opsA_cons ?o2x10 (opsA_cons ?o3x10 (opsA_cons ?o4x10 (opsA_cons ?o5x10 (opsA_cons ?o6x10 (opsA_cons ?o7x10 (opsA_cons ?o8x10 (opsA_cons ?o9x10 (opsA_cons ?o10x10 (opsA_cons ?o11x10 (opsA_cons ?o12x10 (opsA_cons ?o13x10 (opsA_cons ?o14x10 (opsA_cons ?o15x10 (opsA_cons ?o16x10 (opsA_cons ?o17x10 (opsA_cons ?o18x10 opsA_nil))))))))))))))))))) ?restx10
        case hAx10 =>
          intro ptrs
          simp only [full, foldSlots, filledE, postE, List.foldl_cons, List.foldl_nil, List.getD_cons_zero, List.getD_cons_succ, fill_val, List.set_cons_zero, List.set_cons_succ]
          exact rfl
        case o0x10 => exact fun _ _ _ _ => opE_move (v := .pointer none) _ rfl rfl rfl
        case o1x10 => exact fun _ _ _ _ => opE_value (v := .bool true) rfl (run_eqnn 37 _ _ _ rfl rfl rfl Try.underlying37 _)
        case o2x10 => exact fun _ _ _ _ => opE_move (v := .bool true) _ rfl rfl rfl
        case o3x10 => exact fun _ _ _ _ => opE_skip rfl
        case o4x10 => exact fun _ _ _ _ => opE_skip rfl
        case o5x10 => exact fun _ _ _ _ => opE_skip rfl
        case o6x10 => exact fun _ _ _ _ => opE_skip rfl
        case o7x10 => exact fun _ _ _ _ => opE_skip rfl
        case o8x10 => exact fun _ _ _ _ => opE_skip rfl
        case o9x10 => exact fun _ _ _ _ => opE_skip rfl
        case o10x10 => exact fun _ _ _ _ => opE_skip rfl
        case o11x10 => exact fun _ _ _ _ => opE_skip rfl
        case o12x10 => exact fun _ _ _ _ => opE_skip rfl
        case o13x10 => exact fun _ _ _ _ => opE_skip rfl
        case o14x10 => exact fun _ _ _ _ => opE_skip rfl
        case o15x10 => exact fun _ _ _ _ => opE_skip rfl
        case o16x10 => exact fun _ _ _ _ => opE_skip rfl
        case o17x10 => exact fun _ _ _ _ => opE_skip rfl
        case o18x10 => exact fun _ _ _ _ => opE_skip rfl
        intro ptrs w8 GD hxE
        simp only [List.drop_succ_cons, List.drop_zero]
        replace HQ := HQ.gro ((Gro.refl _).drew.trans GD)
        replace HD := HD.gro ((Gro.refl _).drew.trans GD)
        replace GG := GG.drew.trans GD
        clear GD
        refine s_val 101 rfl rfl (.bool true) (rfl) ?_
        refine nr ?_; intro U h; simp only [z0, z1] at h; subst h
        refine s_val 2 rfl rfl (.bool true) (rfl) ?_
        refine nr ?_; intro U h; simp only [z0, z1] at h; subst h
        refine wpList_nil ?_
        refine then_n ?_
        refine wp_ret ?_
        refine bodyPost_ret (results_tmp Try.results3 _ _ _) rfl ?_
        exact ⟨rfl, GG⟩
      · skip
        have hcl := (hld_ok top_256 (s := ([], 0)) (HG.bytes HD.byte) (fun _ h => by (cases h)) (Nat.zero_le _) hN).2.1
        rcases Nat.lt_or_ge c 1048576 with hc | hc
        · skip
          obtain ⟨err, L2, pw2, h2, dw2, rs2, HO, SA, SB⟩ := append_ab 600 L (-1) h false rs (begV (c + 1)) HG ok_m1 (by omega) (by decide)
          rcases HO.res with ⟨rfl, hrs⟩ | ⟨he1, hrs⟩
          · clear hrs
            refine wp_region_lit ?_
            refine s_val 52 rfl rfl (.pointer (some ⟨p, 0, none⟩)) (rfl) ?_
            refine nr ?_; intro U h; simp only [z0, z1] at h; subst h
            refine s_callx 53 rfl rfl _ 13 Try.call13 rfl rfl _ rfl [.pointer (some ⟨p, 0, none⟩)] rfl ((vopen_go (p :: sg :: rp :: blk ro) _ p sg 600 L (-1) 0 HD (by decide) h rs HG (by omega) hU0 (by simp) (by simp) Lx c hN hc 0 L2 pw2 h2 dw2 rs2 HO SA (by decide) (by decide)).mono fun e w' h => h.yes) (by rintro _ _ ⟨_, _, _, _, _, he, _, _, _, _, _, _, _, _⟩; exact ⟨_, he⟩) ?_
            rintro v w5 ⟨vp, lp, mb, M, dn1, he, G, HV, hM, hv1, hv2, hv3, hd5, hd6⟩
            cases he
            replace HQ := HQ.keepD HD G
            replace GG := G.gro GG (fun k hk => by simp only [List.mem_cons, List.not_mem_nil, or_false] at hk; omega)
            clear HD HM G
            refine nr ?_; intro U h; simp only [z0, z1] at h; subst h
            refine s_val 51 rfl rfl (.tuple #[.pointer (some ⟨vp, 0, none⟩), .int .i64 0]) (rfl) ?_
            refine nr ?_; intro U h; simp only [z0, z1] at h; subst h
            refine s_val 54 rfl rfl (.pointer (some ⟨vp, 0, none⟩)) (rfl) ?_
            refine nr ?_; intro U h; simp only [z0, z1] at h; subst h
            refine s_val 55 rfl rfl (.int .i64 0) (rfl) ?_
            refine nr ?_; intro U h; simp only [z0, z1] at h; subst h
            refine s_val 11 rfl rfl (.pointer (some ⟨vp, 0, none⟩)) (rfl) ?_
            refine nr ?_; intro U h; simp only [z0, z1] at h; subst h
            refine s_val 12 rfl rfl (.int .i64 0) (rfl) ?_
            refine nr ?_; intro U h; simp only [z0, z1] at h; subst h
            refine wpList_nil ?_
            refine then_n ?_
            refine wp_seq ?_
            refine wp_region_lit ?_
            refine s_val 57 rfl rfl (.pointer (some ⟨rp, 0, none⟩)) (rfl) ?_
            refine nr ?_; intro U h; simp only [z0, z1] at h; subst h
            refine s_callx 58 rfl rfl _ 14 Try.call14 rfl rfl _ rfl [.pointer (some ⟨rp, 0, none⟩)] rfl ((rvopen_go _ rp _ ro rc 600 L (-1) dn HQ (by decide) h rs HG (by omega) Lx c hN hc 0 L2 pw2 h2 dw2 rs2 HO SB (by omega) (by omega)).mono fun e w' h => h.yes) (by rintro _ _ ⟨_, _, _, _, _, _, he, _, _, _, _, _, _, _⟩; exact ⟨_, he⟩) ?_
            rintro v w6 ⟨vq, mp2, ao5, cap5, R, dn7, he, G, HVD, hR, hvq, hmp2, hd7, hd8⟩
            cases he
            replace HV := HV.keepQ HQ G (fun k hk => by simp [hk])
            replace GG := G.gro GG hgeq
            clear HQ G
            have HQ := HVD.dsk
            refine nr ?_; intro U h; simp only [z0, z1] at h; subst h
            refine s_val 56 rfl rfl (.tuple #[.pointer (some ⟨vq, 0, none⟩), .int .i64 0]) (rfl) ?_
            refine nr ?_; intro U h; simp only [z0, z1] at h; subst h
            refine s_val 59 rfl rfl (.pointer (some ⟨vq, 0, none⟩)) (rfl) ?_
            refine nr ?_; intro U h; simp only [z0, z1] at h; subst h
            refine s_val 60 rfl rfl (.int .i64 0) (rfl) ?_
            refine nr ?_; intro U h; simp only [z0, z1] at h; subst h
            refine s_val 13 rfl rfl (.pointer (some ⟨vq, 0, none⟩)) (rfl) ?_
            refine nr ?_; intro U h; simp only [z0, z1] at h; subst h
            refine s_val 14 rfl rfl (.int .i64 0) (rfl) ?_
            refine nr ?_; intro U h; simp only [z0, z1] at h; subst h
            refine wpList_nil ?_
            refine then_n ?_
            refine wp_seq ?_
            refine wp_seq ?_
            refine wp_region_exA (A := ?Ax11) 20 [(0, 61), (1, 62), (2, 63), (3, 64), (4, 65), (5, 66), (6, 67), (7, 68), (8, 69), (9, 70), (10, 71), (11, 72), (12, 73), (13, 74), (14, 75), (15, 76), (16, 77), (17, 78), (18, 79), (19, 80)] [.val (.int .i64 0), .val (.int .i64 0), .val (.bool false), .val (.bool false), .val (.pointer (some ⟨vp, 0, none⟩)), .val (.bool false), .val (.pointer (some ⟨vq, 0, none⟩)), .val (.bool false), .val (.bool false), .val (.bool false), .val (.bool false), .val (.pointer (some ⟨p, 0, none⟩)), bytE w6.heap.size L2, .val (.string (bas L2)), .val (.pointer (some ⟨rp, 0, none⟩)), .val (.pointer (some ⟨rp, 0, none⟩)), .val (.pointer (some ⟨rp, 0, none⟩)), .val (.slice ro (600 * 64) rc), .val (.string (bas L2)), .val (.bool false)] follows (by kernel_rfl) rfl ?hAx11 (opsA_cons ?o0x11 (opsA_cons ?o1x11 (opsA_cons ?o2x11 (opsA_cons ?o3x11 (opsA_cons ?o4x11 (opsA_cons ?o5x11 (opsA_cons ?o6x11 (opsA_cons ?o7x11 (opsA_cons ?o8x11 (opsA_cons ?o9x11 (opsA_cons ?o10x11 (opsA_cons ?o11x11 (opsA_cons ?o12x11 (opsA_cons ?o13x11 (opsA_cons ?o14x11 (opsA_cons ?o15x11 (opsA_cons ?o16x11 (opsA_cons ?o17x11 (opsA_cons ?o18x11 (opsA_cons ?o19x11 opsA_nil)))))))))))))))))))) ?restx11
            case hAx11 =>
              intro ptrs
              simp only [full, foldSlots, filledE, postE, List.foldl_cons, List.foldl_nil, List.getD_cons_zero, List.getD_cons_succ, fill_val, fill_bytE, List.set_cons_zero, List.set_cons_succ]
              exact rfl
            case o0x11 => exact fun _ _ _ _ => opE_move (v := .int .i64 0) _ rfl rfl rfl
            case o1x11 => exact fun _ _ _ _ => opE_move (v := .int .i64 0) _ rfl rfl rfl
            case o2x11 => exact fun _ _ _ _ => opE_value (v := .bool false) rfl (run_neq_k 26 .i64 _ _ _ rfl Try.underlying26 0 0 rfl rfl false (decide_eq_true rfl) _)
            case o3x11 => exact fun _ _ _ _ => opE_move (v := .bool false) _ rfl rfl rfl
            case o4x11 => exact fun _ _ _ _ => opE_move (v := .pointer (some ⟨vp, 0, none⟩)) _ rfl rfl rfl
            case o5x11 => exact fun _ _ _ _ => opE_value (v := .bool false) rfl (run_eqnp 37 _ _ _ rfl _ rfl rfl Try.underlying37 _)
            case o6x11 => exact fun _ _ _ _ => opE_move (v := .pointer (some ⟨vq, 0, none⟩)) _ rfl rfl rfl
            case o7x11 => exact fun _ _ _ _ => opE_value (v := .bool false) rfl (run_eqnp 40 _ _ _ rfl _ rfl rfl Try.underlying40 _)
            case o8x11 => exact fun _ _ _ _ => opE_value (v := .bool false) rfl (run_neB 4 _ _ _ rfl false false rfl rfl Try.underlying4 false (by decide) _)
            case o9x11 => exact fun _ _ _ _ => opE_pick (v := .bool false) _ _ _ rfl rfl false rfl rfl
            case o10x11 => exact fun _ _ _ _ => opE_move (v := .bool false) _ rfl rfl rfl
            case o11x11 => exact fun _ _ _ _ => opE_move (v := .pointer (some ⟨p, 0, none⟩)) _ rfl rfl rfl
            case o12x11 =>
              intro ptrs w' hw hE
              exact opE_call (bytE w6.heap.size L2) rfl _ 15 Try.call15 rfl rfl _ rfl [.pointer (some ⟨p, 0, none⟩)] rfl ((bytes_ob _ p sg 600 L2 _ _ (HV.dsk.gro ((Gro.refl _).drew.trans hw))).mono fun e w' ⟨ao, cap, he, hg, ho⟩ => ⟨_, he, hg, ao, cap, rfl, ho.mono hw.size⟩)
            case o13x11 =>
              intro ptrs w' hw hE
              obtain ⟨⟨ao12, cap12, h12, o12⟩, _⟩ := hE
              exact opE_value (v := .string (bas L2)) rfl (run_text_op bT 9 rfl _ rfl (by exact h12) o12.nc)
            case o14x11 => exact fun _ _ _ _ => opE_move (v := .pointer (some ⟨rp, 0, none⟩)) _ rfl rfl rfl
            case o15x11 => exact fun _ _ _ _ => opE_value (v := .pointer (some ⟨rp, 0, none⟩)) rfl (run_nc _ rfl _ rfl)
            case o16x11 => exact fun _ _ _ _ => opE_value (v := .pointer (some ⟨rp, 0, none⟩)) rfl (run_fld 36 _ 0 rfl rp 0 rfl 0 (by kernel_rfl))
            case o17x11 => exact fun _ _ hw _ => opE_value (v := .slice ro (600 * 64) rc) rfl (ldQr (HQ.gro ((Gro.refl _).drew.trans hw)) _ rfl rfl)
            case o18x11 => exact fun _ _ hw _ => opE_value (v := .string (bas L2)) rfl (run_text_op bT 9 rfl _ rfl (by rw [(HQ.gro ((Gro.refl _).drew.trans hw)).len]; rfl) (HQ.gro ((Gro.refl _).drew.trans hw)).row.nc)
            case o19x11 => exact fun _ _ _ _ => opE_value (v := .bool false) rfl (run_nes_op _ _ _ rfl _ _ rfl rfl false (decide_eq_true rfl) _)
            intro ptrs w7 GD hxE
            simp only [List.drop_succ_cons, List.drop_zero]
            replace HV := HV.gro ((Gro.refl _).drew.trans GD)
            replace HVD := HVD.gro ((Gro.refl _).drew.trans GD)
            replace HQ := HQ.gro ((Gro.refl _).drew.trans GD)
            replace GG := GG.drew.trans GD
            obtain ⟨_, _⟩ := hxE
            clear GD
            refine s_val 81 rfl rfl (.bool false) (rfl) ?_
            refine nr ?_; intro U h; simp only [z0, z1] at h; subst h
            refine wpList_nil ?_
            refine then_n ?_
            refine wp_cond_false rfl ?_
            refine wp_skip ?_
            refine then_n ?_
            refine wp_seq ?_
            have hSK : SKv Lx := hld_SK (s := ([], 0)) SKv.nil hN
            have hfew := HG.few (by decide) hN
            refine wp_region_exA (A := ?Ax12) 19 [(0, 82), (1, 83), (2, 84), (3, 85), (4, 86), (5, 87), (6, 88), (7, 89), (8, 90), (9, 91), (10, 92), (11, 93), (12, 94), (13, 95), (14, 96), (15, 97), (16, 98), (17, 99), (18, 100)] [.val (.pointer (some ⟨vp, 0, none⟩)), .val (.bool false), .val (.bool false), .val (.pointer (some ⟨vp, 0, none⟩)), itsE w7.heap.size Lx, .val (.pointer (some ⟨vq, 0, none⟩)), .val (.pointer (some ⟨vq, 0, none⟩)), .val (.pointer (some ⟨vq, 1, none⟩)), .val (.slice ao5 R.length cap5), .val (.bool true), .val (.bool true), .val (.pointer (some ⟨vp, 0, none⟩)), .val (.int .i64 ((c + 1 : Nat) : Int)), .val (.pointer (some ⟨vq, 0, none⟩)), .val (.pointer (some ⟨vq, 0, none⟩)), .val (.pointer (some ⟨vq, 2, none⟩)), .val (.int .i64 ((c + 1 : Nat) : Int)), .val (.bool true), .val (.bool true)] follows (by kernel_rfl) rfl ?hAx12 (opsA_cons ?o0x12 (opsA_cons ?o1x12 (opsA_cons ?o2x12 (opsA_cons ?o3x12 (opsA_cons ?o4x12 (opsA_cons ?o5x12 (opsA_cons ?o6x12 (opsA_cons ?o7x12 (opsA_cons ?o8x12 (opsA_cons ?o9x12 (opsA_cons ?o10x12 (opsA_cons ?o11x12 (opsA_cons ?o12x12 (opsA_cons ?o13x12 (opsA_cons ?o14x12 (opsA_cons ?o15x12 (opsA_cons ?o16x12 (opsA_cons ?o17x12 (opsA_cons ?o18x12 opsA_nil))))))))))))))))))) ?restx12
            case hAx12 =>
              intro ptrs
              simp only [full, foldSlots, filledE, postE, List.foldl_cons, List.foldl_nil, List.getD_cons_zero, List.getD_cons_succ, fill_val, fill_itsE, List.set_cons_zero, List.set_cons_succ]
              exact rfl
            case o0x12 => exact fun _ _ _ _ => opE_move (v := .pointer (some ⟨vp, 0, none⟩)) _ rfl rfl rfl
            case o1x12 => exact fun _ _ _ _ => opE_value (v := .bool false) rfl (run_eqnp 37 _ _ _ rfl _ rfl rfl Try.underlying37 _)
            case o2x12 => exact fun _ _ _ _ => opE_move (v := .bool false) _ rfl rfl rfl
            case o3x12 => exact fun _ _ _ _ => opE_move (v := .pointer (some ⟨vp, 0, none⟩)) _ rfl rfl rfl
            case o4x12 =>
              intro ptrs w' hw hE
              exact opE_call (itsE w7.heap.size Lx) rfl _ 17 Try.call17 rfl rfl _ rfl [.pointer (some ⟨vp, 0, none⟩)] rfl ((all_any _ _ vp lp p sg mb 600 L2 _ _ h2 false _ M (HV.gro ((Gro.refl _).drew.trans hw)) Lx hM hSK hfew).mono fun e w' ⟨ao, cap, Z, he, hg, ho, hb, _, hZ⟩ => ⟨_, he, hg, ao, cap, Z, rfl, ho.mono hw.size, hb.mono hw.size, hZ⟩)
            case o5x12 => exact fun _ _ _ _ => opE_move (v := .pointer (some ⟨vq, 0, none⟩)) _ rfl rfl rfl
            case o6x12 => exact fun _ _ _ _ => opE_value (v := .pointer (some ⟨vq, 0, none⟩)) rfl (run_nc _ rfl _ rfl)
            case o7x12 => exact fun _ _ _ _ => opE_value (v := .pointer (some ⟨vq, 1, none⟩)) rfl (run_fld 48 _ 1 rfl vq 0 rfl 1 (by kernel_rfl))
            case o8x12 => exact fun _ _ hw _ => opE_value (v := .slice ao5 R.length cap5) rfl (ldRvr _ rfl vq rfl (hw.has HVD.box))
            case o9x12 =>
              intro ptrs w' hw hE
              obtain ⟨⟨ao4, cap4, Z4, h4, o4, b4, e4⟩, _, _⟩ := hE
              exact opE_call (.val (.bool true)) rfl _ 16 Try.call16 rfl rfl _ rfl [.slice ao4 Z4.length cap4, .slice ao5 R.length cap5] (congrArg (fun a => [a, Value.slice ao5 R.length cap5]) h4) ((same_any _ ao4 ao5 cap4 cap5 Z4 R o4.re (HVD.row.gro ((Gro.refl _).drew.trans hw)).re b4.nc (HVD.byt.gro ((Gro.refl _).drew.trans hw)).nc (by have := congrArg List.length e4; rw [List.length_map] at this; omega) true (fun _ => rfl) (fun hn => absurd (sames_of e4 hR HVD.n0) hn)).mono fun e w' ⟨he, hg⟩ => ⟨_, he, hg, rfl⟩)
            case o10x12 => exact fun _ _ _ _ => opE_move (v := .bool true) _ rfl rfl rfl
            case o11x12 => exact fun _ _ _ _ => opE_move (v := .pointer (some ⟨vp, 0, none⟩)) _ rfl rfl rfl
            case o12x12 =>
              intro ptrs w' hw hE
              exact opE_call (.val (.int .i64 ((c + 1 : Nat) : Int))) rfl _ 18 Try.call18 rfl rfl _ rfl [.pointer (some ⟨vp, 0, none⟩)] rfl ((inc_any _ vp lp mb _ ((HV).gro ((Gro.refl _).drew.trans hw)).vb.box).mono fun e w' ⟨he, hg⟩ => ⟨_, he, hg, rfl⟩)
            case o13x12 => exact fun _ _ _ _ => opE_move (v := .pointer (some ⟨vq, 0, none⟩)) _ rfl rfl rfl
            case o14x12 => exact fun _ _ _ _ => opE_value (v := .pointer (some ⟨vq, 0, none⟩)) rfl (run_nc _ rfl _ rfl)
            case o15x12 => exact fun _ _ _ _ => opE_value (v := .pointer (some ⟨vq, 2, none⟩)) rfl (run_fld 48 _ 2 rfl vq 0 rfl 2 (by kernel_rfl))
            case o16x12 => exact fun _ _ hw _ => opE_value (v := .int .i64 ((c + 1 : Nat) : Int)) rfl (ldRvi _ rfl vq rfl (hw.has HVD.box))
            case o17x12 => exact fun _ _ _ _ => opE_value (v := .bool true) rfl (run_eq_k 2 .i64 _ _ _ rfl Try.underlying2 ((c + 1 : Nat) : Int) ((c + 1 : Nat) : Int) rfl rfl true (decide_eq_true rfl) _)
            case o18x12 => exact fun _ _ _ _ => opE_pick (v := .bool true) _ _ _ rfl rfl true rfl rfl
            intro ptrs w8 GD hxE
            simp only [List.drop_succ_cons, List.drop_zero]
            replace HV := HV.gro ((Gro.refl _).drew.trans GD)
            replace HVD := HVD.gro ((Gro.refl _).drew.trans GD)
            replace HQ := HQ.gro ((Gro.refl _).drew.trans GD)
            replace GG := GG.drew.trans GD
            obtain ⟨_, _⟩ := hxE
            clear GD
            refine s_val 101 rfl rfl (.bool true) (rfl) ?_
            refine nr ?_; intro U h; simp only [z0, z1] at h; subst h
            refine s_val 2 rfl rfl (.bool true) (rfl) ?_
            refine nr ?_; intro U h; simp only [z0, z1] at h; subst h
            refine wpList_nil ?_
            refine then_n ?_
            refine wp_ret ?_
            refine bodyPost_ret (results_tmp Try.results3 _ _ _) rfl ?_
            exact ⟨rfl, GG⟩
          · clear hrs
            refine wp_region_lit ?_
            refine s_val 52 rfl rfl (.pointer (some ⟨p, 0, none⟩)) (rfl) ?_
            refine nr ?_; intro U h; simp only [z0, z1] at h; subst h
            refine s_callx 53 rfl rfl _ 13 Try.call13 rfl rfl _ rfl [.pointer (some ⟨p, 0, none⟩)] rfl ((vopen_go (p :: sg :: rp :: blk ro) _ p sg 600 L (-1) 0 HD (by decide) h rs HG (by omega) hU0 (by simp) (by simp) Lx c hN hc err L2 pw2 h2 dw2 rs2 HO SA (by decide) (by decide)).mono fun e w' h => h.no he1) (by rintro _ _ ⟨_, he, _, _, _, _⟩; exact ⟨_, he⟩) ?_
            rintro v w5 ⟨dn1, he, G, HD2, hd5, hd6⟩
            cases he
            replace HQ := HQ.keepD HD G
            replace GG := G.gro GG (fun k hk => by simp only [List.mem_cons, List.not_mem_nil, or_false] at hk; omega)
            clear HD HM G
            have HD := HD2
            clear HD2
            refine nr ?_; intro U h; simp only [z0, z1] at h; subst h
            refine s_val 51 rfl rfl (.tuple #[.pointer none, .int .i64 err]) (rfl) ?_
            refine nr ?_; intro U h; simp only [z0, z1] at h; subst h
            refine s_val 54 rfl rfl (.pointer none) (rfl) ?_
            refine nr ?_; intro U h; simp only [z0, z1] at h; subst h
            refine s_val 55 rfl rfl (.int .i64 err) (rfl) ?_
            refine nr ?_; intro U h; simp only [z0, z1] at h; subst h
            refine s_val 11 rfl rfl (.pointer none) (rfl) ?_
            refine nr ?_; intro U h; simp only [z0, z1] at h; subst h
            refine s_val 12 rfl rfl (.int .i64 err) (rfl) ?_
            refine nr ?_; intro U h; simp only [z0, z1] at h; subst h
            refine wpList_nil ?_
            refine then_n ?_
            refine wp_seq ?_
            refine wp_region_lit ?_
            refine s_val 57 rfl rfl (.pointer (some ⟨rp, 0, none⟩)) (rfl) ?_
            refine nr ?_; intro U h; simp only [z0, z1] at h; subst h
            refine s_callx 58 rfl rfl _ 14 Try.call14 rfl rfl _ rfl [.pointer (some ⟨rp, 0, none⟩)] rfl ((rvopen_go _ rp _ ro rc 600 L (-1) dn HQ (by decide) h rs HG (by omega) Lx c hN hc err L2 pw2 h2 dw2 rs2 HO SB (by omega) (by omega)).mono fun e w' h => h.no he1) (by rintro _ _ ⟨_, he, _, _, _, _⟩; exact ⟨_, he⟩) ?_
            rintro v w6 ⟨dn7, he, G, HQ2, hd7, hd8⟩
            cases he
            replace HD := HD.keepQ HQ G
            replace GG := G.gro GG hgeq
            clear HQ G
            have HQ := HQ2
            clear HQ2
            refine nr ?_; intro U h; simp only [z0, z1] at h; subst h
            refine s_val 56 rfl rfl (.tuple #[.pointer none, .int .i64 err]) (rfl) ?_
            refine nr ?_; intro U h; simp only [z0, z1] at h; subst h
            refine s_val 59 rfl rfl (.pointer none) (rfl) ?_
            refine nr ?_; intro U h; simp only [z0, z1] at h; subst h
            refine s_val 60 rfl rfl (.int .i64 err) (rfl) ?_
            refine nr ?_; intro U h; simp only [z0, z1] at h; subst h
            refine s_val 13 rfl rfl (.pointer none) (rfl) ?_
            refine nr ?_; intro U h; simp only [z0, z1] at h; subst h
            refine s_val 14 rfl rfl (.int .i64 err) (rfl) ?_
            refine nr ?_; intro U h; simp only [z0, z1] at h; subst h
            refine wpList_nil ?_
            refine then_n ?_
            refine wp_seq ?_
            refine wp_seq ?_
            refine wp_region_exA (A := ?Ax13) 20 [(0, 61), (1, 62), (2, 63), (3, 64), (4, 65), (5, 66), (6, 67), (7, 68), (8, 69), (9, 70), (10, 71), (11, 72), (12, 73), (13, 74), (14, 75), (15, 76), (16, 77), (17, 78), (18, 79), (19, 80)] [.val (.int .i64 err), .val (.int .i64 err), .val (.bool false), .val (.bool false), .val (.pointer none), .val (.bool true), .val (.pointer none), .val (.bool true), .val (.bool false), .val (.bool false), .val (.bool false), .val (.pointer (some ⟨p, 0, none⟩)), bytE w6.heap.size L2, .val (.string (bas L2)), .val (.pointer (some ⟨rp, 0, none⟩)), .val (.pointer (some ⟨rp, 0, none⟩)), .val (.pointer (some ⟨rp, 0, none⟩)), .val (.slice ro (600 * 64) rc), .val (.string (bas L2)), .val (.bool false)] follows (by kernel_rfl) rfl ?hAx13 (opsA_cons ?o0x13 (opsA_cons ?o1x13 (opsA_cons ?o2x13 (opsA_cons ?o3x13 (opsA_cons ?o4x13 (opsA_cons ?o5x13 (opsA_cons ?o6x13 (opsA_cons ?o7x13 (opsA_cons ?o8x13 (opsA_cons ?o9x13 (opsA_cons ?o10x13 (opsA_cons ?o11x13 (opsA_cons ?o12x13 (opsA_cons ?o13x13 (opsA_cons ?o14x13 (opsA_cons ?o15x13 (opsA_cons ?o16x13 (opsA_cons ?o17x13 (opsA_cons ?o18x13 (opsA_cons ?o19x13 opsA_nil)))))))))))))))))))) ?restx13
            case hAx13 =>
              intro ptrs
              simp only [full, foldSlots, filledE, postE, List.foldl_cons, List.foldl_nil, List.getD_cons_zero, List.getD_cons_succ, fill_val, fill_bytE, List.set_cons_zero, List.set_cons_succ]
              exact rfl
            case o0x13 => exact fun _ _ _ _ => opE_move (v := .int .i64 err) _ rfl rfl rfl
            case o1x13 => exact fun _ _ _ _ => opE_move (v := .int .i64 err) _ rfl rfl rfl
            case o2x13 => exact fun _ _ _ _ => opE_value (v := .bool false) rfl (run_neq_k 26 .i64 _ _ _ rfl Try.underlying26 err err rfl rfl false (decide_eq_true rfl) _)
            case o3x13 => exact fun _ _ _ _ => opE_move (v := .bool false) _ rfl rfl rfl
            case o4x13 => exact fun _ _ _ _ => opE_move (v := .pointer none) _ rfl rfl rfl
            case o5x13 => exact fun _ _ _ _ => opE_value (v := .bool true) rfl (run_eqnn 37 _ _ _ rfl rfl rfl Try.underlying37 _)
            case o6x13 => exact fun _ _ _ _ => opE_move (v := .pointer none) _ rfl rfl rfl
            case o7x13 => exact fun _ _ _ _ => opE_value (v := .bool true) rfl (run_eqnn 40 _ _ _ rfl rfl rfl Try.underlying40 _)
            case o8x13 => exact fun _ _ _ _ => opE_value (v := .bool false) rfl (run_neB 4 _ _ _ rfl true true rfl rfl Try.underlying4 false (by decide) _)
            case o9x13 => exact fun _ _ _ _ => opE_pick (v := .bool false) _ _ _ rfl rfl false rfl rfl
            case o10x13 => exact fun _ _ _ _ => opE_move (v := .bool false) _ rfl rfl rfl
            case o11x13 => exact fun _ _ _ _ => opE_move (v := .pointer (some ⟨p, 0, none⟩)) _ rfl rfl rfl
            case o12x13 =>
              intro ptrs w' hw hE
              exact opE_call (bytE w6.heap.size L2) rfl _ 15 Try.call15 rfl rfl _ rfl [.pointer (some ⟨p, 0, none⟩)] rfl ((bytes_ob _ p sg 600 L2 _ _ (HD.gro ((Gro.refl _).drew.trans hw))).mono fun e w' ⟨ao, cap, he, hg, ho⟩ => ⟨_, he, hg, ao, cap, rfl, ho.mono hw.size⟩)
            case o13x13 =>
              intro ptrs w' hw hE
              obtain ⟨⟨ao12, cap12, h12, o12⟩, _⟩ := hE
              exact opE_value (v := .string (bas L2)) rfl (run_text_op bT 9 rfl _ rfl (by exact h12) o12.nc)
            case o14x13 => exact fun _ _ _ _ => opE_move (v := .pointer (some ⟨rp, 0, none⟩)) _ rfl rfl rfl
            case o15x13 => exact fun _ _ _ _ => opE_value (v := .pointer (some ⟨rp, 0, none⟩)) rfl (run_nc _ rfl _ rfl)
            case o16x13 => exact fun _ _ _ _ => opE_value (v := .pointer (some ⟨rp, 0, none⟩)) rfl (run_fld 36 _ 0 rfl rp 0 rfl 0 (by kernel_rfl))
            case o17x13 => exact fun _ _ hw _ => opE_value (v := .slice ro (600 * 64) rc) rfl (ldQr (HQ.gro ((Gro.refl _).drew.trans hw)) _ rfl rfl)
            case o18x13 => exact fun _ _ hw _ => opE_value (v := .string (bas L2)) rfl (run_text_op bT 9 rfl _ rfl (by rw [(HQ.gro ((Gro.refl _).drew.trans hw)).len]; rfl) (HQ.gro ((Gro.refl _).drew.trans hw)).row.nc)
            case o19x13 => exact fun _ _ _ _ => opE_value (v := .bool false) rfl (run_nes_op _ _ _ rfl _ _ rfl rfl false (decide_eq_true rfl) _)
            intro ptrs w7 GD hxE
            simp only [List.drop_succ_cons, List.drop_zero]
            replace HD := HD.gro ((Gro.refl _).drew.trans GD)
            replace HQ := HQ.gro ((Gro.refl _).drew.trans GD)
            replace GG := GG.drew.trans GD
            obtain ⟨_, _⟩ := hxE
            clear GD
            refine s_val 81 rfl rfl (.bool false) (rfl) ?_
            refine nr ?_; intro U h; simp only [z0, z1] at h; subst h
            refine wpList_nil ?_
            refine then_n ?_
            refine wp_cond_false rfl ?_
            refine wp_skip ?_
            refine then_n ?_
            refine wp_seq ?_
            refine wp_region_exA (A := ?Ax14) 19 [(0, 82), (1, 83), (2, 84), (3, 85), (4, 86), (5, 87), (6, 88), (7, 89), (8, 90), (9, 91), (10, 92), (11, 93), (12, 94), (13, 95), (14, 96), (15, 97), (16, 98), (17, 99), (18, 100)] [.val (.pointer none), .val (.bool true), .val (.bool true), .val undef, .val undef, .val undef, .val undef, .val undef, .val undef, .val undef, .val undef, .val undef, .val undef, .val undef, .val undef, .val undef, .val undef, .val undef, .val undef] follows (by kernel_rfl) rfl ?hAx14 (opsA_cons ?o0x14 (opsA_cons ?o1x14 (opsA_cons ?o2x14 (opsA_cons ?o3x14 (opsA_cons ?o4x14 (opsA_cons ?o5x14 (opsA_cons ?o6x14 (opsA_cons ?o7x14 (opsA_cons ?o8x14 (opsA_cons ?o9x14 (opsA_cons ?o10x14 (opsA_cons ?o11x14 (opsA_cons ?o12x14 (opsA_cons ?o13x14 (opsA_cons ?o14x14 (opsA_cons ?o15x14 (opsA_cons ?o16x14 (opsA_cons ?o17x14 (opsA_cons ?o18x14 opsA_nil))))))))))))))))))) ?restx14
            case hAx14 =>
              intro ptrs
              simp only [full, foldSlots, filledE, postE, List.foldl_cons, List.foldl_nil, List.getD_cons_zero, List.getD_cons_succ, fill_val, List.set_cons_zero, List.set_cons_succ]
              exact rfl
            case o0x14 => exact fun _ _ _ _ => opE_move (v := .pointer none) _ rfl rfl rfl
            case o1x14 => exact fun _ _ _ _ => opE_value (v := .bool true) rfl (run_eqnn 37 _ _ _ rfl rfl rfl Try.underlying37 _)
            case o2x14 => exact fun _ _ _ _ => opE_move (v := .bool true) _ rfl rfl rfl
            case o3x14 => exact fun _ _ _ _ => opE_skip rfl
            case o4x14 => exact fun _ _ _ _ => opE_skip rfl
            case o5x14 => exact fun _ _ _ _ => opE_skip rfl
            case o6x14 => exact fun _ _ _ _ => opE_skip rfl
            case o7x14 => exact fun _ _ _ _ => opE_skip rfl
            case o8x14 => exact fun _ _ _ _ => opE_skip rfl
            case o9x14 => exact fun _ _ _ _ => opE_skip rfl
            case o10x14 => exact fun _ _ _ _ => opE_skip rfl
            case o11x14 => exact fun _ _ _ _ => opE_skip rfl
            case o12x14 => exact fun _ _ _ _ => opE_skip rfl
            case o13x14 => exact fun _ _ _ _ => opE_skip rfl
            case o14x14 => exact fun _ _ _ _ => opE_skip rfl
            case o15x14 => exact fun _ _ _ _ => opE_skip rfl
            case o16x14 => exact fun _ _ _ _ => opE_skip rfl
            case o17x14 => exact fun _ _ _ _ => opE_skip rfl
            case o18x14 => exact fun _ _ _ _ => opE_skip rfl
            intro ptrs w8 GD hxE
            simp only [List.drop_succ_cons, List.drop_zero]
            replace HD := HD.gro ((Gro.refl _).drew.trans GD)
            replace HQ := HQ.gro ((Gro.refl _).drew.trans GD)
            replace GG := GG.drew.trans GD
            clear GD
            refine s_val 101 rfl rfl (.bool true) (rfl) ?_
            refine nr ?_; intro U h; simp only [z0, z1] at h; subst h
            refine s_val 2 rfl rfl (.bool true) (rfl) ?_
            refine nr ?_; intro U h; simp only [z0, z1] at h; subst h
            refine wpList_nil ?_
            refine then_n ?_
            refine wp_ret ?_
            refine bodyPost_ret (results_tmp Try.results3 _ _ _) rfl ?_
            exact ⟨rfl, GG⟩
        · have hc2 : c = 1048576 := by simp only at hcl; omega
          refine wp_region_lit ?_
          refine s_val 52 rfl rfl (.pointer (some ⟨p, 0, none⟩)) (rfl) ?_
          refine nr ?_; intro U h; simp only [z0, z1] at h; subst h
          refine s_callx 53 rfl rfl _ 13 Try.call13 rfl rfl _ rfl [.pointer (some ⟨p, 0, none⟩)] rfl (vopen_fullD (p :: sg :: rp :: blk ro) _ p sg 600 L (-1) 0 HD (by decide) h rs HG (by omega) hU0 Lx c hN hc2) (by rintro _ _ ⟨he, _, _⟩; exact ⟨_, he⟩) ?_
          rintro v w5 ⟨he, G, HD2⟩
          cases he
          replace HQ := HQ.keepD HD G
          replace GG := G.gro GG (fun k hk => by simp only [List.mem_cons, List.not_mem_nil, or_false] at hk; omega)
          clear HD HM G
          have HD := HD2
          clear HD2
          refine nr ?_; intro U h; simp only [z0, z1] at h; subst h
          refine s_val 51 rfl rfl (.tuple #[.pointer none, .int .i64 5]) (rfl) ?_
          refine nr ?_; intro U h; simp only [z0, z1] at h; subst h
          refine s_val 54 rfl rfl (.pointer none) (rfl) ?_
          refine nr ?_; intro U h; simp only [z0, z1] at h; subst h
          refine s_val 55 rfl rfl (.int .i64 5) (rfl) ?_
          refine nr ?_; intro U h; simp only [z0, z1] at h; subst h
          refine s_val 11 rfl rfl (.pointer none) (rfl) ?_
          refine nr ?_; intro U h; simp only [z0, z1] at h; subst h
          refine s_val 12 rfl rfl (.int .i64 5) (rfl) ?_
          refine nr ?_; intro U h; simp only [z0, z1] at h; subst h
          refine wpList_nil ?_
          refine then_n ?_
          refine wp_seq ?_
          refine wp_region_lit ?_
          refine s_val 57 rfl rfl (.pointer (some ⟨rp, 0, none⟩)) (rfl) ?_
          refine nr ?_; intro U h; simp only [z0, z1] at h; subst h
          refine s_callv 58 rfl rfl _ 14 Try.call14 rfl rfl _ rfl [.pointer (some ⟨rp, 0, none⟩)] rfl (rvopen_full _ rp _ ro rc 600 L (-1) dn HQ (by decide) h rs HG (by omega) Lx c hN hc2) ?_
          intro w6 G
          replace HQ := HQ.gro G
          replace HD := HD.gro G
          replace GG := GG.trans G
          clear G
          refine nr ?_; intro U h; simp only [z0, z1] at h; subst h
          refine s_val 56 rfl rfl (.tuple #[.pointer none, .int .i64 5]) (rfl) ?_
          refine nr ?_; intro U h; simp only [z0, z1] at h; subst h
          refine s_val 59 rfl rfl (.pointer none) (rfl) ?_
          refine nr ?_; intro U h; simp only [z0, z1] at h; subst h
          refine s_val 60 rfl rfl (.int .i64 5) (rfl) ?_
          refine nr ?_; intro U h; simp only [z0, z1] at h; subst h
          refine s_val 13 rfl rfl (.pointer none) (rfl) ?_
          refine nr ?_; intro U h; simp only [z0, z1] at h; subst h
          refine s_val 14 rfl rfl (.int .i64 5) (rfl) ?_
          refine nr ?_; intro U h; simp only [z0, z1] at h; subst h
          refine wpList_nil ?_
          refine then_n ?_
          refine wp_seq ?_
          refine wp_seq ?_
          refine wp_region_exA (A := ?Ax15) 20 [(0, 61), (1, 62), (2, 63), (3, 64), (4, 65), (5, 66), (6, 67), (7, 68), (8, 69), (9, 70), (10, 71), (11, 72), (12, 73), (13, 74), (14, 75), (15, 76), (16, 77), (17, 78), (18, 79), (19, 80)] [.val (.int .i64 5), .val (.int .i64 5), .val (.bool false), .val (.bool false), .val (.pointer none), .val (.bool true), .val (.pointer none), .val (.bool true), .val (.bool false), .val (.bool false), .val (.bool false), .val (.pointer (some ⟨p, 0, none⟩)), bytE w6.heap.size L, .val (.string (bas L)), .val (.pointer (some ⟨rp, 0, none⟩)), .val (.pointer (some ⟨rp, 0, none⟩)), .val (.pointer (some ⟨rp, 0, none⟩)), .val (.slice ro (600 * 64) rc), .val (.string (bas L)), .val (.bool false)] follows (by kernel_rfl) rfl ?hAx15 (opsA_cons ?o0x15 (opsA_cons ?o1x15 (opsA_cons ?o2x15 (opsA_cons ?o3x15 (opsA_cons ?o4x15 (opsA_cons ?o5x15 (opsA_cons ?o6x15 (opsA_cons ?o7x15 (opsA_cons ?o8x15 (opsA_cons ?o9x15 (opsA_cons ?o10x15 (opsA_cons ?o11x15 (opsA_cons ?o12x15 (opsA_cons ?o13x15 (opsA_cons ?o14x15 (opsA_cons ?o15x15 (opsA_cons ?o16x15 (opsA_cons ?o17x15 (opsA_cons ?o18x15 (opsA_cons ?o19x15 opsA_nil)))))))))))))))))))) ?restx15
          case hAx15 =>
            intro ptrs
            simp only [full, foldSlots, filledE, postE, List.foldl_cons, List.foldl_nil, List.getD_cons_zero, List.getD_cons_succ, fill_val, fill_bytE, List.set_cons_zero, List.set_cons_succ]
            exact rfl
          case o0x15 => exact fun _ _ _ _ => opE_move (v := .int .i64 5) _ rfl rfl rfl
          case o1x15 => exact fun _ _ _ _ => opE_move (v := .int .i64 5) _ rfl rfl rfl
          case o2x15 => exact fun _ _ _ _ => opE_value (v := .bool false) rfl (run_neq_k 26 .i64 _ _ _ rfl Try.underlying26 5 5 rfl rfl false (decide_eq_true rfl) _)
          case o3x15 => exact fun _ _ _ _ => opE_move (v := .bool false) _ rfl rfl rfl
          case o4x15 => exact fun _ _ _ _ => opE_move (v := .pointer none) _ rfl rfl rfl
          case o5x15 => exact fun _ _ _ _ => opE_value (v := .bool true) rfl (run_eqnn 37 _ _ _ rfl rfl rfl Try.underlying37 _)
          case o6x15 => exact fun _ _ _ _ => opE_move (v := .pointer none) _ rfl rfl rfl
          case o7x15 => exact fun _ _ _ _ => opE_value (v := .bool true) rfl (run_eqnn 40 _ _ _ rfl rfl rfl Try.underlying40 _)
          case o8x15 => exact fun _ _ _ _ => opE_value (v := .bool false) rfl (run_neB 4 _ _ _ rfl true true rfl rfl Try.underlying4 false (by decide) _)
          case o9x15 => exact fun _ _ _ _ => opE_pick (v := .bool false) _ _ _ rfl rfl false rfl rfl
          case o10x15 => exact fun _ _ _ _ => opE_move (v := .bool false) _ rfl rfl rfl
          case o11x15 => exact fun _ _ _ _ => opE_move (v := .pointer (some ⟨p, 0, none⟩)) _ rfl rfl rfl
          case o12x15 =>
            intro ptrs w' hw hE
            exact opE_call (bytE w6.heap.size L) rfl _ 15 Try.call15 rfl rfl _ rfl [.pointer (some ⟨p, 0, none⟩)] rfl ((bytes_ob _ p sg 600 L _ _ (HD.gro ((Gro.refl _).drew.trans hw))).mono fun e w' ⟨ao, cap, he, hg, ho⟩ => ⟨_, he, hg, ao, cap, rfl, ho.mono hw.size⟩)
          case o13x15 =>
            intro ptrs w' hw hE
            obtain ⟨⟨ao12, cap12, h12, o12⟩, _⟩ := hE
            exact opE_value (v := .string (bas L)) rfl (run_text_op bT 9 rfl _ rfl (by exact h12) o12.nc)
          case o14x15 => exact fun _ _ _ _ => opE_move (v := .pointer (some ⟨rp, 0, none⟩)) _ rfl rfl rfl
          case o15x15 => exact fun _ _ _ _ => opE_value (v := .pointer (some ⟨rp, 0, none⟩)) rfl (run_nc _ rfl _ rfl)
          case o16x15 => exact fun _ _ _ _ => opE_value (v := .pointer (some ⟨rp, 0, none⟩)) rfl (run_fld 36 _ 0 rfl rp 0 rfl 0 (by kernel_rfl))
          case o17x15 => exact fun _ _ hw _ => opE_value (v := .slice ro (600 * 64) rc) rfl (ldQr (HQ.gro ((Gro.refl _).drew.trans hw)) _ rfl rfl)
          case o18x15 => exact fun _ _ hw _ => opE_value (v := .string (bas L)) rfl (run_text_op bT 9 rfl _ rfl (by rw [(HQ.gro ((Gro.refl _).drew.trans hw)).len]; rfl) (HQ.gro ((Gro.refl _).drew.trans hw)).row.nc)
          case o19x15 => exact fun _ _ _ _ => opE_value (v := .bool false) rfl (run_nes_op _ _ _ rfl _ _ rfl rfl false (decide_eq_true rfl) _)
          intro ptrs w7 GD hxE
          simp only [List.drop_succ_cons, List.drop_zero]
          replace HQ := HQ.gro ((Gro.refl _).drew.trans GD)
          replace HD := HD.gro ((Gro.refl _).drew.trans GD)
          replace GG := GG.drew.trans GD
          obtain ⟨_, _⟩ := hxE
          clear GD
          refine s_val 81 rfl rfl (.bool false) (rfl) ?_
          refine nr ?_; intro U h; simp only [z0, z1] at h; subst h
          refine wpList_nil ?_
          refine then_n ?_
          refine wp_cond_false rfl ?_
          refine wp_skip ?_
          refine then_n ?_
          refine wp_seq ?_
          refine wp_region_exA (A := ?Ax16) 19 [(0, 82), (1, 83), (2, 84), (3, 85), (4, 86), (5, 87), (6, 88), (7, 89), (8, 90), (9, 91), (10, 92), (11, 93), (12, 94), (13, 95), (14, 96), (15, 97), (16, 98), (17, 99), (18, 100)] [.val (.pointer none), .val (.bool true), .val (.bool true), .val undef, .val undef, .val undef, .val undef, .val undef, .val undef, .val undef, .val undef, .val undef, .val undef, .val undef, .val undef, .val undef, .val undef, .val undef, .val undef] follows (by kernel_rfl) rfl ?hAx16 (opsA_cons ?o0x16 (opsA_cons ?o1x16 (opsA_cons ?o2x16 (opsA_cons ?o3x16 (opsA_cons ?o4x16 (opsA_cons ?o5x16 (opsA_cons ?o6x16 (opsA_cons ?o7x16 (opsA_cons ?o8x16 (opsA_cons ?o9x16 (opsA_cons ?o10x16 (opsA_cons ?o11x16 (opsA_cons ?o12x16 (opsA_cons ?o13x16 (opsA_cons ?o14x16 (opsA_cons ?o15x16 (opsA_cons ?o16x16 (opsA_cons ?o17x16 (opsA_cons ?o18x16 opsA_nil))))))))))))))))))) ?restx16
          case hAx16 =>
            intro ptrs
            simp only [full, foldSlots, filledE, postE, List.foldl_cons, List.foldl_nil, List.getD_cons_zero, List.getD_cons_succ, fill_val, List.set_cons_zero, List.set_cons_succ]
            exact rfl
          case o0x16 => exact fun _ _ _ _ => opE_move (v := .pointer none) _ rfl rfl rfl
          case o1x16 => exact fun _ _ _ _ => opE_value (v := .bool true) rfl (run_eqnn 37 _ _ _ rfl rfl rfl Try.underlying37 _)
          case o2x16 => exact fun _ _ _ _ => opE_move (v := .bool true) _ rfl rfl rfl
          case o3x16 => exact fun _ _ _ _ => opE_skip rfl
          case o4x16 => exact fun _ _ _ _ => opE_skip rfl
          case o5x16 => exact fun _ _ _ _ => opE_skip rfl
          case o6x16 => exact fun _ _ _ _ => opE_skip rfl
          case o7x16 => exact fun _ _ _ _ => opE_skip rfl
          case o8x16 => exact fun _ _ _ _ => opE_skip rfl
          case o9x16 => exact fun _ _ _ _ => opE_skip rfl
          case o10x16 => exact fun _ _ _ _ => opE_skip rfl
          case o11x16 => exact fun _ _ _ _ => opE_skip rfl
          case o12x16 => exact fun _ _ _ _ => opE_skip rfl
          case o13x16 => exact fun _ _ _ _ => opE_skip rfl
          case o14x16 => exact fun _ _ _ _ => opE_skip rfl
          case o15x16 => exact fun _ _ _ _ => opE_skip rfl
          case o16x16 => exact fun _ _ _ _ => opE_skip rfl
          case o17x16 => exact fun _ _ _ _ => opE_skip rfl
          case o18x16 => exact fun _ _ _ _ => opE_skip rfl
          intro ptrs w8 GD hxE
          simp only [List.drop_succ_cons, List.drop_zero]
          replace HQ := HQ.gro ((Gro.refl _).drew.trans GD)
          replace HD := HD.gro ((Gro.refl _).drew.trans GD)
          replace GG := GG.drew.trans GD
          clear GD
          refine s_val 101 rfl rfl (.bool true) (rfl) ?_
          refine nr ?_; intro U h; simp only [z0, z1] at h; subst h
          refine s_val 2 rfl rfl (.bool true) (rfl) ?_
          refine nr ?_; intro U h; simp only [z0, z1] at h; subst h
          refine wpList_nil ?_
          refine then_n ?_
          refine wp_ret ?_
          refine bodyPost_ret (results_tmp Try.results3 _ _ _) rfl ?_
          exact ⟨rfl, GG⟩
end Go.Proofs.Ytgfnjekpafempaa
