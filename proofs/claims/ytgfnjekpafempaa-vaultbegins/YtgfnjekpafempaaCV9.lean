/- Each beginning has a greater number than all ahead of it (the law). -/
import Derived.Test.YtgfnjekpafempaaCV7
namespace Go.Proofs.Ytgfnjekpafempaa
open Go.RowKit
set_option maxRecDepth 100000 in
set_option maxHeartbeats 4000000 in
theorem vaultBegins_any (w : World) (ao : Option Addr) (cap : Nat) (l : List Int) (HA : RK kN w ao cap l) : Calls Try.prog 6 #[.slice ao l.length cap] w (fun e w' => e = .returned (.bool true) ∧ Gro w w') := by
  refine s_enter Try.func6 rfl Try.ntmps6 [.slice ao l.length cap] [.slice ao l.length cap, undef, undef, undef, undef, undef, undef, undef, undef, undef, undef, undef, undef, undef, undef, undef, undef, undef, undef, undef, undef, undef, undef, undef, undef, undef, undef, undef, undef, undef, undef, undef, undef, undef, undef, undef, undef, undef, undef, undef, undef, undef, undef, undef, undef, undef, undef, undef, undef, undef, undef, undef, undef, undef, undef, undef, undef, undef, undef, undef, undef, undef, undef, undef, undef, undef, undef] rfl ?_
  have GG := Gro.refl w
  refine wp_seq ?_
  refine wp_region_lit ?_
  refine s_val 2 rfl rfl (.bool false) (rfl) ?_
  refine nr ?_; intro U h; simp only [z0, z1] at h; subst h
  refine wpList_nil ?_
  refine then_n ?_
  refine wp_seq ?_
  refine wp_region_lit ?_
  refine s_callx 11 rfl rfl _ 23 Try.call23 rfl rfl _ rfl [.int .i64 120] rfl (new_any _ 120) (by rintro _ _ ⟨_, _, he, _, _, _, _⟩; exact ⟨_, he⟩) ?_
  rintro v w1 ⟨p, sg, he, G, hp, hs, HD⟩
  cases he
  replace GG := GG.trans G
  clear G
  replace HD : DK w1 p sg 120 (zs (120 * 64)) (-1) 0 := HD
  refine nr ?_; intro U h; simp only [z0, z1] at h; subst h
  refine s_val 3 rfl rfl (.pointer (some ⟨p, 0, none⟩)) (rfl) ?_
  refine nr ?_; intro U h; simp only [z0, z1] at h; subst h
  refine wpList_nil ?_
  refine then_n ?_
  refine wp_seq ?_
  refine wp_seq ?_
  refine wp_region_opq ?_
  intro OPS hY
  have y2 := hY 2 14 rfl
  clear hY
  refine s_val 12 rfl rfl (.pointer (some ⟨p, 0, none⟩)) (rfl) ?_
  refine nr ?_; intro U h; simp only [z0, z1] at h; subst h
  refine s_val 13 rfl rfl (.bool false) (run_eqnp 32 _ _ _ rfl _ rfl rfl Try.underlying32 _) ?_
  refine nr ?_; intro U h; simp only [z0, z1] at h; subst h
  refine s_val 14 rfl rfl (.bool false) (rfl) ?_
  refine nr ?_; intro U h; simp only [z0, z1] at h; subst h
  refine s_gcallvY 15 rfl rfl y2 rfl _ 10 Try.call10 rfl rfl _ rfl [] rfl (fixed_any _) ?_
  intro w2 G
  replace HD := HD.gro G
  replace GG := GG.trans G
  clear G
  refine nr ?_; intro U h; simp only [z0, z1] at h; subst h
  refine s_gvalY 16 rfl rfl y2 rfl (.bool false) (run_nt _ _ rfl true rfl) ?_
  refine nr ?_; intro U h; simp only [z0, z1] at h; subst h
  refine s_val 17 rfl rfl (.bool false) (rfl) ?_
  refine nr ?_; intro U h; simp only [z0, z1] at h; subst h
  refine wpList_nil ?_
  refine then_n ?_
  refine wp_cond_false rfl ?_
  refine wp_skip ?_
  refine then_n ?_
  refine wp_seq ?_
  refine wp_region_lit ?_
  refine s_val 4 rfl rfl (.int .i64 0) (rfl) ?_
  refine nr ?_; intro U h; simp only [z0, z1] at h; subst h
  refine wpList_nil ?_
  refine then_n ?_
  refine wp_seq ?_
  refine wp_seq ?_
  refine wp_region_lit ?_
  refine s_val 18 rfl rfl (.slice ao l.length cap) (rfl) ?_
  refine nr ?_; intro U h; simp only [z0, z1] at h; subst h
  refine s_val 19 rfl rfl (.int .i64 ((l.length : Nat) : Int)) (run_len Try.underlying60 _ rfl _ _ _ rfl _) ?_
  refine nr ?_; intro U h; simp only [z0, z1] at h; subst h
  refine s_val 20 rfl rfl (.int .i64 0) (rfl) ?_
  refine nr ?_; intro U h; simp only [z0, z1] at h; subst h
  refine wpList_nil ?_
  refine then_n ?_
  refine wp_block ?_
  refine wp_loopN (fun mz az wv => ∃ (i : Nat) (c : Nat) (L : List Nat) (pw : Int) (dn : Int) (h : Hd) (rs : List (List Nat)) (Lx : List It) (us1 : Nat → Value), mz = l.length - i ∧ az = ⟨[.slice ao l.length cap, undef, us1 0, .pointer (some ⟨p, 0, none⟩), .int .i64 ((c : Nat) : Int), us1 1, us1 2, us1 3, us1 4, undef, undef, .pointer (some ⟨p, 0, none⟩), .pointer (some ⟨p, 0, none⟩), .bool false, .bool false, .bool true, .bool false, .bool false, .slice ao l.length cap, .int .i64 ((l.length : Nat) : Int), .int .i64 ((i : Nat) : Int), us1 5, us1 6, us1 7, us1 8, us1 9, us1 10, us1 11, us1 12, us1 13, us1 14, us1 15, us1 16, us1 17, us1 18, us1 19, us1 20, us1 21, us1 22, us1 23, us1 24, us1 25, us1 26, us1 27, us1 28, us1 29, us1 30, us1 31, us1 32, us1 33, us1 34, us1 35, undef, undef, undef, undef, undef, undef, undef, undef, undef, undef, undef, undef, undef, undef, undef].toArray, []⟩ ∧ Gro w wv ∧ DK wv p sg 120 L pw dn ∧ Good L 120 h rs ∧ hld rs = some (Lx, c) ∧ i ≤ l.length ∧ (i ≤ 41 ∧ c ≤ i ∧ h.g ≤ i ∧ h.u ≤ i ∧ 0 ≤ dn ∧ dn ≤ 20 * i)) ?_ _ ⟨0, 0, _, (-1), 0, ⟨0, 0, 0⟩, [], [], (fun kz => ([.bool false, undef, undef, undef, undef, undef, undef, undef, undef, undef, undef, undef, undef, undef, undef, undef, undef, undef, undef, undef, undef, undef, undef, undef, undef, undef, undef, undef, undef, undef, undef, undef, undef, undef, undef, undef] : List Value).getD kz undef), rfl, rfl, GG, HD, good_new 120 (by decide), rfl, Nat.zero_le _, by decide⟩
  clear GG HD
  rintro mz az wv ⟨i, c, L, pw, dn, h, rs, Lx, us1, rfl, rfl, GG, HD, HG, hh, hi, hb⟩
  refine wp_seq ?_
  cases t1 : decide (((i : Nat) : Int) < ((l.length : Nat) : Int))
  · refine wp_region_lit ?_
    refine s_val 21 rfl rfl (.bool false) (run_lssT 3 _ _ _ rfl ((i : Nat) : Int) ((l.length : Nat) : Int) rfl rfl false t1 _) ?_
    refine nr ?_; intro U h; simp only [z0, z1] at h; subst h
    refine wpList_nil ?_
    refine then_n ?_
    refine wp_seq ?_
    refine wp_cond_false rfl ?_
    refine wp_exit ?_
    refine then_x ?_
    refine then_x ?_
    refine blk_x ?_
    refine then_n ?_
    refine wp_seq ?_
    refine wp_region_lit ?_
    refine s_val 52 rfl rfl (.pointer (some ⟨p, 0, none⟩)) (rfl) ?_
    refine nr ?_; intro U h; simp only [z0, z1] at h; subst h
    have szz := GG.size
    refine s_callx 53 rfl rfl _ 24 Try.call24 rfl rfl _ rfl [.pointer (some ⟨p, 0, none⟩), .int .i64 (-1)] rfl (power_any _ p sg 120 L pw dn HD (-1)) (by rintro _ _ ⟨he, _, _⟩; exact ⟨_, he⟩) ?_
    rintro v w3 ⟨he, G, HD2⟩
    cases he
    replace GG := G.gro GG (fun k hk => by simp only [List.mem_cons, List.not_mem_nil, or_false] at hk; omega)
    clear HD
    replace HD2 : DK w3 p sg 120 L (-1) dn := HD2
    have HD := HD2
    clear HD2
    refine nr ?_; intro U h; simp only [z0, z1] at h; subst h
    refine wpList_nil ?_
    refine then_n ?_
    refine wp_seq ?_
    obtain ⟨err, L2, pw2, h2, dw2, rs2, HA2, SA2⟩ := append_a 120 L (-1) h false rs (begV (c + 1)) HG ok_m1 (by omega) (by decide)
    have hbl := beg_len (n := c + 1) (by omega)
    have hu2 := HA2.u
    rw [sec_6 hbl] at hu2
    have hg2 := HA2.g
    obtain ⟨rfl, rfl⟩ := HA2.go rfl rfl (by omega) (by rw [sec_6 hbl]; omega)
    have hw2 := HA2.ok rfl
    subst hw2
    have t6 : decide (((c : Nat) : Int) < ((c + 1 : Nat) : Int)) = true := decide_eq_true (by omega)
    refine wp_region_lit ?_
    refine s_val 55 rfl rfl (.pointer (some ⟨p, 0, none⟩)) (rfl) ?_
    refine nr ?_; intro U h; simp only [z0, z1] at h; subst h
    have szz2 := GG.size
    refine s_callx 56 rfl rfl _ 13 Try.call13 rfl rfl _ rfl [.pointer (some ⟨p, 0, none⟩)] rfl ((vopen_go [p, sg] _ p sg 120 L (-1) dn HD (by decide) h rs HG (by omega) HD.lt2 (by simp) (by simp) Lx c hh (by omega) 0 L2 (-1) h2 false rs2 HA2 SA2 (by omega) (by omega)).mono fun e w' h => h.yes) (by rintro _ _ ⟨_, _, _, _, _, he, _, _, _, _, _, _, _, _⟩; exact ⟨_, he⟩) ?_
    rintro v w4 ⟨vp, lp, mb, M, dn2, he, G, HV, hM, hv1, hv2, hv3, hd1, hd2⟩
    cases he
    replace GG := G.gro GG (fun k hk => by simp only [List.mem_cons, List.not_mem_nil, or_false] at hk; omega)
    clear HD
    have HD := HV.dsk
    have kvp := HV.vb.box
    refine nr ?_; intro U h; simp only [z0, z1] at h; subst h
    refine s_val 54 rfl rfl (.tuple #[.pointer (some ⟨vp, 0, none⟩), .int .i64 0]) (rfl) ?_
    refine nr ?_; intro U h; simp only [z0, z1] at h; subst h
    refine s_val 57 rfl rfl (.pointer (some ⟨vp, 0, none⟩)) (rfl) ?_
    refine nr ?_; intro U h; simp only [z0, z1] at h; subst h
    refine s_val 58 rfl rfl (.int .i64 0) (rfl) ?_
    refine nr ?_; intro U h; simp only [z0, z1] at h; subst h
    refine s_val 9 rfl rfl (.pointer (some ⟨vp, 0, none⟩)) (rfl) ?_
    refine nr ?_; intro U h; simp only [z0, z1] at h; subst h
    refine s_val 10 rfl rfl (.int .i64 0) (rfl) ?_
    refine nr ?_; intro U h; simp only [z0, z1] at h; subst h
    refine wpList_nil ?_
    refine then_n ?_
    refine wp_seq ?_
    refine wp_region_opq ?_
    intro OPS hY
    have y2 := hY 2 61 rfl
    clear hY
    refine s_val 59 rfl rfl (.pointer (some ⟨vp, 0, none⟩)) (rfl) ?_
    refine nr ?_; intro U h; simp only [z0, z1] at h; subst h
    refine s_val 60 rfl rfl (.bool true) (run_nenp 37 _ _ _ rfl _ rfl rfl Try.underlying37 _) ?_
    refine nr ?_; intro U h; simp only [z0, z1] at h; subst h
    refine s_val 61 rfl rfl (.bool true) (rfl) ?_
    refine nr ?_; intro U h; simp only [z0, z1] at h; subst h
    refine s_gvalY 62 rfl rfl y2 rfl (.pointer (some ⟨vp, 0, none⟩)) (rfl) ?_
    refine nr ?_; intro U h; simp only [z0, z1] at h; subst h
    refine s_gcallvY 63 rfl rfl y2 rfl _ 18 Try.call18 rfl rfl _ rfl [.pointer (some ⟨vp, 0, none⟩)] rfl (inc_any _ vp lp mb _ kvp) ?_
    intro w5 G
    replace kvp := G.has kvp
    replace HD := HD.gro G
    replace GG := GG.trans G
    clear G
    refine nr ?_; intro U h; simp only [z0, z1] at h; subst h
    refine s_gvalY 64 rfl rfl y2 rfl (.int .i64 ((c : Nat) : Int)) (rfl) ?_
    refine nr ?_; intro U h; simp only [z0, z1] at h; subst h
    refine s_gvalY 65 rfl rfl y2 rfl (.bool true) (run_gtrT 2 _ _ _ rfl ((c + 1 : Nat) : Int) ((c : Nat) : Int) rfl rfl true t6 _) ?_
    refine nr ?_; intro U h; simp only [z0, z1] at h; subst h
    refine s_val 66 rfl rfl (.bool true) (rfl) ?_
    refine nr ?_; intro U h; simp only [z0, z1] at h; subst h
    refine s_val 2 rfl rfl (.bool true) (rfl) ?_
    refine nr ?_; intro U h; simp only [z0, z1] at h; subst h
    refine wpList_nil ?_
    refine then_n ?_
    refine wp_ret ?_
    refine bodyPost_ret (results_tmp Try.results6 _ _ _) rfl ?_
    exact ⟨rfl, GG⟩
  · have hlt : i < l.length := by have := of_decide_eq_true t1; omega
    refine wp_region_lit ?_
    refine s_val 21 rfl rfl (.bool true) (run_lssT 3 _ _ _ rfl ((i : Nat) : Int) ((l.length : Nat) : Int) rfl rfl true t1 _) ?_
    refine nr ?_; intro U h; simp only [z0, z1] at h; subst h
    refine wpList_nil ?_
    refine then_n ?_
    refine wp_seq ?_
    refine wp_cond_true rfl ?_
    refine wp_skip ?_
    refine then_n ?_
    refine wp_seq ?_
    refine wp_block ?_
    refine wp_seq ?_
    refine wp_region_lit ?_
    refine s_val 22 rfl rfl (.int .i64 ((i : Nat) : Int)) (rfl) ?_
    refine nr ?_; intro U h; simp only [z0, z1] at h; subst h
    refine s_val 23 rfl rfl (.pointer (pK kN ao i 0)) (run_ixK rN ((HA.gro GG)) _ _ rfl rfl i rfl (by omega)) ?_
    refine nr ?_; intro U h; simp only [z0, z1] at h; subst h
    refine s_val 24 rfl rfl (.int .i64 (l.getD i 0)) (run_ldKN ((HA.gro GG)) _ rfl i rfl (by omega)) ?_
    refine nr ?_; intro U h; simp only [z0, z1] at h; subst h
    refine s_val 5 rfl rfl (.int .i64 ((i : Nat) : Int)) (rfl) ?_
    refine nr ?_; intro U h; simp only [z0, z1] at h; subst h
    refine s_val 6 rfl rfl (.int .i64 (l.getD i 0)) (rfl) ?_
    refine nr ?_; intro U h; simp only [z0, z1] at h; subst h
    refine wpList_nil ?_
    refine then_n ?_
    refine wp_seq ?_
    refine wp_seq ?_
    cases t2 : decide ((40 : Int) < ((i : Nat) : Int))
    · have hi40 : i ≤ 40 := by have := of_decide_eq_false t2; omega
      refine wp_region_lit ?_
      refine s_val 25 rfl rfl (.int .i64 ((i : Nat) : Int)) (rfl) ?_
      refine nr ?_; intro U h; simp only [z0, z1] at h; subst h
      refine s_val 26 rfl rfl (.bool false) (run_gtrT 3 _ _ _ rfl ((i : Nat) : Int) 40 rfl rfl false t2 _) ?_
      refine nr ?_; intro U h; simp only [z0, z1] at h; subst h
      refine wpList_nil ?_
      refine then_n ?_
      refine wp_cond_false rfl ?_
      refine wp_skip ?_
      refine then_n ?_
      refine wp_seq ?_
      refine wp_region_lit ?_
      refine s_val 27 rfl rfl (.pointer (some ⟨p, 0, none⟩)) (rfl) ?_
      refine nr ?_; intro U h; simp only [z0, z1] at h; subst h
      refine s_val 28 rfl rfl (.int .i64 (l.getD i 0)) (rfl) ?_
      refine nr ?_; intro U h; simp only [z0, z1] at h; subst h
      refine s_val 29 rfl rfl (.int .u64 (((uN (l.getD i 0)) : Nat) : Int)) (conv345 _ rfl _ rfl _) ?_
      refine nr ?_; intro U h; simp only [z0, z1] at h; subst h
      refine s_val 30 rfl rfl (.int .u64 (((uN (l.getD i 0) % 4) : Nat) : Int)) (run_remN 64 64 _ _ rfl _ 4 rfl rfl (by decide) _) ?_
      refine nr ?_; intro U h; simp only [z0, z1] at h; subst h
      refine s_val 31 rfl rfl (.int .i64 (((uN (l.getD i 0) % 4) : Nat) : Int)) (conv453 _ rfl (uN (l.getD i 0) % 4) (by omega) rfl _) ?_
      refine nr ?_; intro U h; simp only [z0, z1] at h; subst h
      have szz := GG.size
      refine s_callx 32 rfl rfl _ 24 Try.call24 rfl rfl _ rfl [.pointer (some ⟨p, 0, none⟩), .int .i64 (((uN (l.getD i 0) % 4) : Nat) : Int)] rfl (power_any _ p sg 120 L pw dn HD (((uN (l.getD i 0) % 4) : Nat) : Int)) (by rintro _ _ ⟨he, _, _⟩; exact ⟨_, he⟩) ?_
      rintro v w3 ⟨he, G, HD2⟩
      cases he
      replace GG := G.gro GG (fun k hk => by simp only [List.mem_cons, List.not_mem_nil, or_false] at hk; omega)
      clear HD
      obtain ⟨pw1, hpw⟩ : ∃ pw1, max ((((uN (l.getD i 0) % 4)) : Nat) : Int) (-1) = pw1 := ⟨_, rfl⟩
      rw [hpw] at HD2
      have hP : okP pw1 := ⟨by omega, by omega⟩
      have HD := HD2
      clear HD2
      refine nr ?_; intro U h; simp only [z0, z1] at h; subst h
      refine wpList_nil ?_
      refine then_n ?_
      refine wp_seq ?_
      obtain ⟨err, L2, pw2, h2, dw2, rs2, HA2, SA2⟩ := append_a 120 L pw1 h false rs (begV (c + 1)) HG hP (by omega) (by decide)
      have hbl := beg_len (n := c + 1) (by omega)
      have hu2 := HA2.u
      rw [sec_6 hbl] at hu2
      have hg2 := HA2.g
      rcases HA2.res with ⟨rfl, hrs⟩ | ⟨he1, hrs⟩
      · clear hrs
        have hw2 := HA2.ok rfl
        subst hw2
        have HG2 := HA2.yes
        have hh2 := hld_beg hh (n := c + 1) (by omega) (by omega)
        have t5 : decide (((c + 1 : Nat) : Int) ≤ ((c : Nat) : Int)) = false := decide_eq_false (by omega)
        refine wp_region_lit ?_
        refine s_val 34 rfl rfl (.pointer (some ⟨p, 0, none⟩)) (rfl) ?_
        refine nr ?_; intro U h; simp only [z0, z1] at h; subst h
        have szz2 := GG.size
        refine s_callx 35 rfl rfl _ 13 Try.call13 rfl rfl _ rfl [.pointer (some ⟨p, 0, none⟩)] rfl ((vopen_go [p, sg] _ p sg 120 L pw1 dn HD (by decide) h rs HG (by omega) HD.lt2 (by simp) (by simp) Lx c hh (by omega) 0 L2 pw2 h2 false rs2 HA2 SA2 (by omega) (by omega)).mono fun e w' h => h.yes) (by rintro _ _ ⟨_, _, _, _, _, he, _, _, _, _, _, _, _, _⟩; exact ⟨_, he⟩) ?_
        rintro v w4 ⟨vp, lp, mb, M, dn2, he, G, HV, hM, hv1, hv2, hv3, hd1, hd2⟩
        cases he
        replace GG := G.gro GG (fun k hk => by simp only [List.mem_cons, List.not_mem_nil, or_false] at hk; omega)
        clear HD
        have HD := HV.dsk
        have kvp := HV.vb.box
        refine nr ?_; intro U h; simp only [z0, z1] at h; subst h
        refine s_val 33 rfl rfl (.tuple #[.pointer (some ⟨vp, 0, none⟩), .int .i64 0]) (rfl) ?_
        refine nr ?_; intro U h; simp only [z0, z1] at h; subst h
        refine s_val 36 rfl rfl (.pointer (some ⟨vp, 0, none⟩)) (rfl) ?_
        refine nr ?_; intro U h; simp only [z0, z1] at h; subst h
        refine s_val 37 rfl rfl (.int .i64 0) (rfl) ?_
        refine nr ?_; intro U h; simp only [z0, z1] at h; subst h
        refine s_val 7 rfl rfl (.pointer (some ⟨vp, 0, none⟩)) (rfl) ?_
        refine nr ?_; intro U h; simp only [z0, z1] at h; subst h
        refine s_val 8 rfl rfl (.int .i64 0) (rfl) ?_
        refine nr ?_; intro U h; simp only [z0, z1] at h; subst h
        refine wpList_nil ?_
        refine then_n ?_
        refine wp_seq ?_
        refine wp_seq ?_
        refine wp_region_lit ?_
        refine s_val 38 rfl rfl (.pointer (some ⟨vp, 0, none⟩)) (rfl) ?_
        refine nr ?_; intro U h; simp only [z0, z1] at h; subst h
        refine s_val 39 rfl rfl (.bool false) (run_eqnp 37 _ _ _ rfl _ rfl rfl Try.underlying37 _) ?_
        refine nr ?_; intro U h; simp only [z0, z1] at h; subst h
        refine s_val 40 rfl rfl (.int .i64 0) (rfl) ?_
        refine nr ?_; intro U h; simp only [z0, z1] at h; subst h
        refine s_val 41 rfl rfl (.bool false) (run_neq_k 26 .i64 _ _ _ rfl Try.underlying26 0 0 rfl rfl false (decide_eq_true rfl) _) ?_
        refine nr ?_; intro U h; simp only [z0, z1] at h; subst h
        refine s_val 42 rfl rfl (.bool false) (run_neB 4 _ _ _ rfl false false rfl rfl Try.underlying4 false (by decide) _) ?_
        refine nr ?_; intro U h; simp only [z0, z1] at h; subst h
        refine wpList_nil ?_
        refine then_n ?_
        refine wp_cond_false rfl ?_
        refine wp_skip ?_
        refine then_n ?_
        refine wp_seq ?_
        refine wp_region_lit ?_
        refine s_val 43 rfl rfl (.pointer (some ⟨vp, 0, none⟩)) (rfl) ?_
        refine nr ?_; intro U h; simp only [z0, z1] at h; subst h
        refine s_val 44 rfl rfl (.bool true) (run_nenp 37 _ _ _ rfl _ rfl rfl Try.underlying37 _) ?_
        refine nr ?_; intro U h; simp only [z0, z1] at h; subst h
        refine wpList_nil ?_
        refine then_n ?_
        refine wp_cond_true rfl ?_
        refine wp_seq ?_
        refine wp_seq ?_
        refine wp_region_lit ?_
        refine s_val 45 rfl rfl (.pointer (some ⟨vp, 0, none⟩)) (rfl) ?_
        refine nr ?_; intro U h; simp only [z0, z1] at h; subst h
        refine s_callv 46 rfl rfl _ 18 Try.call18 rfl rfl _ rfl [.pointer (some ⟨vp, 0, none⟩)] rfl (inc_any _ vp lp mb _ kvp) ?_
        intro w5 G
        replace kvp := G.has kvp
        replace HD := HD.gro G
        replace GG := GG.trans G
        clear G
        refine nr ?_; intro U h; simp only [z0, z1] at h; subst h
        refine s_val 47 rfl rfl (.int .i64 ((c : Nat) : Int)) (rfl) ?_
        refine nr ?_; intro U h; simp only [z0, z1] at h; subst h
        refine s_val 48 rfl rfl (.bool false) (run_leqT 2 _ _ _ rfl ((c + 1 : Nat) : Int) ((c : Nat) : Int) rfl rfl false t5 _) ?_
        refine nr ?_; intro U h; simp only [z0, z1] at h; subst h
        refine wpList_nil ?_
        refine then_n ?_
        refine wp_cond_false rfl ?_
        refine wp_skip ?_
        refine then_n ?_
        refine wp_region_lit ?_
        refine s_val 49 rfl rfl (.pointer (some ⟨vp, 0, none⟩)) (rfl) ?_
        refine nr ?_; intro U h; simp only [z0, z1] at h; subst h
        refine s_callv 50 rfl rfl _ 18 Try.call18 rfl rfl _ rfl [.pointer (some ⟨vp, 0, none⟩)] rfl (inc_any _ vp lp mb _ kvp) ?_
        intro w6 G
        replace kvp := G.has kvp
        replace HD := HD.gro G
        replace GG := GG.trans G
        clear G
        refine nr ?_; intro U h; simp only [z0, z1] at h; subst h
        refine s_val 4 rfl rfl (.int .i64 ((c + 1 : Nat) : Int)) (rfl) ?_
        refine nr ?_; intro U h; simp only [z0, z1] at h; subst h
        refine wpList_nil ?_
        refine blk_n ?_
        refine then_n ?_
        refine wp_region_lit ?_
        refine s_val 51 rfl rfl (.int .i64 ((i + 1 : Nat) : Int)) (run_addI 3 _ _ _ rfl ((i : Nat) : Int) 1 ((i + 1 : Nat) : Int) rfl rfl (by omega) (by omega) (by omega) _) ?_
        refine nr ?_; intro U h; simp only [z0, z1] at h; subst h
        refine s_val 20 rfl rfl (.int .i64 ((i + 1 : Nat) : Int)) (rfl) ?_
        refine nr ?_; intro U h; simp only [z0, z1] at h; subst h
        refine wpList_nil ?_
        refine then_n ?_
        exact ⟨_, by omega, i + 1, c + 1, L2, pw2, dn2, h2, _, Lx, (fun kz => ([us1 0, .int .i64 ((i : Nat) : Int), .int .i64 (l.getD i 0), .pointer (some ⟨vp, 0, none⟩), .int .i64 0, .bool true, .int .i64 ((i : Nat) : Int), .pointer (pK kN ao i 0), .int .i64 (l.getD i 0), .int .i64 ((i : Nat) : Int), .bool false, .pointer (some ⟨p, 0, none⟩), .int .i64 (l.getD i 0), .int .u64 (((uN (l.getD i 0)) : Nat) : Int), .int .u64 (((uN (l.getD i 0) % 4) : Nat) : Int), .int .i64 (((uN (l.getD i 0) % 4) : Nat) : Int), .tuple #[], .tuple #[.pointer (some ⟨vp, 0, none⟩), .int .i64 0], .pointer (some ⟨p, 0, none⟩), .tuple #[.pointer (some ⟨vp, 0, none⟩), .int .i64 0], .pointer (some ⟨vp, 0, none⟩), .int .i64 0, .pointer (some ⟨vp, 0, none⟩), .bool false, .int .i64 0, .bool false, .bool false, .pointer (some ⟨vp, 0, none⟩), .bool true, .pointer (some ⟨vp, 0, none⟩), .int .i64 ((c + 1 : Nat) : Int), .int .i64 ((c : Nat) : Int), .bool false, .pointer (some ⟨vp, 0, none⟩), .int .i64 ((c + 1 : Nat) : Int), .int .i64 ((i + 1 : Nat) : Int)] : List Value).getD kz undef), rfl, rfl, GG, HD, HG2, hh2, by omega, by omega⟩
      · clear hrs
        have HG2 := HA2.no he1
        have hh2 := hh
        have t4 : decide (err = 0) = false := decide_eq_false he1
        refine wp_region_lit ?_
        refine s_val 34 rfl rfl (.pointer (some ⟨p, 0, none⟩)) (rfl) ?_
        refine nr ?_; intro U h; simp only [z0, z1] at h; subst h
        have szz2 := GG.size
        refine s_callx 35 rfl rfl _ 13 Try.call13 rfl rfl _ rfl [.pointer (some ⟨p, 0, none⟩)] rfl ((vopen_go [p, sg] _ p sg 120 L pw1 dn HD (by decide) h rs HG (by omega) HD.lt2 (by simp) (by simp) Lx c hh (by omega) err L2 pw2 h2 dw2 rs2 HA2 SA2 (by omega) (by omega)).mono fun e w' h => h.no he1) (by rintro _ _ ⟨_, he, _, _, _, _⟩; exact ⟨_, he⟩) ?_
        rintro v w4 ⟨dn2, he, G, HD3, hd1, hd2⟩
        cases he
        replace GG := G.gro GG (fun k hk => by simp only [List.mem_cons, List.not_mem_nil, or_false] at hk; omega)
        clear HD
        have HD := HD3
        refine nr ?_; intro U h; simp only [z0, z1] at h; subst h
        refine s_val 33 rfl rfl (.tuple #[.pointer none, .int .i64 err]) (rfl) ?_
        refine nr ?_; intro U h; simp only [z0, z1] at h; subst h
        refine s_val 36 rfl rfl (.pointer none) (rfl) ?_
        refine nr ?_; intro U h; simp only [z0, z1] at h; subst h
        refine s_val 37 rfl rfl (.int .i64 err) (rfl) ?_
        refine nr ?_; intro U h; simp only [z0, z1] at h; subst h
        refine s_val 7 rfl rfl (.pointer none) (rfl) ?_
        refine nr ?_; intro U h; simp only [z0, z1] at h; subst h
        refine s_val 8 rfl rfl (.int .i64 err) (rfl) ?_
        refine nr ?_; intro U h; simp only [z0, z1] at h; subst h
        refine wpList_nil ?_
        refine then_n ?_
        refine wp_seq ?_
        refine wp_seq ?_
        refine wp_region_lit ?_
        refine s_val 38 rfl rfl (.pointer none) (rfl) ?_
        refine nr ?_; intro U h; simp only [z0, z1] at h; subst h
        refine s_val 39 rfl rfl (.bool true) (run_eqnn 37 _ _ _ rfl rfl rfl Try.underlying37 _) ?_
        refine nr ?_; intro U h; simp only [z0, z1] at h; subst h
        refine s_val 40 rfl rfl (.int .i64 err) (rfl) ?_
        refine nr ?_; intro U h; simp only [z0, z1] at h; subst h
        refine s_val 41 rfl rfl (.bool true) (run_neq_k 26 .i64 _ _ _ rfl Try.underlying26 err 0 rfl rfl true t4 _) ?_
        refine nr ?_; intro U h; simp only [z0, z1] at h; subst h
        refine s_val 42 rfl rfl (.bool false) (run_neB 4 _ _ _ rfl true true rfl rfl Try.underlying4 false (by decide) _) ?_
        refine nr ?_; intro U h; simp only [z0, z1] at h; subst h
        refine wpList_nil ?_
        refine then_n ?_
        refine wp_cond_false rfl ?_
        refine wp_skip ?_
        refine then_n ?_
        refine wp_seq ?_
        refine wp_region_lit ?_
        refine s_val 43 rfl rfl (.pointer none) (rfl) ?_
        refine nr ?_; intro U h; simp only [z0, z1] at h; subst h
        refine s_val 44 rfl rfl (.bool false) (run_nenn 37 _ _ _ rfl rfl rfl Try.underlying37 _) ?_
        refine nr ?_; intro U h; simp only [z0, z1] at h; subst h
        refine wpList_nil ?_
        refine then_n ?_
        refine wp_cond_false rfl ?_
        refine wp_skip ?_
        refine blk_n ?_
        refine then_n ?_
        refine wp_region_lit ?_
        refine s_val 51 rfl rfl (.int .i64 ((i + 1 : Nat) : Int)) (run_addI 3 _ _ _ rfl ((i : Nat) : Int) 1 ((i + 1 : Nat) : Int) rfl rfl (by omega) (by omega) (by omega) _) ?_
        refine nr ?_; intro U h; simp only [z0, z1] at h; subst h
        refine s_val 20 rfl rfl (.int .i64 ((i + 1 : Nat) : Int)) (rfl) ?_
        refine nr ?_; intro U h; simp only [z0, z1] at h; subst h
        refine wpList_nil ?_
        refine then_n ?_
        exact ⟨_, by omega, i + 1, c, L2, pw2, dn2, h2, _, Lx, (fun kz => ([us1 0, .int .i64 ((i : Nat) : Int), .int .i64 (l.getD i 0), .pointer none, .int .i64 err, .bool true, .int .i64 ((i : Nat) : Int), .pointer (pK kN ao i 0), .int .i64 (l.getD i 0), .int .i64 ((i : Nat) : Int), .bool false, .pointer (some ⟨p, 0, none⟩), .int .i64 (l.getD i 0), .int .u64 (((uN (l.getD i 0)) : Nat) : Int), .int .u64 (((uN (l.getD i 0) % 4) : Nat) : Int), .int .i64 (((uN (l.getD i 0) % 4) : Nat) : Int), .tuple #[], .tuple #[.pointer none, .int .i64 err], .pointer (some ⟨p, 0, none⟩), .tuple #[.pointer none, .int .i64 err], .pointer none, .int .i64 err, .pointer none, .bool true, .int .i64 err, .bool true, .bool false, .pointer none, .bool false, us1 29, us1 30, us1 31, us1 32, us1 33, us1 34, .int .i64 ((i + 1 : Nat) : Int)] : List Value).getD kz undef), rfl, rfl, GG, HD, HG2, hh2, by omega, by omega⟩
    · refine wp_region_lit ?_
      refine s_val 25 rfl rfl (.int .i64 ((i : Nat) : Int)) (rfl) ?_
      refine nr ?_; intro U h; simp only [z0, z1] at h; subst h
      refine s_val 26 rfl rfl (.bool true) (run_gtrT 3 _ _ _ rfl ((i : Nat) : Int) 40 rfl rfl true t2 _) ?_
      refine nr ?_; intro U h; simp only [z0, z1] at h; subst h
      refine wpList_nil ?_
      refine then_n ?_
      refine wp_cond_true rfl ?_
      refine wp_exit ?_
      refine then_x ?_
      refine blk_xn (by decide) ?_
      refine then_x ?_
      refine then_x ?_
      refine blk_x ?_
      refine then_n ?_
      refine wp_seq ?_
      refine wp_region_lit ?_
      refine s_val 52 rfl rfl (.pointer (some ⟨p, 0, none⟩)) (rfl) ?_
      refine nr ?_; intro U h; simp only [z0, z1] at h; subst h
      have szz := GG.size
      refine s_callx 53 rfl rfl _ 24 Try.call24 rfl rfl _ rfl [.pointer (some ⟨p, 0, none⟩), .int .i64 (-1)] rfl (power_any _ p sg 120 L pw dn HD (-1)) (by rintro _ _ ⟨he, _, _⟩; exact ⟨_, he⟩) ?_
      rintro v w3 ⟨he, G, HD2⟩
      cases he
      replace GG := G.gro GG (fun k hk => by simp only [List.mem_cons, List.not_mem_nil, or_false] at hk; omega)
      clear HD
      replace HD2 : DK w3 p sg 120 L (-1) dn := HD2
      have HD := HD2
      clear HD2
      refine nr ?_; intro U h; simp only [z0, z1] at h; subst h
      refine wpList_nil ?_
      refine then_n ?_
      refine wp_seq ?_
      obtain ⟨err, L2, pw2, h2, dw2, rs2, HA2, SA2⟩ := append_a 120 L (-1) h false rs (begV (c + 1)) HG ok_m1 (by omega) (by decide)
      have hbl := beg_len (n := c + 1) (by omega)
      have hu2 := HA2.u
      rw [sec_6 hbl] at hu2
      have hg2 := HA2.g
      obtain ⟨rfl, rfl⟩ := HA2.go rfl rfl (by omega) (by rw [sec_6 hbl]; omega)
      have hw2 := HA2.ok rfl
      subst hw2
      have t6 : decide (((c : Nat) : Int) < ((c + 1 : Nat) : Int)) = true := decide_eq_true (by omega)
      refine wp_region_lit ?_
      refine s_val 55 rfl rfl (.pointer (some ⟨p, 0, none⟩)) (rfl) ?_
      refine nr ?_; intro U h; simp only [z0, z1] at h; subst h
      have szz2 := GG.size
      refine s_callx 56 rfl rfl _ 13 Try.call13 rfl rfl _ rfl [.pointer (some ⟨p, 0, none⟩)] rfl ((vopen_go [p, sg] _ p sg 120 L (-1) dn HD (by decide) h rs HG (by omega) HD.lt2 (by simp) (by simp) Lx c hh (by omega) 0 L2 (-1) h2 false rs2 HA2 SA2 (by omega) (by omega)).mono fun e w' h => h.yes) (by rintro _ _ ⟨_, _, _, _, _, he, _, _, _, _, _, _, _, _⟩; exact ⟨_, he⟩) ?_
      rintro v w4 ⟨vp, lp, mb, M, dn2, he, G, HV, hM, hv1, hv2, hv3, hd1, hd2⟩
      cases he
      replace GG := G.gro GG (fun k hk => by simp only [List.mem_cons, List.not_mem_nil, or_false] at hk; omega)
      clear HD
      have HD := HV.dsk
      have kvp := HV.vb.box
      refine nr ?_; intro U h; simp only [z0, z1] at h; subst h
      refine s_val 54 rfl rfl (.tuple #[.pointer (some ⟨vp, 0, none⟩), .int .i64 0]) (rfl) ?_
      refine nr ?_; intro U h; simp only [z0, z1] at h; subst h
      refine s_val 57 rfl rfl (.pointer (some ⟨vp, 0, none⟩)) (rfl) ?_
      refine nr ?_; intro U h; simp only [z0, z1] at h; subst h
      refine s_val 58 rfl rfl (.int .i64 0) (rfl) ?_
      refine nr ?_; intro U h; simp only [z0, z1] at h; subst h
      refine s_val 9 rfl rfl (.pointer (some ⟨vp, 0, none⟩)) (rfl) ?_
      refine nr ?_; intro U h; simp only [z0, z1] at h; subst h
      refine s_val 10 rfl rfl (.int .i64 0) (rfl) ?_
      refine nr ?_; intro U h; simp only [z0, z1] at h; subst h
      refine wpList_nil ?_
      refine then_n ?_
      refine wp_seq ?_
      refine wp_region_opq ?_
      intro OPS hY
      have y2 := hY 2 61 rfl
      clear hY
      refine s_val 59 rfl rfl (.pointer (some ⟨vp, 0, none⟩)) (rfl) ?_
      refine nr ?_; intro U h; simp only [z0, z1] at h; subst h
      refine s_val 60 rfl rfl (.bool true) (run_nenp 37 _ _ _ rfl _ rfl rfl Try.underlying37 _) ?_
      refine nr ?_; intro U h; simp only [z0, z1] at h; subst h
      refine s_val 61 rfl rfl (.bool true) (rfl) ?_
      refine nr ?_; intro U h; simp only [z0, z1] at h; subst h
      refine s_gvalY 62 rfl rfl y2 rfl (.pointer (some ⟨vp, 0, none⟩)) (rfl) ?_
      refine nr ?_; intro U h; simp only [z0, z1] at h; subst h
      refine s_gcallvY 63 rfl rfl y2 rfl _ 18 Try.call18 rfl rfl _ rfl [.pointer (some ⟨vp, 0, none⟩)] rfl (inc_any _ vp lp mb _ kvp) ?_
      intro w5 G
      replace kvp := G.has kvp
      replace HD := HD.gro G
      replace GG := GG.trans G
      clear G
      refine nr ?_; intro U h; simp only [z0, z1] at h; subst h
      refine s_gvalY 64 rfl rfl y2 rfl (.int .i64 ((c : Nat) : Int)) (rfl) ?_
      refine nr ?_; intro U h; simp only [z0, z1] at h; subst h
      refine s_gvalY 65 rfl rfl y2 rfl (.bool true) (run_gtrT 2 _ _ _ rfl ((c + 1 : Nat) : Int) ((c : Nat) : Int) rfl rfl true t6 _) ?_
      refine nr ?_; intro U h; simp only [z0, z1] at h; subst h
      refine s_val 66 rfl rfl (.bool true) (rfl) ?_
      refine nr ?_; intro U h; simp only [z0, z1] at h; subst h
      refine s_val 2 rfl rfl (.bool true) (rfl) ?_
      refine nr ?_; intro U h; simp only [z0, z1] at h; subst h
      refine wpList_nil ?_
      refine then_n ?_
      refine wp_ret ?_
      refine bodyPost_ret (results_tmp Try.results6 _ _ _) rfl ?_
      exact ⟨rfl, GG⟩
end Go.Proofs.Ytgfnjekpafempaa
