/- Whoever goes on by the neighbour by which the least one is known comes to it. -/
import Derived.Test.YtljihaihhnamfaaC3
namespace Go.Proofs.Ytljihaihhnamfaa
open Go.RowKit
theorem dist_of {I : List Nat} {n : Nat} (h : ∀ x y, x < n → y < x → I.getD x 0 ≠ I.getD y 0) : ∀ a b, a < n → b < n → (fun c => I.getD c 0) a = (fun c => I.getD c 0) b → a = b := fun a b ha hb e => by
  have e : I.getD a 0 = I.getD b 0 := e
  by_cases h1 : a = b
  · exact h1
  · by_cases h2 : b < a
    · exact absurd e (h a b ha h2)
    · exact absurd e.symm (h b a hb (by omega))
theorem dist_in {I : List Nat} {i k : Nat} (h : ∀ y, y < k → I.getD i 0 ≠ I.getD y 0) (hk : I.getD i 0 ≠ I.getD k 0) : ∀ y, y < k + 1 → I.getD i 0 ≠ I.getD y 0 := fun y hy => by
  by_cases e : y = k
  · rw [e]; exact hk
  · exact h y (by omega)
theorem dist_out {I : List Nat} {i k : Nat} (h : ∀ x y, x < i → y < x → I.getD x 0 ≠ I.getD y 0) (hk : ∀ y, y < k → I.getD i 0 ≠ I.getD y 0) (e : k = i) : ∀ x y, x < i + 1 → y < x → I.getD x 0 ≠ I.getD y 0 := fun x y hx hy => by
  by_cases c : x = i
  · rw [c]; exact hk y (by omega)
  · exact h x y (by omega) hy
set_option maxRecDepth 100000 in
set_option maxHeartbeats 4000000 in
theorem repWay_any (w : World) (aw : Option Addr) (cw : Nat) (IW : List Nat) (HW : RK kI w aw cw IW) (hWl : IW.length ≤ 9223372036854775807) (al : Option Addr) (cl : Nat) (Lk : List (Int × Int)) (HK : RK kP w al cl Lk) (hK : Lk.length ≤ 9223372036854775807) (ah : Option Addr) (ch : Nat) (Hs : List RVh) (HHs : RK kS w ah ch Hs) (hH : ∀ i, i < Hs.length → RK kH w (Hs.getD i zR).ao (Hs.getD i zR).cap (Hs.getD i zR).l ∧ (Hs.getD i zR).l.length ≤ 9223372036854775807) (hHl : Hs.length ≤ 9223372036854775807) : Calls Try.prog 7 #[.agg (wdA aw IW.length cw al Lk.length cl ah Hs.length ch)] w (fun e w' => e = .returned (.bool true) ∧ Gro w w') := by
  refine s_enter Try.func7 rfl Try.ntmps7 [.agg (wdA aw IW.length cw al Lk.length cl ah Hs.length ch)] [.agg (wdA aw IW.length cw al Lk.length cl ah Hs.length ch), undef, undef, undef, undef, undef, undef, undef, undef, undef, undef, undef, undef, undef, undef, undef, undef, undef, undef, undef, undef, undef, undef, undef, undef, undef, undef, undef, undef, undef, undef, undef, undef, undef, undef, undef, undef, undef, undef, undef, undef, undef, undef, undef, undef, undef, undef, undef, undef, undef, undef, undef, undef, undef, undef, undef, undef, undef, undef, undef, undef, undef, undef, undef, undef, undef, undef, undef, undef, undef, undef, undef, undef, undef, undef, undef, undef, undef, undef, undef, undef, undef, undef, undef, undef, undef, undef, undef, undef, undef, undef, undef, undef] rfl ?_
  have GG := Gro.refl w
  obtain ⟨I, hIe⟩ : ∃ I : List Nat, I = IW.take (min IW.length 6) := ⟨_, rfl⟩
  have hIn : I.length = min IW.length 6 := by rw [hIe, List.length_take]; omega
  have hI6 : I.length ≤ 6 := by omega
  have hIm : (min ((IW.length : Nat) : Int) 6) = ((I.length : Nat) : Int) := by omega
  have hIc : I.length ≤ cw := by have := HW.xc.fit; omega
  have HI : RK kI w aw I.length I := by rw [hIn, hIe]; exact HW.take3 _ (by omega)
  clear hIe hIn
  refine wp_seq ?_
  refine wp_region_lit ?_
  refine s_box 1 rfl rfl 45 _ rfl _ rfl (wdA aw IW.length cw al Lk.length cl ah Hs.length ch) rfl ?_
  intro w1 g1 G eg1 kg1
  have bg1 := size_base GG eg1
  replace GG := GG.trans G
  clear G
  clear eg1
  refine nr ?_; intro U h; simp only [z0, z1] at h; subst h
  refine s_val 2 rfl rfl (.bool false) (rfl) ?_
  refine nr ?_; intro U h; simp only [z0, z1] at h; subst h
  refine wpList_nil ?_
  refine then_n ?_
  refine wp_seq ?_
  refine wp_seq ?_
  refine wp_region_lit ?_
  refine s_callv 11 rfl rfl _ 11 Try.call11 rfl rfl _ rfl [] rfl (fixed_any _) ?_
  intro w2 G
  replace kg1 := G.has kg1
  replace GG := GG.trans G
  clear G
  refine nr ?_; intro U h; simp only [z0, z1] at h; subst h
  refine s_val 12 rfl rfl (.bool false) (run_nt _ _ rfl true rfl) ?_
  refine nr ?_; intro U h; simp only [z0, z1] at h; subst h
  refine wpList_nil ?_
  refine then_n ?_
  refine wp_cond_false rfl ?_
  refine wp_skip ?_
  refine then_n ?_
  refine wp_seq ?_
  refine wp_region_lit ?_
  refine s_val 13 rfl rfl (.pointer (some ⟨g1, 0, none⟩)) (run_fld 45 _ 0 rfl g1 0 rfl 0 (by kernel_rfl)) ?_
  refine nr ?_; intro U h; simp only [z0, z1] at h; subst h
  refine s_val 14 rfl rfl (.slice aw IW.length cw) (ldWi _ rfl g1 rfl (kg1)) ?_
  refine nr ?_; intro U h; simp only [z0, z1] at h; subst h
  refine s_val 15 rfl rfl (.pointer (some ⟨g1, 0, none⟩)) (run_fld 45 _ 0 rfl g1 0 rfl 0 (by kernel_rfl)) ?_
  refine nr ?_; intro U h; simp only [z0, z1] at h; subst h
  refine s_val 16 rfl rfl (.slice aw IW.length cw) (ldWi _ rfl g1 rfl (kg1)) ?_
  refine nr ?_; intro U h; simp only [z0, z1] at h; subst h
  refine s_val 17 rfl rfl (.int .i64 ((IW.length : Nat) : Int)) (run_len Try.underlying41 _ rfl _ _ _ rfl _) ?_
  refine nr ?_; intro U h; simp only [z0, z1] at h; subst h
  refine s_val 18 rfl rfl (.int .i64 (min ((IW.length : Nat) : Int) 6)) (run_minI _ _ _ rfl ((IW.length : Nat) : Int) 6 rfl rfl _) ?_
  refine nr ?_; intro U h; simp only [z0, z1] at h; subst h
  refine s_val 19 rfl rfl (.pointer (some ⟨g1, 0, none⟩)) (run_fld 45 _ 0 rfl g1 0 rfl 0 (by kernel_rfl)) ?_
  refine nr ?_; intro U h; simp only [z0, z1] at h; subst h
  refine s_val 20 rfl rfl (.slice aw IW.length cw) (ldWi _ rfl g1 rfl (kg1)) ?_
  refine nr ?_; intro U h; simp only [z0, z1] at h; subst h
  refine s_val 21 rfl rfl (.int .i64 ((IW.length : Nat) : Int)) (run_len Try.underlying41 _ rfl _ _ _ rfl _) ?_
  refine nr ?_; intro U h; simp only [z0, z1] at h; subst h
  refine s_val 22 rfl rfl (.int .i64 (min ((IW.length : Nat) : Int) 6)) (run_minI _ _ _ rfl ((IW.length : Nat) : Int) 6 rfl rfl _) ?_
  refine nr ?_; intro U h; simp only [z0, z1] at h; subst h
  refine s_val 23 rfl rfl (.slice aw I.length I.length) (run_cut3X rI _ _ _ rfl aw IW.length cw I.length rfl (by exact congrArg (Value.int .i64) hIm) (by exact congrArg (Value.int .i64) hIm) hIc _) ?_
  refine nr ?_; intro U h; simp only [z0, z1] at h; subst h
  refine s_val 3 rfl rfl (.slice aw I.length I.length) (rfl) ?_
  refine nr ?_; intro U h; simp only [z0, z1] at h; subst h
  refine wpList_nil ?_
  refine then_n ?_
  refine wp_seq ?_
  refine wp_seq ?_
  refine wp_region_lit ?_
  refine s_val 24 rfl rfl (.slice aw I.length I.length) (rfl) ?_
  refine nr ?_; intro U h; simp only [z0, z1] at h; subst h
  refine s_val 25 rfl rfl (.int .i64 ((I.length : Nat) : Int)) (run_len Try.underlying41 _ rfl _ _ _ rfl _) ?_
  refine nr ?_; intro U h; simp only [z0, z1] at h; subst h
  refine s_val 26 rfl rfl (.int .i64 0) (rfl) ?_
  refine nr ?_; intro U h; simp only [z0, z1] at h; subst h
  refine wpList_nil ?_
  refine then_n ?_
  refine wp_block ?_
  refine wp_loopN (fun mz az wv => ∃ (i : Nat) (us1 : Nat → Value), mz = I.length + 1 - i ∧ az = ⟨[.agg (wdA aw IW.length cw al Lk.length cl ah Hs.length ch), .pointer (some ⟨g1, 0, none⟩), us1 0, .slice aw I.length I.length, us1 1, us1 2, undef, undef, undef, undef, undef, .bool true, .bool false, .pointer (some ⟨g1, 0, none⟩), .slice aw IW.length cw, .pointer (some ⟨g1, 0, none⟩), .slice aw IW.length cw, .int .i64 ((IW.length : Nat) : Int), .int .i64 (min ((IW.length : Nat) : Int) 6), .pointer (some ⟨g1, 0, none⟩), .slice aw IW.length cw, .int .i64 ((IW.length : Nat) : Int), .int .i64 (min ((IW.length : Nat) : Int) 6), .slice aw I.length I.length, .slice aw I.length I.length, .int .i64 ((I.length : Nat) : Int), .int .i64 ((i : Nat) : Int), us1 3, us1 4, us1 5, us1 6, us1 7, us1 8, us1 9, us1 10, us1 11, us1 12, us1 13, us1 14, us1 15, us1 16, us1 17, us1 18, us1 19, undef, undef, undef, undef, undef, undef, undef, undef, undef, undef, undef, undef, undef, undef, undef, undef, undef, undef, undef, undef, undef, undef, undef, undef, undef, undef, undef, undef, undef, undef, undef, undef, undef, undef, undef, undef, undef, undef, undef, undef, undef, undef, undef, undef, undef, undef, undef, undef, undef].toArray, []⟩ ∧ i ≤ I.length ∧ Gro w wv ∧ wv.heap[g1]? = some (.cells (wdA aw IW.length cw al Lk.length cl ah Hs.length ch) 45 (0, 0)) ∧ (∀ x y, x < i → y < x → I.getD x 0 ≠ I.getD y 0)) ?_ _ ⟨0, (fun kz => ([.bool false, undef, undef, undef, undef, undef, undef, undef, undef, undef, undef, undef, undef, undef, undef, undef, undef, undef, undef, undef] : List Value).getD kz undef), rfl, rfl, Nat.zero_le _, GG, kg1, (fun x y hx => by omega)⟩
  clear GG kg1
  rintro mz az wv ⟨i, us1, rfl, rfl, hi, GG, kg1, hd⟩
  refine wp_seq ?_
  refine wp_region_lit ?_
  cases hi1 : decide (((i : Nat) : Int) < ((I.length : Nat) : Int))
  · have hie : i = I.length := by have := of_decide_eq_false hi1; omega
    refine s_val 27 rfl rfl (.bool false) (run_lssT 3 _ _ _ rfl ((i : Nat) : Int) ((I.length : Nat) : Int) rfl rfl false hi1 _) ?_
    refine nr ?_; intro U h; simp only [z0, z1] at h; subst h
    refine wpList_nil ?_
    refine then_n ?_
    refine wp_seq ?_
    refine wp_cond_false rfl ?_
    refine wp_exit ?_
    refine then_x ?_
    refine then_x ?_
    refine blk_x ?_
    refine then_n ?_
    refine wp_seq ?_
    refine wp_region_lit ?_
    refine s_val 45 rfl rfl (.agg (wdA aw IW.length cw al Lk.length cl ah Hs.length ch)) (ldW0 _ rfl g1 rfl (kg1)) ?_
    refine nr ?_; intro U h; simp only [z0, z1] at h; subst h
    refine s_val 46 rfl rfl (.slice aw I.length I.length) (rfl) ?_
    refine nr ?_; intro U h; simp only [z0, z1] at h; subst h
    refine s_callx 47 rfl rfl _ 18 Try.call18 rfl rfl _ rfl [.agg (wdA aw IW.length cw al Lk.length cl ah Hs.length ch), .slice aw I.length I.length, .int .i64 12] rfl (rounds_any _ aw cw IW al cl Lk (HK.gro GG) hK ah ch Hs (HHs.gro GG) (fun i hi => ⟨(hH i hi).1.gro GG, (hH i hi).2⟩) hHl aw I.length I (HI.gro GG) hI6 12 (by decide)) (by rintro _ _ ⟨_, _, _, he, _⟩; exact ⟨_, he⟩) ?_
    rintro v w3 ⟨aoB, capB, B, he, G, HB, hBl, hB⟩
    cases he
    replace kg1 := G.has kg1
    replace GG := GG.trans G
    clear G
    refine nr ?_; intro U h; simp only [z0, z1] at h; subst h
    refine s_val 44 rfl rfl (.tuple #[.slice aoB B.length capB, .agg (mxA (warH I.length (lkF I.length (dgF I.length) Lk) I.length))]) (rfl) ?_
    refine nr ?_; intro U h; simp only [z0, z1] at h; subst h
    refine s_val 48 rfl rfl (.slice aoB B.length capB) (rfl) ?_
    refine nr ?_; intro U h; simp only [z0, z1] at h; subst h
    refine s_val 49 rfl rfl (.agg (mxA (warH I.length (lkF I.length (dgF I.length) Lk) I.length))) (rfl) ?_
    refine nr ?_; intro U h; simp only [z0, z1] at h; subst h
    refine s_alloc 7 rfl rfl 47 rfl _ zeroM (mxA mx0) rfl ?_
    intro w4 g2 G eg2 kg2
    have bg2 := size_base GG eg2
    have dg1g2 := lt_new kg1 eg2
    have dHBg2 := HB.ne eg2
    replace kg1 := G.has kg1
    replace HB := HB.gro G
    replace GG := GG.trans G
    clear G
    clear eg2
    refine nr ?_; intro U h; simp only [z0, z1] at h; subst h
    refine s_val 6 rfl rfl (.slice aoB B.length capB) (rfl) ?_
    refine nr ?_; intro U h; simp only [z0, z1] at h; subst h
    refine s_store rfl rfl 47 _ _ rfl g2 0 rfl (.agg (mxA (warH I.length (lkF I.length (dgF I.length) Lk) I.length))) rfl 47 _ kg2 (mxA (warH I.length (lkF I.length (dgF I.length) Lk) I.length)) rfl (siM' _) (mxA_fit _ _) (mxA_one _) (mxA (warH I.length (lkF I.length (dgF I.length) Lk) I.length)) (splice_whole _ _ (mxA_sz _ _)) ?_
    intro w5 St
    have kS := kg2
    replace kg1 := St.has (by omega) kg1
    replace HB := HB.st St dHBg2
    replace GG := GG.store St bg2
    replace kg2 := St.new
    clear St
    refine wpList_nil ?_
    refine then_n ?_
    refine wp_seq ?_
    refine wp_seq ?_
    refine wp_region_lit ?_
    refine s_val 50 rfl rfl (.slice aw I.length I.length) (rfl) ?_
    refine nr ?_; intro U h; simp only [z0, z1] at h; subst h
    refine s_val 51 rfl rfl (.int .i64 ((I.length : Nat) : Int)) (run_len Try.underlying41 _ rfl _ _ _ rfl _) ?_
    refine nr ?_; intro U h; simp only [z0, z1] at h; subst h
    refine s_val 52 rfl rfl (.int .i64 0) (rfl) ?_
    refine nr ?_; intro U h; simp only [z0, z1] at h; subst h
    refine wpList_nil ?_
    refine then_n ?_
    refine wp_block ?_
    rw [hie] at hd
    have hD := dist_of hd
    refine wp_loopN (fun mz az wv => ∃ (a : Nat) (us2 : Nat → Value), mz = I.length + 1 - a ∧ az = ⟨[.agg (wdA aw IW.length cw al Lk.length cl ah Hs.length ch), .pointer (some ⟨g1, 0, none⟩), us2 0, .slice aw I.length I.length, us1 1, us1 2, .slice aoB B.length capB, .pointer (some ⟨g2, 0, none⟩), us2 1, us2 2, us2 3, .bool true, .bool false, .pointer (some ⟨g1, 0, none⟩), .slice aw IW.length cw, .pointer (some ⟨g1, 0, none⟩), .slice aw IW.length cw, .int .i64 ((IW.length : Nat) : Int), .int .i64 (min ((IW.length : Nat) : Int) 6), .pointer (some ⟨g1, 0, none⟩), .slice aw IW.length cw, .int .i64 ((IW.length : Nat) : Int), .int .i64 (min ((IW.length : Nat) : Int) 6), .slice aw I.length I.length, .slice aw I.length I.length, .int .i64 ((I.length : Nat) : Int), .int .i64 ((i : Nat) : Int), .bool false, us1 4, us1 5, us1 6, us1 7, us1 8, us1 9, us1 10, us1 11, us1 12, us1 13, us1 14, us1 15, us1 16, us1 17, us1 18, us1 19, .tuple #[.slice aoB B.length capB, .agg (mxA (warH I.length (lkF I.length (dgF I.length) Lk) I.length))], .agg (wdA aw IW.length cw al Lk.length cl ah Hs.length ch), .slice aw I.length I.length, .tuple #[.slice aoB B.length capB, .agg (mxA (warH I.length (lkF I.length (dgF I.length) Lk) I.length))], .slice aoB B.length capB, .agg (mxA (warH I.length (lkF I.length (dgF I.length) Lk) I.length)), .slice aw I.length I.length, .int .i64 ((I.length : Nat) : Int), .int .i64 ((a : Nat) : Int), us2 4, us2 5, us2 6, us2 7, us2 8, us2 9, us2 10, us2 11, us2 12, us2 13, us2 14, us2 15, us2 16, us2 17, us2 18, us2 19, us2 20, us2 21, us2 22, us2 23, us2 24, us2 25, us2 26, us2 27, us2 28, us2 29, us2 30, us2 31, us2 32, us2 33, us2 34, us2 35, us2 36, us2 37, us2 38, us2 39, us2 40, us2 41, us2 42, us2 43].toArray, []⟩ ∧ a ≤ I.length ∧ Gro w wv ∧ wv.heap[g1]? = some (.cells (wdA aw IW.length cw al Lk.length cl ah Hs.length ch) 45 (0, 0)) ∧ wv.heap[g2]? = some (.cells (mxA (warH I.length (lkF I.length (dgF I.length) Lk) I.length)) 47 (0, 0)) ∧ RK kH wv aoB capB B) ?_ _ ⟨0, (fun kz => ([us1 0, undef, undef, undef, undef, undef, undef, undef, undef, undef, undef, undef, undef, undef, undef, undef, undef, undef, undef, undef, undef, undef, undef, undef, undef, undef, undef, undef, undef, undef, undef, undef, undef, undef, undef, undef, undef, undef, undef, undef, undef, undef, undef, undef] : List Value).getD kz undef), rfl, rfl, Nat.zero_le _, GG, kg1, kg2, HB⟩
    clear GG kg1 kg2 HB
    rintro mz az wv ⟨a, us2, rfl, rfl, ha, GG, kg1, kg2, HB⟩
    refine wp_seq ?_
    refine wp_region_lit ?_
    cases ha1 : decide (((a : Nat) : Int) < ((I.length : Nat) : Int))
    · have hae : a = I.length := by have := of_decide_eq_false ha1; omega
      refine s_val 53 rfl rfl (.bool false) (run_lssT 3 _ _ _ rfl ((a : Nat) : Int) ((I.length : Nat) : Int) rfl rfl false ha1 _) ?_
      refine nr ?_; intro U h; simp only [z0, z1] at h; subst h
      refine wpList_nil ?_
      refine then_n ?_
      refine wp_seq ?_
      refine wp_cond_false rfl ?_
      refine wp_exit ?_
      refine then_x ?_
      refine then_x ?_
      refine blk_x ?_
      refine then_n ?_
      refine wp_seq ?_
      refine wp_region_lit ?_
      refine s_val 2 rfl rfl (.bool true) (rfl) ?_
      refine nr ?_; intro U h; simp only [z0, z1] at h; subst h
      refine wpList_nil ?_
      refine then_n ?_
      refine wp_ret ?_
      refine bodyPost_ret (results_tmp Try.results7 _ _ _) rfl ?_
      exact ⟨rfl, GG⟩
    · have hal : a < I.length := by have := of_decide_eq_true ha1; omega
      refine s_val 53 rfl rfl (.bool true) (run_lssT 3 _ _ _ rfl ((a : Nat) : Int) ((I.length : Nat) : Int) rfl rfl true ha1 _) ?_
      refine nr ?_; intro U h; simp only [z0, z1] at h; subst h
      refine wpList_nil ?_
      refine then_n ?_
      refine wp_seq ?_
      refine wp_cond_true rfl ?_
      refine wp_skip ?_
      refine then_n ?_
      refine wp_seq ?_
      refine wp_block ?_
      refine wp_seq ?_
      refine wp_region_lit ?_
      refine s_val 54 rfl rfl (.int .i64 ((a : Nat) : Int)) (rfl) ?_
      refine nr ?_; intro U h; simp only [z0, z1] at h; subst h
      refine s_val 8 rfl rfl (.int .i64 ((a : Nat) : Int)) (rfl) ?_
      refine nr ?_; intro U h; simp only [z0, z1] at h; subst h
      refine wpList_nil ?_
      refine then_n ?_
      refine wp_seq ?_
      refine wp_region_lit ?_
      refine s_val 55 rfl rfl (.int .i64 ((a : Nat) : Int)) (rfl) ?_
      refine nr ?_; intro U h; simp only [z0, z1] at h; subst h
      refine s_val 9 rfl rfl (.int .i64 ((a : Nat) : Int)) (rfl) ?_
      refine nr ?_; intro U h; simp only [z0, z1] at h; subst h
      refine s_val 10 rfl rfl (.int .i64 0) (rfl) ?_
      refine nr ?_; intro U h; simp only [z0, z1] at h; subst h
      refine wpList_nil ?_
      refine then_n ?_
      refine wp_seq ?_
      refine wp_block ?_
      refine wp_loopN (fun mz az wv => ∃ (pt : Nat) (st : Nat) (us3 : Nat → Value), mz = ((bstT I.length (lkF I.length mx0 Lk) (fun c => I.getD c 0) (h0F I.length (lkF I.length mx0 Lk) Hs) 12) pt).far.toNat + 1 ∧ az = ⟨[.agg (wdA aw IW.length cw al Lk.length cl ah Hs.length ch), .pointer (some ⟨g1, 0, none⟩), us2 0, .slice aw I.length I.length, us1 1, us1 2, .slice aoB B.length capB, .pointer (some ⟨g2, 0, none⟩), .int .i64 ((a : Nat) : Int), .int .i64 ((pt : Nat) : Int), .int .i64 ((st : Nat) : Int), .bool true, .bool false, .pointer (some ⟨g1, 0, none⟩), .slice aw IW.length cw, .pointer (some ⟨g1, 0, none⟩), .slice aw IW.length cw, .int .i64 ((IW.length : Nat) : Int), .int .i64 (min ((IW.length : Nat) : Int) 6), .pointer (some ⟨g1, 0, none⟩), .slice aw IW.length cw, .int .i64 ((IW.length : Nat) : Int), .int .i64 (min ((IW.length : Nat) : Int) 6), .slice aw I.length I.length, .slice aw I.length I.length, .int .i64 ((I.length : Nat) : Int), .int .i64 ((i : Nat) : Int), .bool false, us1 4, us1 5, us1 6, us1 7, us1 8, us1 9, us1 10, us1 11, us1 12, us1 13, us1 14, us1 15, us1 16, us1 17, us1 18, us1 19, .tuple #[.slice aoB B.length capB, .agg (mxA (warH I.length (lkF I.length (dgF I.length) Lk) I.length))], .agg (wdA aw IW.length cw al Lk.length cl ah Hs.length ch), .slice aw I.length I.length, .tuple #[.slice aoB B.length capB, .agg (mxA (warH I.length (lkF I.length (dgF I.length) Lk) I.length))], .slice aoB B.length capB, .agg (mxA (warH I.length (lkF I.length (dgF I.length) Lk) I.length)), .slice aw I.length I.length, .int .i64 ((I.length : Nat) : Int), .int .i64 ((a : Nat) : Int), .bool true, .int .i64 ((a : Nat) : Int), .int .i64 ((a : Nat) : Int), us3 0, us3 1, us3 2, us3 3, us3 4, us3 5, us3 6, us3 7, us3 8, us3 9, us3 10, us3 11, us3 12, us3 13, us3 14, us3 15, us3 16, us2 24, us2 25, us2 26, us2 27, us2 28, us2 29, us2 30, us2 31, us2 32, us2 33, us2 34, us2 35, us2 36, us2 37, us2 38, us2 39, us2 40, us2 41, us2 42, us2 43].toArray, []⟩ ∧ pt < I.length ∧ (((bstT I.length (lkF I.length mx0 Lk) (fun c => I.getD c 0) (h0F I.length (lkF I.length mx0 Lk) Hs) 12) pt).id = ((bstT I.length (lkF I.length mx0 Lk) (fun c => I.getD c 0) (h0F I.length (lkF I.length mx0 Lk) Hs) 12) a).id) ∧ (((bstT I.length (lkF I.length mx0 Lk) (fun c => I.getD c 0) (h0F I.length (lkF I.length mx0 Lk) Hs) 12) a).far = ((bstT I.length (lkF I.length mx0 Lk) (fun c => I.getD c 0) (h0F I.length (lkF I.length mx0 Lk) Hs) 12) pt).far + ((st : Nat) : Int)) ∧ Gro w wv ∧ wv.heap[g1]? = some (.cells (wdA aw IW.length cw al Lk.length cl ah Hs.length ch) 45 (0, 0)) ∧ wv.heap[g2]? = some (.cells (mxA (warH I.length (lkF I.length (dgF I.length) Lk) I.length)) 47 (0, 0)) ∧ RK kH wv aoB capB B) ?_ _ ⟨a, 0, (fun kz => ([us2 7, us2 8, us2 9, us2 10, us2 11, us2 12, us2 13, us2 14, us2 15, us2 16, us2 17, us2 18, us2 19, us2 20, us2 21, us2 22, us2 23] : List Value).getD kz undef), rfl, rfl, hal, rfl, (by omega), GG, kg1, kg2, HB⟩
      clear GG kg1 kg2 HB
      rintro mz az wv ⟨pt, st, us3, rfl, rfl, hpt, hpi, hpf, GG, kg1, kg2, HB⟩
      have hfa := bstT_far (n := I.length) (lk := (lkF I.length mx0 Lk)) (ids := (fun c => I.getD c 0)) (h0 := (h0F I.length (lkF I.length mx0 Lk) Hs)) 12 a
      have hfp := bstT_far (n := I.length) (lk := (lkF I.length mx0 Lk)) (ids := (fun c => I.getD c 0)) (h0 := (h0F I.length (lkF I.length mx0 Lk) Hs)) 12 pt
      have hw2 : decide (((st : Nat) : Int) < 10) = true := decide_eq_true (by omega)
      have hwy := way_any I.length hI6 Lk (fun c => I.getD c 0) Hs hD hpt
      have hbp := hB pt hpt
      refine wp_seq ?_
      refine wp_seq ?_
      cases w1 : decide (0 ≤ (B.getD pt zH).n)
      · refine wp_region_opq ?_
        intro OPS hY
        have y6 := hY 6 62 rfl
        clear hY
        refine s_val 56 rfl rfl (.slice aoB B.length capB) (rfl) ?_
        refine nr ?_; intro U h; simp only [z0, z1] at h; subst h
        refine s_val 57 rfl rfl (.int .i64 ((pt : Nat) : Int)) (rfl) ?_
        refine nr ?_; intro U h; simp only [z0, z1] at h; subst h
        refine s_val 58 rfl rfl (.pointer (pK kH aoB pt 0)) (run_ixK rH (HB) _ _ rfl rfl pt rfl (by omega)) ?_
        refine nr ?_; intro U h; simp only [z0, z1] at h; subst h
        refine s_val 59 rfl rfl (.pointer (pK kH aoB pt 0)) (run_fdK (HB) 26 _ 0 0 (fdH_0 _) rfl pt rfl (by omega)) ?_
        refine nr ?_; intro U h; simp only [z0, z1] at h; subst h
        refine s_val 60 rfl rfl (.int .i64 (B.getD pt zH).n) (run_ldKHn (HB) _ rfl pt rfl (by omega)) ?_
        refine nr ?_; intro U h; simp only [z0, z1] at h; subst h
        refine s_val 61 rfl rfl (.bool false) (run_geqT 3 _ _ _ rfl (B.getD pt zH).n 0 rfl rfl false w1 _) ?_
        refine nr ?_; intro U h; simp only [z0, z1] at h; subst h
        refine s_val 62 rfl rfl (.bool false) (rfl) ?_
        refine nr ?_; intro U h; simp only [z0, z1] at h; subst h
        refine s_skipY 63 rfl rfl y6 rfl ?_
        refine nr ?_; intro U h; simp only [z0, z1] at h; subst h
        refine s_skipY 64 rfl rfl y6 rfl ?_
        refine nr ?_; intro U h; simp only [z0, z1] at h; subst h
        refine s_val 65 rfl rfl (.bool false) (rfl) ?_
        refine nr ?_; intro U h; simp only [z0, z1] at h; subst h
        refine wpList_nil ?_
        refine then_n ?_
        refine wp_cond_false rfl ?_
        refine wp_exit ?_
        refine then_x ?_
        refine then_x ?_
        refine blk_x ?_
        refine then_n ?_
        refine wp_seq ?_
        have hoe : (bstT I.length (lkF I.length mx0 Lk) (fun c => I.getD c 0) (h0F I.length (lkF I.length mx0 Lk) Hs) 12) pt = hdOwn (I.getD pt 0) := hwy.resolve_right (fun h8 => by obtain ⟨pb, _, hn8, _⟩ := h8; have h9 := of_decide_eq_false w1; rw [hbp, hn8] at h9; exact h9 (Int.natCast_nonneg _))
        have q1 : decide (I.getD pt 0 = (B.getD a zH).id) = true := decide_eq_true (by rw [hB a hal, ← hpi, hoe]; rfl)
        have q2 : decide (((st : Nat) : Int) = (B.getD a zH).far) = true := decide_eq_true (by rw [hB a hal, hpf, hoe]; simp [hdOwn])
        refine wp_region_exA (A := ?Ax5) 18 [(0, 73), (1, 74), (2, 75), (3, 76), (4, 77), (5, 78), (6, 79), (7, 80), (8, 81), (9, 82), (10, 83), (11, 84), (12, 85), (13, 86), (14, 87), (15, 88), (16, 89), (17, 90)] [.val (.slice aw I.length I.length), .val (.int .i64 ((pt : Nat) : Int)), .val (.pointer (pK kI aw pt 0)), .val (.agg (idA (I.getD pt 0))), .val (.slice aoB B.length capB), .val (.int .i64 ((a : Nat) : Int)), .val (.pointer (pK kH aoB a 0)), .val (.pointer (pK kH aoB a 1)), .val (.agg (idA (B.getD a zH).id)), .val (.bool false), .val (.bool false), .val (.int .i64 ((st : Nat) : Int)), .val (.slice aoB B.length capB), .val (.int .i64 ((a : Nat) : Int)), .val (.pointer (pK kH aoB a 0)), .val (.pointer (pK kH aoB a 17)), .val (.int .i64 (B.getD a zH).far), .val (.bool false)] follows (by kernel_rfl) rfl ?hAx5 (opsA_cons ?o0x5 (opsA_cons ?o1x5 (opsA_cons ?o2x5 (opsA_cons ?o3x5 (opsA_cons ?o4x5 (opsA_cons ?o5x5 (opsA_cons ?o6x5 (opsA_cons ?o7x5 (opsA_cons ?o8x5 (opsA_cons ?o9x5 (opsA_cons ?o10x5 (opsA_cons ?o11x5 (opsA_cons ?o12x5 (opsA_cons ?o13x5 (opsA_cons ?o14x5 (opsA_cons ?o15x5 (opsA_cons ?o16x5 (opsA_cons ?o17x5 opsA_nil)))))))))))))))))) ?restx5
        case hAx5 =>
          intro ptrs
          simp only [full, foldSlots, filledE, postE, List.foldl_cons, List.foldl_nil, List.getD_cons_zero, List.getD_cons_succ, fill_val, List.set_cons_zero, List.set_cons_succ]
          exact rfl
        case o0x5 => exact fun _ _ _ _ => opE_move (v := .slice aw I.length I.length) _ rfl rfl rfl
        case o1x5 => exact fun _ _ _ _ => opE_move (v := .int .i64 ((pt : Nat) : Int)) _ rfl rfl rfl
        case o2x5 => exact fun _ _ hw _ => opE_value (v := .pointer (pK kI aw pt 0)) rfl (run_ixK rI (HI.gro (GG.drew.trans hw)) _ _ rfl rfl pt rfl (by omega))
        case o3x5 => exact fun _ _ hw _ => opE_value (v := .agg (idA (I.getD pt 0))) rfl (run_ldKI (HI.gro (GG.drew.trans hw)) _ rfl pt rfl (by omega))
        case o4x5 => exact fun _ _ _ _ => opE_move (v := .slice aoB B.length capB) _ rfl rfl rfl
        case o5x5 => exact fun _ _ _ _ => opE_move (v := .int .i64 ((a : Nat) : Int)) _ rfl rfl rfl
        case o6x5 => exact fun _ _ hw _ => opE_value (v := .pointer (pK kH aoB a 0)) rfl (run_ixK rH (HB.gro ((Gro.refl _).drew.trans hw)) _ _ rfl rfl a rfl (by omega))
        case o7x5 => exact fun _ _ hw _ => opE_value (v := .pointer (pK kH aoB a 1)) rfl (run_fdK (HB.gro ((Gro.refl _).drew.trans hw)) 26 _ 1 1 (fdH_1 _) rfl a rfl (by omega))
        case o8x5 => exact fun _ _ hw _ => opE_value (v := .agg (idA (B.getD a zH).id)) rfl (run_ldKHi (HB.gro ((Gro.refl _).drew.trans hw)) _ rfl a rfl (by omega))
        case o9x5 => exact fun _ _ _ _ => opE_value (v := .bool false) rfl (run_neI _ _ _ rfl _ _ rfl rfl (atI HI (by omega)) (atH HB (by omega)).id false q1)
        case o10x5 => exact fun _ _ _ _ => opE_move (v := .bool false) _ rfl rfl rfl
        case o11x5 => exact fun _ _ _ _ => opE_move (v := .int .i64 ((st : Nat) : Int)) _ rfl rfl rfl
        case o12x5 => exact fun _ _ _ _ => opE_move (v := .slice aoB B.length capB) _ rfl rfl rfl
        case o13x5 => exact fun _ _ _ _ => opE_move (v := .int .i64 ((a : Nat) : Int)) _ rfl rfl rfl
        case o14x5 => exact fun _ _ hw _ => opE_value (v := .pointer (pK kH aoB a 0)) rfl (run_ixK rH (HB.gro ((Gro.refl _).drew.trans hw)) _ _ rfl rfl a rfl (by omega))
        case o15x5 => exact fun _ _ hw _ => opE_value (v := .pointer (pK kH aoB a 17)) rfl (run_fdK (HB.gro ((Gro.refl _).drew.trans hw)) 26 _ 2 17 (fdH_2 _) rfl a rfl (by omega))
        case o16x5 => exact fun _ _ hw _ => opE_value (v := .int .i64 (B.getD a zH).far) rfl (run_ldKHf (HB.gro ((Gro.refl _).drew.trans hw)) _ rfl a rfl (by omega))
        case o17x5 => exact fun _ _ _ _ => opE_value (v := .bool false) rfl (run_neq_k 2 .i64 _ _ _ rfl Try.underlying2 ((st : Nat) : Int) (B.getD a zH).far rfl rfl false q2 _)
        intro ptrs w6 GD hxE
        simp only [List.drop_succ_cons, List.drop_zero]
        replace kg1 := GD.has kg1
        replace kg2 := GD.has kg2
        replace HB := HB.gro ((Gro.refl _).drew.trans GD)
        replace GG := GG.drew.trans GD
        clear GD
        refine s_val 91 rfl rfl (.bool false) (rfl) ?_
        refine nr ?_; intro U h; simp only [z0, z1] at h; subst h
        refine wpList_nil ?_
        refine then_n ?_
        refine wp_cond_false rfl ?_
        refine wp_skip ?_
        refine blk_n ?_
        refine then_n ?_
        refine wp_region_lit ?_
        refine s_val 92 rfl rfl (.int .i64 ((a + 1 : Nat) : Int)) (run_addI 3 _ _ _ rfl ((a : Nat) : Int) 1 ((a + 1 : Nat) : Int) rfl rfl (by omega) (by omega) (by omega) _) ?_
        refine nr ?_; intro U h; simp only [z0, z1] at h; subst h
        refine s_val 52 rfl rfl (.int .i64 ((a + 1 : Nat) : Int)) (rfl) ?_
        refine nr ?_; intro U h; simp only [z0, z1] at h; subst h
        refine wpList_nil ?_
        refine then_n ?_
        exact ⟨I.length + 1 - (a + 1), by omega, a + 1, (fun kz => ([us2 0, .int .i64 ((a : Nat) : Int), .int .i64 ((pt : Nat) : Int), .int .i64 ((st : Nat) : Int), .bool true, .int .i64 ((a : Nat) : Int), .int .i64 ((a : Nat) : Int), .slice aoB B.length capB, .int .i64 ((pt : Nat) : Int), .pointer (pK kH aoB pt 0), .pointer (pK kH aoB pt 0), .int .i64 (B.getD pt zH).n, .bool false, .bool false, undef, undef, .bool false, us3 10, us3 11, us3 12, us3 13, us3 14, us3 15, us3 16, .slice aw I.length I.length, .int .i64 ((pt : Nat) : Int), .pointer (pK kI aw pt 0), .agg (idA (I.getD pt 0)), .slice aoB B.length capB, .int .i64 ((a : Nat) : Int), .pointer (pK kH aoB a 0), .pointer (pK kH aoB a 1), .agg (idA (B.getD a zH).id), .bool false, .bool false, .int .i64 ((st : Nat) : Int), .slice aoB B.length capB, .int .i64 ((a : Nat) : Int), .pointer (pK kH aoB a 0), .pointer (pK kH aoB a 17), .int .i64 (B.getD a zH).far, .bool false, .bool false, .int .i64 ((a + 1 : Nat) : Int)] : List Value).getD kz undef), rfl, rfl, by omega, GG, kg1, kg2, HB⟩
      · obtain ⟨pb, hpb, hpbn, hpbi, hpbf⟩ := hwy.resolve_left (fun e => by have h8 := of_decide_eq_true w1; rw [hbp, e] at h8; exact absurd h8 (show ¬ (0 : Int) ≤ -1 by decide))
        refine wp_region_opq ?_
        intro OPS hY
        have y6 := hY 6 62 rfl
        clear hY
        refine s_val 56 rfl rfl (.slice aoB B.length capB) (rfl) ?_
        refine nr ?_; intro U h; simp only [z0, z1] at h; subst h
        refine s_val 57 rfl rfl (.int .i64 ((pt : Nat) : Int)) (rfl) ?_
        refine nr ?_; intro U h; simp only [z0, z1] at h; subst h
        refine s_val 58 rfl rfl (.pointer (pK kH aoB pt 0)) (run_ixK rH (HB) _ _ rfl rfl pt rfl (by omega)) ?_
        refine nr ?_; intro U h; simp only [z0, z1] at h; subst h
        refine s_val 59 rfl rfl (.pointer (pK kH aoB pt 0)) (run_fdK (HB) 26 _ 0 0 (fdH_0 _) rfl pt rfl (by omega)) ?_
        refine nr ?_; intro U h; simp only [z0, z1] at h; subst h
        refine s_val 60 rfl rfl (.int .i64 (B.getD pt zH).n) (run_ldKHn (HB) _ rfl pt rfl (by omega)) ?_
        refine nr ?_; intro U h; simp only [z0, z1] at h; subst h
        refine s_val 61 rfl rfl (.bool true) (run_geqT 3 _ _ _ rfl (B.getD pt zH).n 0 rfl rfl true w1 _) ?_
        refine nr ?_; intro U h; simp only [z0, z1] at h; subst h
        refine s_val 62 rfl rfl (.bool true) (rfl) ?_
        refine nr ?_; intro U h; simp only [z0, z1] at h; subst h
        refine s_gvalY 63 rfl rfl y6 rfl (.int .i64 ((st : Nat) : Int)) (rfl) ?_
        refine nr ?_; intro U h; simp only [z0, z1] at h; subst h
        refine s_gvalY 64 rfl rfl y6 rfl (.bool true) (run_lssT 2 _ _ _ rfl ((st : Nat) : Int) 10 rfl rfl true hw2 _) ?_
        refine nr ?_; intro U h; simp only [z0, z1] at h; subst h
        refine s_val 65 rfl rfl (.bool true) (rfl) ?_
        refine nr ?_; intro U h; simp only [z0, z1] at h; subst h
        refine wpList_nil ?_
        refine then_n ?_
        refine wp_cond_true rfl ?_
        refine wp_skip ?_
        refine then_n ?_
        refine wp_block ?_
        refine wp_seq ?_
        refine wp_region_lit ?_
        refine s_val 66 rfl rfl (.slice aoB B.length capB) (rfl) ?_
        refine nr ?_; intro U h; simp only [z0, z1] at h; subst h
        refine s_val 67 rfl rfl (.int .i64 ((pt : Nat) : Int)) (rfl) ?_
        refine nr ?_; intro U h; simp only [z0, z1] at h; subst h
        refine s_val 68 rfl rfl (.pointer (pK kH aoB pt 0)) (run_ixK rH (HB) _ _ rfl rfl pt rfl (by omega)) ?_
        refine nr ?_; intro U h; simp only [z0, z1] at h; subst h
        refine s_val 69 rfl rfl (.pointer (pK kH aoB pt 0)) (run_fdK (HB) 26 _ 0 0 (fdH_0 _) rfl pt rfl (by omega)) ?_
        refine nr ?_; intro U h; simp only [z0, z1] at h; subst h
        refine s_val 70 rfl rfl (.int .i64 ((pb : Nat) : Int)) (vI (run_ldKHn HB _ rfl pt rfl (by omega)) (by rw [hbp]; exact hpbn)) ?_
        refine nr ?_; intro U h; simp only [z0, z1] at h; subst h
        refine s_val 9 rfl rfl (.int .i64 ((pb : Nat) : Int)) (rfl) ?_
        refine nr ?_; intro U h; simp only [z0, z1] at h; subst h
        refine wpList_nil ?_
        refine then_n ?_
        refine wp_region_lit ?_
        refine s_val 71 rfl rfl (.int .i64 ((st : Nat) : Int)) (rfl) ?_
        refine nr ?_; intro U h; simp only [z0, z1] at h; subst h
        refine s_val 72 rfl rfl (.int .i64 ((st + 1 : Nat) : Int)) (run_addI 2 _ _ _ rfl ((st : Nat) : Int) 1 ((st + 1 : Nat) : Int) rfl rfl (by omega) (by omega) (by omega) _) ?_
        refine nr ?_; intro U h; simp only [z0, z1] at h; subst h
        refine s_val 10 rfl rfl (.int .i64 ((st + 1 : Nat) : Int)) (rfl) ?_
        refine nr ?_; intro U h; simp only [z0, z1] at h; subst h
        refine wpList_nil ?_
        refine blk_n ?_
        refine then_n ?_
        have hfb := bstT_far (n := I.length) (lk := (lkF I.length mx0 Lk)) (ids := (fun c => I.getD c 0)) (h0 := (h0F I.length (lkF I.length mx0 Lk) Hs)) 12 pb
        exact ⟨((bstT I.length (lkF I.length mx0 Lk) (fun c => I.getD c 0) (h0F I.length (lkF I.length mx0 Lk) Hs) 12) pb).far.toNat + 1, by omega, pb, st + 1, (fun kz => ([.slice aoB B.length capB, .int .i64 ((pt : Nat) : Int), .pointer (pK kH aoB pt 0), .pointer (pK kH aoB pt 0), .int .i64 (B.getD pt zH).n, .bool true, .bool true, .int .i64 ((st : Nat) : Int), .bool true, .bool true, .slice aoB B.length capB, .int .i64 ((pt : Nat) : Int), .pointer (pK kH aoB pt 0), .pointer (pK kH aoB pt 0), .int .i64 ((pb : Nat) : Int), .int .i64 ((st : Nat) : Int), .int .i64 ((st + 1 : Nat) : Int)] : List Value).getD kz undef), rfl, rfl, hpb, hpbi.trans hpi, by omega, GG, kg1, kg2, HB⟩
  · have hil : i < I.length := by have := of_decide_eq_true hi1; omega
    refine s_val 27 rfl rfl (.bool true) (run_lssT 3 _ _ _ rfl ((i : Nat) : Int) ((I.length : Nat) : Int) rfl rfl true hi1 _) ?_
    refine nr ?_; intro U h; simp only [z0, z1] at h; subst h
    refine wpList_nil ?_
    refine then_n ?_
    refine wp_seq ?_
    refine wp_cond_true rfl ?_
    refine wp_skip ?_
    refine then_n ?_
    refine wp_seq ?_
    refine wp_block ?_
    refine wp_seq ?_
    refine wp_region_lit ?_
    refine s_val 28 rfl rfl (.int .i64 ((i : Nat) : Int)) (rfl) ?_
    refine nr ?_; intro U h; simp only [z0, z1] at h; subst h
    refine s_val 4 rfl rfl (.int .i64 ((i : Nat) : Int)) (rfl) ?_
    refine nr ?_; intro U h; simp only [z0, z1] at h; subst h
    refine wpList_nil ?_
    refine then_n ?_
    refine wp_seq ?_
    refine wp_region_lit ?_
    refine s_val 29 rfl rfl (.int .i64 ((i : Nat) : Int)) (rfl) ?_
    refine nr ?_; intro U h; simp only [z0, z1] at h; subst h
    refine s_val 30 rfl rfl (.int .i64 0) (rfl) ?_
    refine nr ?_; intro U h; simp only [z0, z1] at h; subst h
    refine wpList_nil ?_
    refine then_n ?_
    refine wp_block ?_
    refine wp_loopN (fun mz az wv => ∃ (k : Nat) (us2 : Nat → Value), mz = i + 1 - k ∧ az = ⟨[.agg (wdA aw IW.length cw al Lk.length cl ah Hs.length ch), .pointer (some ⟨g1, 0, none⟩), us2 0, .slice aw I.length I.length, .int .i64 ((i : Nat) : Int), us2 1, undef, undef, undef, undef, undef, .bool true, .bool false, .pointer (some ⟨g1, 0, none⟩), .slice aw IW.length cw, .pointer (some ⟨g1, 0, none⟩), .slice aw IW.length cw, .int .i64 ((IW.length : Nat) : Int), .int .i64 (min ((IW.length : Nat) : Int) 6), .pointer (some ⟨g1, 0, none⟩), .slice aw IW.length cw, .int .i64 ((IW.length : Nat) : Int), .int .i64 (min ((IW.length : Nat) : Int) 6), .slice aw I.length I.length, .slice aw I.length I.length, .int .i64 ((I.length : Nat) : Int), .int .i64 ((i : Nat) : Int), .bool true, .int .i64 ((i : Nat) : Int), .int .i64 ((i : Nat) : Int), .int .i64 ((k : Nat) : Int), us2 2, us2 3, us2 4, us2 5, us2 6, us2 7, us2 8, us2 9, us2 10, us2 11, us2 12, us2 13, us1 19, undef, undef, undef, undef, undef, undef, undef, undef, undef, undef, undef, undef, undef, undef, undef, undef, undef, undef, undef, undef, undef, undef, undef, undef, undef, undef, undef, undef, undef, undef, undef, undef, undef, undef, undef, undef, undef, undef, undef, undef, undef, undef, undef, undef, undef, undef, undef, undef, undef].toArray, []⟩ ∧ k ≤ i ∧ Gro w wv ∧ wv.heap[g1]? = some (.cells (wdA aw IW.length cw al Lk.length cl ah Hs.length ch) 45 (0, 0)) ∧ (∀ y, y < k → I.getD i 0 ≠ I.getD y 0)) ?_ _ ⟨0, (fun kz => ([us1 0, us1 2, us1 7, us1 8, us1 9, us1 10, us1 11, us1 12, us1 13, us1 14, us1 15, us1 16, us1 17, us1 18] : List Value).getD kz undef), rfl, rfl, Nat.zero_le _, GG, kg1, (fun y hy => by omega)⟩
    clear GG kg1
    rintro mz az wv ⟨k, us2, rfl, rfl, hk, GG, kg1, hdk⟩
    refine wp_seq ?_
    refine wp_region_lit ?_
    cases hk1 : decide (((k : Nat) : Int) < ((i : Nat) : Int))
    · have hke : k = i := by have := of_decide_eq_false hk1; omega
      refine s_val 31 rfl rfl (.bool false) (run_lssT 3 _ _ _ rfl ((k : Nat) : Int) ((i : Nat) : Int) rfl rfl false hk1 _) ?_
      refine nr ?_; intro U h; simp only [z0, z1] at h; subst h
      refine wpList_nil ?_
      refine then_n ?_
      refine wp_seq ?_
      refine wp_cond_false rfl ?_
      refine wp_exit ?_
      refine then_x ?_
      refine then_x ?_
      refine blk_x ?_
      refine blk_n ?_
      refine then_n ?_
      refine wp_region_lit ?_
      refine s_val 43 rfl rfl (.int .i64 ((i + 1 : Nat) : Int)) (run_addI 3 _ _ _ rfl ((i : Nat) : Int) 1 ((i + 1 : Nat) : Int) rfl rfl (by omega) (by omega) (by omega) _) ?_
      refine nr ?_; intro U h; simp only [z0, z1] at h; subst h
      refine s_val 26 rfl rfl (.int .i64 ((i + 1 : Nat) : Int)) (rfl) ?_
      refine nr ?_; intro U h; simp only [z0, z1] at h; subst h
      refine wpList_nil ?_
      refine then_n ?_
      exact ⟨I.length + 1 - (i + 1), by omega, i + 1, (fun kz => ([us2 0, .int .i64 ((i : Nat) : Int), us2 1, .bool true, .int .i64 ((i : Nat) : Int), .int .i64 ((i : Nat) : Int), .int .i64 ((k : Nat) : Int), .bool false, us2 3, us2 4, us2 5, us2 6, us2 7, us2 8, us2 9, us2 10, us2 11, us2 12, us2 13, .int .i64 ((i + 1 : Nat) : Int)] : List Value).getD kz undef), rfl, rfl, by omega, GG, kg1, dist_out hd hdk hke⟩
    · have hkl : k < i := by have := of_decide_eq_true hk1; omega
      refine s_val 31 rfl rfl (.bool true) (run_lssT 3 _ _ _ rfl ((k : Nat) : Int) ((i : Nat) : Int) rfl rfl true hk1 _) ?_
      refine nr ?_; intro U h; simp only [z0, z1] at h; subst h
      refine wpList_nil ?_
      refine then_n ?_
      refine wp_seq ?_
      refine wp_cond_true rfl ?_
      refine wp_skip ?_
      refine then_n ?_
      refine wp_seq ?_
      refine wp_block ?_
      refine wp_seq ?_
      refine wp_region_lit ?_
      refine s_val 32 rfl rfl (.int .i64 ((k : Nat) : Int)) (rfl) ?_
      refine nr ?_; intro U h; simp only [z0, z1] at h; subst h
      refine s_val 5 rfl rfl (.int .i64 ((k : Nat) : Int)) (rfl) ?_
      refine nr ?_; intro U h; simp only [z0, z1] at h; subst h
      refine wpList_nil ?_
      refine then_n ?_
      refine wp_seq ?_
      cases e1 : decide (I.getD i 0 = I.getD k 0)
      · refine wp_region_exA (A := ?Ax6) 8 [(0, 33), (1, 34), (2, 35), (3, 36), (4, 37), (5, 38), (6, 39), (7, 40)] [.val (.slice aw I.length I.length), .val (.int .i64 ((i : Nat) : Int)), .val (.pointer (pK kI aw i 0)), .val (.agg (idA (I.getD i 0))), .val (.slice aw I.length I.length), .val (.int .i64 ((k : Nat) : Int)), .val (.pointer (pK kI aw k 0)), .val (.agg (idA (I.getD k 0)))] follows (by kernel_rfl) rfl ?hAx6 (opsA_cons ?o0x6 (opsA_cons ?o1x6 (opsA_cons ?o2x6 (opsA_cons ?o3x6 (opsA_cons ?o4x6 (opsA_cons ?o5x6 (opsA_cons ?o6x6 (opsA_cons ?o7x6 opsA_nil)))))))) ?restx6
        case hAx6 =>
          intro ptrs
          simp only [full, foldSlots, filledE, postE, List.foldl_cons, List.foldl_nil, List.getD_cons_zero, List.getD_cons_succ, fill_val, List.set_cons_zero, List.set_cons_succ]
          exact rfl
        case o0x6 => exact fun _ _ _ _ => opE_move (v := .slice aw I.length I.length) _ rfl rfl rfl
        case o1x6 => exact fun _ _ _ _ => opE_move (v := .int .i64 ((i : Nat) : Int)) _ rfl rfl rfl
        case o2x6 => exact fun _ _ hw _ => opE_value (v := .pointer (pK kI aw i 0)) rfl (run_ixK rI (HI.gro (GG.drew.trans hw)) _ _ rfl rfl i rfl (by omega))
        case o3x6 => exact fun _ _ hw _ => opE_value (v := .agg (idA (I.getD i 0))) rfl (run_ldKI (HI.gro (GG.drew.trans hw)) _ rfl i rfl (by omega))
        case o4x6 => exact fun _ _ _ _ => opE_move (v := .slice aw I.length I.length) _ rfl rfl rfl
        case o5x6 => exact fun _ _ _ _ => opE_move (v := .int .i64 ((k : Nat) : Int)) _ rfl rfl rfl
        case o6x6 => exact fun _ _ hw _ => opE_value (v := .pointer (pK kI aw k 0)) rfl (run_ixK rI (HI.gro (GG.drew.trans hw)) _ _ rfl rfl k rfl (by omega))
        case o7x6 => exact fun _ _ hw _ => opE_value (v := .agg (idA (I.getD k 0))) rfl (run_ldKI (HI.gro (GG.drew.trans hw)) _ rfl k rfl (by omega))
        intro ptrs w3 GD hxE
        simp only [List.drop_succ_cons, List.drop_zero]
        replace kg1 := GD.has kg1
        replace GG := GG.drew.trans GD
        clear GD
        refine s_val 41 rfl rfl (.bool false) (run_eqI _ _ _ rfl _ _ rfl rfl (atI HI (by omega)) (atI HI (by omega)) false e1) ?_
        refine nr ?_; intro U h; simp only [z0, z1] at h; subst h
        refine wpList_nil ?_
        refine then_n ?_
        refine wp_cond_false rfl ?_
        refine wp_skip ?_
        refine blk_n ?_
        refine then_n ?_
        refine wp_region_lit ?_
        refine s_val 42 rfl rfl (.int .i64 ((k + 1 : Nat) : Int)) (run_addI 3 _ _ _ rfl ((k : Nat) : Int) 1 ((k + 1 : Nat) : Int) rfl rfl (by omega) (by omega) (by omega) _) ?_
        refine nr ?_; intro U h; simp only [z0, z1] at h; subst h
        refine s_val 30 rfl rfl (.int .i64 ((k + 1 : Nat) : Int)) (rfl) ?_
        refine nr ?_; intro U h; simp only [z0, z1] at h; subst h
        refine wpList_nil ?_
        refine then_n ?_
        exact ⟨i + 1 - (k + 1), by omega, k + 1, (fun kz => ([us2 0, .int .i64 ((k : Nat) : Int), .bool true, .int .i64 ((k : Nat) : Int), .slice aw I.length I.length, .int .i64 ((i : Nat) : Int), .pointer (pK kI aw i 0), .agg (idA (I.getD i 0)), .slice aw I.length I.length, .int .i64 ((k : Nat) : Int), .pointer (pK kI aw k 0), .agg (idA (I.getD k 0)), .bool false, .int .i64 ((k + 1 : Nat) : Int)] : List Value).getD kz undef), rfl, rfl, by omega, GG, kg1, dist_in hdk (of_decide_eq_false e1)⟩
      · refine wp_region_exA (A := ?Ax7) 8 [(0, 33), (1, 34), (2, 35), (3, 36), (4, 37), (5, 38), (6, 39), (7, 40)] [.val (.slice aw I.length I.length), .val (.int .i64 ((i : Nat) : Int)), .val (.pointer (pK kI aw i 0)), .val (.agg (idA (I.getD i 0))), .val (.slice aw I.length I.length), .val (.int .i64 ((k : Nat) : Int)), .val (.pointer (pK kI aw k 0)), .val (.agg (idA (I.getD k 0)))] follows (by kernel_rfl) rfl ?hAx7 (opsA_cons ?o0x7 (opsA_cons ?o1x7 (opsA_cons ?o2x7 (opsA_cons ?o3x7 (opsA_cons ?o4x7 (opsA_cons ?o5x7 (opsA_cons ?o6x7 (opsA_cons ?o7x7 opsA_nil)))))))) ?restx7
        case hAx7 =>
          intro ptrs
          simp only [full, foldSlots, filledE, postE, List.foldl_cons, List.foldl_nil, List.getD_cons_zero, List.getD_cons_succ, fill_val, List.set_cons_zero, List.set_cons_succ]
          exact rfl
        case o0x7 => exact fun _ _ _ _ => opE_move (v := .slice aw I.length I.length) _ rfl rfl rfl
        case o1x7 => exact fun _ _ _ _ => opE_move (v := .int .i64 ((i : Nat) : Int)) _ rfl rfl rfl
        case o2x7 => exact fun _ _ hw _ => opE_value (v := .pointer (pK kI aw i 0)) rfl (run_ixK rI (HI.gro (GG.drew.trans hw)) _ _ rfl rfl i rfl (by omega))
        case o3x7 => exact fun _ _ hw _ => opE_value (v := .agg (idA (I.getD i 0))) rfl (run_ldKI (HI.gro (GG.drew.trans hw)) _ rfl i rfl (by omega))
        case o4x7 => exact fun _ _ _ _ => opE_move (v := .slice aw I.length I.length) _ rfl rfl rfl
        case o5x7 => exact fun _ _ _ _ => opE_move (v := .int .i64 ((k : Nat) : Int)) _ rfl rfl rfl
        case o6x7 => exact fun _ _ hw _ => opE_value (v := .pointer (pK kI aw k 0)) rfl (run_ixK rI (HI.gro (GG.drew.trans hw)) _ _ rfl rfl k rfl (by omega))
        case o7x7 => exact fun _ _ hw _ => opE_value (v := .agg (idA (I.getD k 0))) rfl (run_ldKI (HI.gro (GG.drew.trans hw)) _ rfl k rfl (by omega))
        intro ptrs w3 GD hxE
        simp only [List.drop_succ_cons, List.drop_zero]
        replace kg1 := GD.has kg1
        replace GG := GG.drew.trans GD
        clear GD
        refine s_val 41 rfl rfl (.bool true) (run_eqI _ _ _ rfl _ _ rfl rfl (atI HI (by omega)) (atI HI (by omega)) true e1) ?_
        refine nr ?_; intro U h; simp only [z0, z1] at h; subst h
        refine wpList_nil ?_
        refine then_n ?_
        refine wp_cond_true rfl ?_
        refine wp_seq ?_
        refine wp_region_lit ?_
        refine s_val 2 rfl rfl (.bool true) (rfl) ?_
        refine nr ?_; intro U h; simp only [z0, z1] at h; subst h
        refine wpList_nil ?_
        refine then_n ?_
        refine wp_ret ?_
        refine blk_r ?_
        refine then_r ?_
        refine then_r ?_
        refine blk_r ?_
        refine blk_r ?_
        refine then_r ?_
        refine then_r ?_
        refine blk_r ?_
        refine then_r ?_
        refine bodyPost_ret (results_tmp Try.results7 _ _ _) rfl ?_
        exact ⟨rfl, GG⟩
end Go.Proofs.Ytljihaihhnamfaa
