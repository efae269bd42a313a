/- Two sorted halves are merged in place. -/
import Derived.Test.YtfabgonoonanfaaEA3
namespace Go.Proofs.Ytfabgonoonanfaa
open Go.RowKit
theorem wp_meet {P : Program} {c1 c2 : Code} {Q : Exit → Act → World → Prop} {a : Act} {w : World} (R : Act → World → Prop) (h2 : ∀ a w, R a w → c2.wp P Q a w) (h1 : (∀ a w, R a w → c2.wp P Q a w) → (Code.seq c1 c2).wp P Q a w) : (Code.seq c1 c2).wp P Q a w := h1 h2
theorem cv3u {o : Oper} {A : Act} (x : Operand) (ho : o.op = .convert 3 77 x) (n : Nat) (hn : n < 9223372036854775808) (hx : A.eval x = .int .i64 (n : Int)) (w : World) : (execOp A.eval o).run Try.prog w = .ok (.value (.int .u64 (n : Int))) w := by
  have h : IntKind.u64.wrap (n : Int) = (n : Int) := by
    simp [IntKind.wrap, IntKind.bits, IntKind.signed]
    omega
  unfold execOp
  simp only [ho, hx]
  simp [go_sem, h]
theorem cvu3 {o : Oper} {A : Act} (x : Operand) (ho : o.op = .convert 77 3 x) (n : Nat) (hn : n < 9223372036854775808) (hx : A.eval x = .int .u64 (n : Int)) (w : World) : (execOp A.eval o).run Try.prog w = .ok (.value (.int .i64 (n : Int))) w := by
  have h : IntKind.i64.wrap (n : Int) = (n : Int) := wrap_in _ (by omega) (by omega)
  unfold execOp
  simp only [ho, hx]
  simp [go_sem, h]
set_option maxRecDepth 100000 in
set_option maxHeartbeats 8000000 in
theorem symMerge_any (N : Nat) : ∀ (w : World) (B : Nat) (ao : Option Addr) (cap : Nat) (l : List Cd) (c : Nat) (_HO : OW kC 33 w B ao cap l) (_CK : CloC w c) (_hl : l.length ≤ 1000000) (a m b : Nat) (_ha : a < m) (_hm : m < b) (_hb : b ≤ l.length) (_hN : b - a ≤ N) (_sX : Sd ltC (sub l a m)) (_sY : Sd ltC (sub l m b)), Calls Try.prog 51 #[.slice ao l.length cap, .int .i64 ((a : Nat) : Int), .int .i64 ((m : Nat) : Int), .int .i64 ((b : Nat) : Int), .func (.func 40) #[] #[.pointer (some ⟨c, 0, none⟩)]] w (SrtP w B ao cap (mgd ltC l a m b)) := by
  induction N with
  | zero =>
    intro w B ao cap l c HO CK hl a m b ha hm hb hN sX sY
    omega
  | succ N ih =>
    intro w B ao cap l c HO CK hl a m b ha hm hb hN sX sY
    refine s_enter Try.func51 rfl Try.ntmps51 [.slice ao l.length cap, .int .i64 ((a : Nat) : Int), .int .i64 ((m : Nat) : Int), .int .i64 ((b : Nat) : Int), .func (.func 40) #[] #[.pointer (some ⟨c, 0, none⟩)]] [.slice ao l.length cap, .int .i64 ((a : Nat) : Int), .int .i64 ((m : Nat) : Int), .int .i64 ((b : Nat) : Int), .func (.func 40) #[] #[.pointer (some ⟨c, 0, none⟩)], undef, undef, undef, undef, undef, undef, undef, undef, undef, undef, undef, undef, undef, undef, undef, undef, undef, undef, undef, undef, undef, undef, undef, undef, undef, undef, undef, undef, undef, undef, undef, undef, undef, undef, undef, undef, undef, undef, undef, undef, undef, undef, undef, undef, undef, undef, undef, undef, undef, undef, undef, undef, undef, undef, undef, undef, undef, undef, undef, undef, undef, undef, undef, undef, undef, undef, undef, undef, undef, undef, undef, undef, undef, undef, undef, undef, undef, undef, undef, undef, undef, undef, undef, undef, undef, undef, undef, undef, undef, undef, undef, undef, undef, undef, undef, undef, undef, undef, undef, undef, undef, undef, undef, undef, undef, undef, undef, undef, undef, undef, undef, undef, undef, undef, undef, undef, undef, undef, undef, undef, undef, undef, undef, undef, undef, undef, undef, undef, undef, undef, undef, undef, undef, undef, undef, undef, undef, undef, undef, undef, undef, undef, undef, undef, undef, undef, undef, undef, undef, undef, undef, undef, undef, undef, undef, undef, undef, undef, undef, undef, undef, undef, undef, undef, undef, undef, undef, undef, undef, undef, undef, undef, undef, undef, undef, undef, undef, undef, undef, undef, undef, undef, undef, undef, undef, undef, undef, undef, undef, undef, undef, undef, undef, undef, undef, undef, undef, undef, undef, undef, undef, undef, undef, undef, undef, undef, undef, undef, undef, undef, undef, undef, undef, undef, undef] rfl ?_
    have GG := GroS.refl (Go.Proofs.Ytfabgonoonanfaa.blk ao) w
    refine wp_seq ?_
    refine wp_seq ?_
    refine wp_region_lit ?_
    refine s_val 25 rfl rfl (.int .i64 ((m : Nat) : Int)) (rfl) ?_
    refine nr ?_; intro U h; simp only [z0, z1] at h; subst h
    refine s_val 26 rfl rfl (.int .i64 ((a : Nat) : Int)) (rfl) ?_
    refine nr ?_; intro U h; simp only [z0, z1] at h; subst h
    refine s_val 27 rfl rfl (.int .i64 ((m - a : Nat) : Int)) (run_subI 3 _ _ _ rfl ((m : Nat) : Int) ((a : Nat) : Int) ((m - a : Nat) : Int) rfl rfl (by omega) (by omega) (by omega) _) ?_
    refine nr ?_; intro U h; simp only [z0, z1] at h; subst h
    cases h1 : decide (((m - a : Nat) : Int) = (1 : Int))
    · have h1n : m ≠ a + 1 := by have := of_decide_eq_false h1; omega
      refine s_val 28 rfl rfl (.bool false) (run_eq_k 3 .i64 _ _ _ rfl Try.underlying3 ((m - a : Nat) : Int) 1 rfl rfl false h1 _) ?_
      refine nr ?_; intro U h; simp only [z0, z1] at h; subst h
      refine wpList_nil ?_
      refine then_n ?_
      refine wp_cond_false rfl ?_
      refine wp_skip ?_
      refine then_n ?_
      refine wp_seq ?_
      refine wp_seq ?_
      refine wp_region_lit ?_
      refine s_val 77 rfl rfl (.int .i64 ((b : Nat) : Int)) (rfl) ?_
      refine nr ?_; intro U h; simp only [z0, z1] at h; subst h
      refine s_val 78 rfl rfl (.int .i64 ((m : Nat) : Int)) (rfl) ?_
      refine nr ?_; intro U h; simp only [z0, z1] at h; subst h
      refine s_val 79 rfl rfl (.int .i64 ((b - m : Nat) : Int)) (run_subI 3 _ _ _ rfl ((b : Nat) : Int) ((m : Nat) : Int) ((b - m : Nat) : Int) rfl rfl (by omega) (by omega) (by omega) _) ?_
      refine nr ?_; intro U h; simp only [z0, z1] at h; subst h
      cases h2 : decide (((b - m : Nat) : Int) = (1 : Int))
      · have h2n : b ≠ m + 1 := by have := of_decide_eq_false h2; omega
        refine s_val 80 rfl rfl (.bool false) (run_eq_k 3 .i64 _ _ _ rfl Try.underlying3 ((b - m : Nat) : Int) 1 rfl rfl false h2 _) ?_
        refine nr ?_; intro U h; simp only [z0, z1] at h; subst h
        refine wpList_nil ?_
        refine then_n ?_
        refine wp_cond_false rfl ?_
        refine wp_skip ?_
        refine then_n ?_
        refine wp_seq ?_
        obtain ⟨mid, hmid⟩ : ∃ mid, (a + b) / 2 ^ 1 = mid := ⟨_, rfl⟩
        have hmid2 : (a + b) / 2 = mid := hmid
        refine wp_region_lit ?_
        refine s_val 129 rfl rfl (.int .i64 ((a : Nat) : Int)) (rfl) ?_
        refine nr ?_; intro U h; simp only [z0, z1] at h; subst h
        refine s_val 130 rfl rfl (.int .i64 ((b : Nat) : Int)) (rfl) ?_
        refine nr ?_; intro U h; simp only [z0, z1] at h; subst h
        refine s_val 131 rfl rfl (.int .i64 ((a + b : Nat) : Int)) (run_addI 3 _ _ _ rfl ((a : Nat) : Int) ((b : Nat) : Int) ((a + b : Nat) : Int) rfl rfl (by omega) (by omega) (by omega) _) ?_
        refine nr ?_; intro U h; simp only [z0, z1] at h; subst h
        refine s_val 132 rfl rfl (.int .u64 ((a + b : Nat) : Int)) (cv3u _ rfl (a + b) (by omega) rfl _) ?_
        refine nr ?_; intro U h; simp only [z0, z1] at h; subst h
        refine s_val 133 rfl rfl (.int .u64 ((mid : Nat) : Int)) (run_shr64 77 77 _ _ rfl (a + b) 1 .u64 rfl rfl (by decide) mid hmid _) ?_
        refine nr ?_; intro U h; simp only [z0, z1] at h; subst h
        refine s_val 134 rfl rfl (.int .i64 ((mid : Nat) : Int)) (cvu3 _ rfl mid (by omega) rfl _) ?_
        refine nr ?_; intro U h; simp only [z0, z1] at h; subst h
        refine s_val 18 rfl rfl (.int .i64 ((mid : Nat) : Int)) (rfl) ?_
        refine nr ?_; intro U h; simp only [z0, z1] at h; subst h
        refine wpList_nil ?_
        refine then_n ?_
        refine wp_seq ?_
        refine wp_region_lit ?_
        refine s_val 135 rfl rfl (.int .i64 ((mid : Nat) : Int)) (rfl) ?_
        refine nr ?_; intro U h; simp only [z0, z1] at h; subst h
        refine s_val 136 rfl rfl (.int .i64 ((m : Nat) : Int)) (rfl) ?_
        refine nr ?_; intro U h; simp only [z0, z1] at h; subst h
        refine s_val 137 rfl rfl (.int .i64 ((mid + m : Nat) : Int)) (run_addI 3 _ _ _ rfl ((mid : Nat) : Int) ((m : Nat) : Int) ((mid + m : Nat) : Int) rfl rfl (by omega) (by omega) (by omega) _) ?_
        refine nr ?_; intro U h; simp only [z0, z1] at h; subst h
        refine s_val 19 rfl rfl (.int .i64 ((mid + m : Nat) : Int)) (rfl) ?_
        refine nr ?_; intro U h; simp only [z0, z1] at h; subst h
        refine wpList_nil ?_
        refine then_n ?_
        refine wp_seq ?_
        refine wp_region_lit ?_
        refine s_val 20 rfl rfl (.int .i64 0) (rfl) ?_
        refine nr ?_; intro U h; simp only [z0, z1] at h; subst h
        refine s_val 21 rfl rfl (.int .i64 0) (rfl) ?_
        refine nr ?_; intro U h; simp only [z0, z1] at h; subst h
        refine wpList_nil ?_
        refine then_n ?_
        refine wp_meet (fun az wv => ∃ (lo : Nat) (hi : Nat) (us1 : Nat → Value), az = ⟨[.slice ao l.length cap, .int .i64 ((a : Nat) : Int), .int .i64 ((m : Nat) : Int), .int .i64 ((b : Nat) : Int), .func (.func 40) #[] #[.pointer (some ⟨c, 0, none⟩)], undef, undef, undef, undef, undef, undef, undef, undef, undef, undef, undef, undef, undef, .int .i64 ((mid : Nat) : Int), .int .i64 ((mid + m : Nat) : Int), .int .i64 ((lo : Nat) : Int), .int .i64 ((hi : Nat) : Int), undef, undef, undef, .int .i64 ((m : Nat) : Int), .int .i64 ((a : Nat) : Int), .int .i64 ((m - a : Nat) : Int), .bool false, undef, undef, undef, undef, undef, undef, undef, undef, undef, undef, undef, undef, undef, undef, undef, undef, undef, undef, undef, undef, undef, undef, undef, undef, undef, undef, undef, undef, undef, undef, undef, undef, undef, undef, undef, undef, undef, undef, undef, undef, undef, undef, undef, undef, undef, undef, undef, undef, .int .i64 ((b : Nat) : Int), .int .i64 ((m : Nat) : Int), .int .i64 ((b - m : Nat) : Int), .bool false, undef, undef, undef, undef, undef, undef, undef, undef, undef, undef, undef, undef, undef, undef, undef, undef, undef, undef, undef, undef, undef, undef, undef, undef, undef, undef, undef, undef, undef, undef, undef, undef, undef, undef, undef, undef, undef, undef, undef, undef, undef, undef, undef, undef, undef, undef, undef, undef, .int .i64 ((a : Nat) : Int), .int .i64 ((b : Nat) : Int), .int .i64 ((a + b : Nat) : Int), .int .u64 ((a + b : Nat) : Int), .int .u64 ((mid : Nat) : Int), .int .i64 ((mid : Nat) : Int), .int .i64 ((mid : Nat) : Int), .int .i64 ((m : Nat) : Int), .int .i64 ((mid + m : Nat) : Int), us1 0, us1 1, us1 2, us1 3, us1 4, us1 5, us1 6, us1 7, us1 8, undef, undef, undef, undef, undef, undef, undef, undef, undef, undef, undef, undef, undef, undef, undef, undef, undef, undef, undef, undef, undef, undef, undef, undef, undef, undef, undef, undef, undef, undef, undef, undef, undef, undef, undef, undef, undef, undef, undef, undef, undef, undef, undef, undef, undef, undef, undef, undef, undef, undef, undef, undef, undef, undef, undef, undef, undef, undef, undef, undef, undef, undef, undef, undef, undef, undef, undef, undef, undef, undef, undef, undef, undef].toArray, []⟩ ∧ ((lo + b = mid + m ∧ hi = mid ∧ mid < m) ∨ (lo = a ∧ hi = m ∧ m ≤ mid)) ∧ GroS (Go.Proofs.Ytfabgonoonanfaa.blk ao) w wv ∧ OW kC 33 wv B ao cap l ∧ CloC wv c) ?_ ?_
        · clear GG HO CK
          rintro az wv ⟨lo, hi, us1, rfl, hlh, GG, HO, CK⟩
          refine wp_seq ?_
          refine wp_region_lit ?_
          refine s_val 147 rfl rfl (.int .i64 ((mid + m : Nat) : Int)) (rfl) ?_
          refine nr ?_; intro U h; simp only [z0, z1] at h; subst h
          refine s_val 148 rfl rfl (.int .i64 ((mid + m - 1 : Nat) : Int)) (run_subI 3 _ _ _ rfl ((mid + m : Nat) : Int) 1 ((mid + m - 1 : Nat) : Int) rfl rfl (by omega) (by omega) (by omega) _) ?_
          refine nr ?_; intro U h; simp only [z0, z1] at h; subst h
          refine s_val 22 rfl rfl (.int .i64 ((mid + m - 1 : Nat) : Int)) (rfl) ?_
          refine nr ?_; intro U h; simp only [z0, z1] at h; subst h
          refine wpList_nil ?_
          refine then_n ?_
          refine wp_seq ?_
          refine wp_block ?_
          refine wp_loopN (fun mz az wv => ∃ (i : Nat) (j : Nat) (us2 : Nat → Value), mz = j - i ∧ az = ⟨[.slice ao l.length cap, .int .i64 ((a : Nat) : Int), .int .i64 ((m : Nat) : Int), .int .i64 ((b : Nat) : Int), .func (.func 40) #[] #[.pointer (some ⟨c, 0, none⟩)], undef, undef, undef, undef, undef, undef, undef, undef, undef, undef, undef, undef, undef, .int .i64 ((mid : Nat) : Int), .int .i64 ((mid + m : Nat) : Int), .int .i64 ((i : Nat) : Int), .int .i64 ((j : Nat) : Int), .int .i64 ((mid + m - 1 : Nat) : Int), us2 0, undef, .int .i64 ((m : Nat) : Int), .int .i64 ((a : Nat) : Int), .int .i64 ((m - a : Nat) : Int), .bool false, undef, undef, undef, undef, undef, undef, undef, undef, undef, undef, undef, undef, undef, undef, undef, undef, undef, undef, undef, undef, undef, undef, undef, undef, undef, undef, undef, undef, undef, undef, undef, undef, undef, undef, undef, undef, undef, undef, undef, undef, undef, undef, undef, undef, undef, undef, undef, undef, .int .i64 ((b : Nat) : Int), .int .i64 ((m : Nat) : Int), .int .i64 ((b - m : Nat) : Int), .bool false, undef, undef, undef, undef, undef, undef, undef, undef, undef, undef, undef, undef, undef, undef, undef, undef, undef, undef, undef, undef, undef, undef, undef, undef, undef, undef, undef, undef, undef, undef, undef, undef, undef, undef, undef, undef, undef, undef, undef, undef, undef, undef, undef, undef, undef, undef, undef, undef, .int .i64 ((a : Nat) : Int), .int .i64 ((b : Nat) : Int), .int .i64 ((a + b : Nat) : Int), .int .u64 ((a + b : Nat) : Int), .int .u64 ((mid : Nat) : Int), .int .i64 ((mid : Nat) : Int), .int .i64 ((mid : Nat) : Int), .int .i64 ((m : Nat) : Int), .int .i64 ((mid + m : Nat) : Int), us1 0, us1 1, us1 2, us1 3, us1 4, us1 5, us1 6, us1 7, us1 8, .int .i64 ((mid + m : Nat) : Int), .int .i64 ((mid + m - 1 : Nat) : Int), us2 1, us2 2, us2 3, us2 4, us2 5, us2 6, us2 7, us2 8, us2 9, us2 10, us2 11, us2 12, us2 13, us2 14, us2 15, us2 16, us2 17, us2 18, us2 19, us2 20, us2 21, us2 22, us2 23, us2 24, us2 25, us2 26, undef, undef, undef, undef, undef, undef, undef, undef, undef, undef, undef, undef, undef, undef, undef, undef, undef, undef, undef, undef, undef, undef, undef, undef, undef, undef, undef, undef, undef, undef, undef, undef, undef, undef, undef, undef, undef, undef, undef, undef, undef, undef, undef, undef, undef].toArray, []⟩ ∧ lo ≤ i ∧ i ≤ j ∧ j ≤ hi ∧ (i = lo ∨ ltC (l.getD ((mid + m - 1) - (i - 1)) zC) (l.getD (i - 1) zC) = false) ∧ (j = hi ∨ ltC (l.getD ((mid + m - 1) - j) zC) (l.getD j zC) = true) ∧ GroS (Go.Proofs.Ytfabgonoonanfaa.blk ao) w wv ∧ OW kC 33 wv B ao cap l ∧ CloC wv c) ?_ _ ⟨lo, hi, (fun kz => ([undef, undef, undef, undef, undef, undef, undef, undef, undef, undef, undef, undef, undef, undef, undef, undef, undef, undef, undef, undef, undef, undef, undef, undef, undef, undef, undef] : List Value).getD kz undef), rfl, rfl, Nat.le_refl _, by omega, Nat.le_refl _, .inl rfl, .inl rfl, GG, HO, CK⟩
          clear GG HO CK
          rintro mz az wv ⟨i, j, us2, rfl, rfl, hi, hij, hj, c1, c2, GG, HO, CK⟩
          refine wp_seq ?_
          refine wp_seq ?_
          refine wp_region_lit ?_
          refine s_val 149 rfl rfl (.int .i64 ((i : Nat) : Int)) (rfl) ?_
          refine nr ?_; intro U h; simp only [z0, z1] at h; subst h
          refine s_val 150 rfl rfl (.int .i64 ((j : Nat) : Int)) (rfl) ?_
          refine nr ?_; intro U h; simp only [z0, z1] at h; subst h
          cases hij1 : decide (((i : Nat) : Int) < ((j : Nat) : Int))
          · have hie : i = j := by have := of_decide_eq_false hij1; omega
            refine s_val 151 rfl rfl (.bool false) (run_lssT 3 _ _ _ rfl ((i : Nat) : Int) ((j : Nat) : Int) rfl rfl false hij1 _) ?_
            refine nr ?_; intro U h; simp only [z0, z1] at h; subst h
            refine wpList_nil ?_
            refine then_n ?_
            refine wp_cond_false rfl ?_
            refine wp_exit ?_
            refine then_x ?_
            refine then_x ?_
            refine blk_x ?_
            refine then_n ?_
            refine wp_seq ?_
            have hd : mid + m = i + (mid + m - i) := by omega
            have q1 : i = a ∨ mid + m - i = b ∨ ltC (l.getD (mid + m - i) zC) (l.getD (i - 1) zC) = false := by
              by_cases hz : i = a
              · exact .inl hz
              · by_cases hz2 : mid + m - i = b
                · exact .inr (.inl hz2)
                · rcases c1 with c1 | c1
                  · omega
                  · exact .inr (.inr (by rw [show mid + m - i = mid + m - 1 - (i - 1) by omega]; exact c1))
            have q2 : i = m ∨ mid + m - i = m ∨ ltC (l.getD (mid + m - i - 1) zC) (l.getD i zC) = true := by
              by_cases hz : i = m
              · exact .inl hz
              · by_cases hz2 : mid + m - i = m
                · exact .inr (.inl hz2)
                · rcases c2 with c2 | c2
                  · omega
                  · exact .inr (.inr (by rw [show mid + m - i - 1 = mid + m - 1 - i by omega, hie]; exact c2))
            obtain ⟨⟨s1, s2⟩, ⟨s3, s4⟩, hfin⟩ := sy_all zC sw_C (l := l) (a := a) (m := m) (b := b) (s := i) (e := mid + m - i) (d := mid) (by omega) (by omega) (by omega) (by omega) hb hd sX sY q1 q2
            have n1 : (sy1 l m i (mid + m - i)).length = l.length := by
              unfold sy1
              split
              · exact tgt_len (by omega) (by omega)
              · rfl
            have n2 : (sy2 ltC (sy1 l m i (mid + m - i)) a i mid).length = l.length := by
              unfold sy2
              split
              · rw [mgd_len (by omega) (by omega) (by rw [n1]; omega)]; exact n1
              · exact n1
            refine wp_region_lit ?_
            refine s_val 175 rfl rfl (.int .i64 ((mid + m : Nat) : Int)) (rfl) ?_
            refine nr ?_; intro U h; simp only [z0, z1] at h; subst h
            refine s_val 176 rfl rfl (.int .i64 ((i : Nat) : Int)) (rfl) ?_
            refine nr ?_; intro U h; simp only [z0, z1] at h; subst h
            refine s_val 177 rfl rfl (.int .i64 ((mid + m - i : Nat) : Int)) (run_subI 3 _ _ _ rfl ((mid + m : Nat) : Int) ((i : Nat) : Int) ((mid + m - i : Nat) : Int) rfl rfl (by omega) (by omega) (by omega) _) ?_
            refine nr ?_; intro U h; simp only [z0, z1] at h; subst h
            refine s_val 24 rfl rfl (.int .i64 ((mid + m - i : Nat) : Int)) (rfl) ?_
            refine nr ?_; intro U h; simp only [z0, z1] at h; subst h
            refine wpList_nil ?_
            refine then_n ?_
            refine wp_meet (fun az wv => ∃  (us3 : Nat → Value), az = ⟨[.slice ao l.length cap, .int .i64 ((a : Nat) : Int), .int .i64 ((m : Nat) : Int), .int .i64 ((b : Nat) : Int), .func (.func 40) #[] #[.pointer (some ⟨c, 0, none⟩)], undef, undef, undef, undef, undef, undef, undef, undef, undef, undef, undef, undef, undef, .int .i64 ((mid : Nat) : Int), .int .i64 ((mid + m : Nat) : Int), .int .i64 ((i : Nat) : Int), .int .i64 ((j : Nat) : Int), .int .i64 ((mid + m - 1 : Nat) : Int), us2 0, .int .i64 ((mid + m - i : Nat) : Int), .int .i64 ((m : Nat) : Int), .int .i64 ((a : Nat) : Int), .int .i64 ((m - a : Nat) : Int), .bool false, undef, undef, undef, undef, undef, undef, undef, undef, undef, undef, undef, undef, undef, undef, undef, undef, undef, undef, undef, undef, undef, undef, undef, undef, undef, undef, undef, undef, undef, undef, undef, undef, undef, undef, undef, undef, undef, undef, undef, undef, undef, undef, undef, undef, undef, undef, undef, undef, .int .i64 ((b : Nat) : Int), .int .i64 ((m : Nat) : Int), .int .i64 ((b - m : Nat) : Int), .bool false, undef, undef, undef, undef, undef, undef, undef, undef, undef, undef, undef, undef, undef, undef, undef, undef, undef, undef, undef, undef, undef, undef, undef, undef, undef, undef, undef, undef, undef, undef, undef, undef, undef, undef, undef, undef, undef, undef, undef, undef, undef, undef, undef, undef, undef, undef, undef, undef, .int .i64 ((a : Nat) : Int), .int .i64 ((b : Nat) : Int), .int .i64 ((a + b : Nat) : Int), .int .u64 ((a + b : Nat) : Int), .int .u64 ((mid : Nat) : Int), .int .i64 ((mid : Nat) : Int), .int .i64 ((mid : Nat) : Int), .int .i64 ((m : Nat) : Int), .int .i64 ((mid + m : Nat) : Int), us1 0, us1 1, us1 2, us1 3, us1 4, us1 5, us1 6, us1 7, us1 8, .int .i64 ((mid + m : Nat) : Int), .int .i64 ((mid + m - 1 : Nat) : Int), .int .i64 ((i : Nat) : Int), .int .i64 ((j : Nat) : Int), .bool false, us2 4, us2 5, us2 6, us2 7, us2 8, us2 9, us2 10, us2 11, us2 12, us2 13, us2 14, us2 15, us2 16, us2 17, us2 18, us2 19, us2 20, us2 21, us2 22, us2 23, us2 24, us2 25, us2 26, .int .i64 ((mid + m : Nat) : Int), .int .i64 ((i : Nat) : Int), .int .i64 ((mid + m - i : Nat) : Int), us3 0, us3 1, us3 2, us3 3, us3 4, us3 5, us3 6, us3 7, us3 8, us3 9, us3 10, us3 11, us3 12, us3 13, undef, undef, undef, undef, undef, undef, undef, undef, undef, undef, undef, undef, undef, undef, undef, undef, undef, undef, undef, undef, undef, undef, undef, undef, undef, undef, undef, undef].toArray, []⟩ ∧ GroS (Go.Proofs.Ytfabgonoonanfaa.blk ao) w wv ∧ OW kC 33 wv B ao cap (sy1 l m i (mid + m - i)) ∧ CloC wv c) ?_ ?_
            · clear GG HO CK
              rintro az wv ⟨us3, rfl, GG, HO, CK⟩
              refine wp_meet (fun az wv => ∃  (us4 : Nat → Value), az = ⟨[.slice ao l.length cap, .int .i64 ((a : Nat) : Int), .int .i64 ((m : Nat) : Int), .int .i64 ((b : Nat) : Int), .func (.func 40) #[] #[.pointer (some ⟨c, 0, none⟩)], undef, undef, undef, undef, undef, undef, undef, undef, undef, undef, undef, undef, undef, .int .i64 ((mid : Nat) : Int), .int .i64 ((mid + m : Nat) : Int), .int .i64 ((i : Nat) : Int), .int .i64 ((j : Nat) : Int), .int .i64 ((mid + m - 1 : Nat) : Int), us2 0, .int .i64 ((mid + m - i : Nat) : Int), .int .i64 ((m : Nat) : Int), .int .i64 ((a : Nat) : Int), .int .i64 ((m - a : Nat) : Int), .bool false, undef, undef, undef, undef, undef, undef, undef, undef, undef, undef, undef, undef, undef, undef, undef, undef, undef, undef, undef, undef, undef, undef, undef, undef, undef, undef, undef, undef, undef, undef, undef, undef, undef, undef, undef, undef, undef, undef, undef, undef, undef, undef, undef, undef, undef, undef, undef, undef, .int .i64 ((b : Nat) : Int), .int .i64 ((m : Nat) : Int), .int .i64 ((b - m : Nat) : Int), .bool false, undef, undef, undef, undef, undef, undef, undef, undef, undef, undef, undef, undef, undef, undef, undef, undef, undef, undef, undef, undef, undef, undef, undef, undef, undef, undef, undef, undef, undef, undef, undef, undef, undef, undef, undef, undef, undef, undef, undef, undef, undef, undef, undef, undef, undef, undef, undef, undef, .int .i64 ((a : Nat) : Int), .int .i64 ((b : Nat) : Int), .int .i64 ((a + b : Nat) : Int), .int .u64 ((a + b : Nat) : Int), .int .u64 ((mid : Nat) : Int), .int .i64 ((mid : Nat) : Int), .int .i64 ((mid : Nat) : Int), .int .i64 ((m : Nat) : Int), .int .i64 ((mid + m : Nat) : Int), us1 0, us1 1, us1 2, us1 3, us1 4, us1 5, us1 6, us1 7, us1 8, .int .i64 ((mid + m : Nat) : Int), .int .i64 ((mid + m - 1 : Nat) : Int), .int .i64 ((i : Nat) : Int), .int .i64 ((j : Nat) : Int), .bool false, us2 4, us2 5, us2 6, us2 7, us2 8, us2 9, us2 10, us2 11, us2 12, us2 13, us2 14, us2 15, us2 16, us2 17, us2 18, us2 19, us2 20, us2 21, us2 22, us2 23, us2 24, us2 25, us2 26, .int .i64 ((mid + m : Nat) : Int), .int .i64 ((i : Nat) : Int), .int .i64 ((mid + m - i : Nat) : Int), us3 0, us3 1, us3 2, us3 3, us3 4, us3 5, us3 6, us3 7, us3 8, us3 9, us3 10, us3 11, us3 12, us3 13, us4 0, us4 1, us4 2, us4 3, us4 4, us4 5, us4 6, us4 7, us4 8, us4 9, us4 10, us4 11, us4 12, us4 13, undef, undef, undef, undef, undef, undef, undef, undef, undef, undef, undef, undef, undef, undef].toArray, []⟩ ∧ GroS (Go.Proofs.Ytfabgonoonanfaa.blk ao) w wv ∧ OW kC 33 wv B ao cap (sy2 ltC (sy1 l m i (mid + m - i)) a i mid) ∧ CloC wv c) ?_ ?_
              · clear GG HO CK
                rintro az wv ⟨us4, rfl, GG, HO, CK⟩
                refine wp_seq ?_
                cases g5 : decide (((mid : Nat) : Int) < ((mid + m - i : Nat) : Int))
                · have g5n : ¬ mid < mid + m - i := by have := of_decide_eq_false g5; omega
                  refine wp_region_opq ?_
                  intro OPS hY
                  have y3 := hY 3 209 rfl
                  clear hY
                  refine s_val 206 rfl rfl (.int .i64 ((mid : Nat) : Int)) (rfl) ?_
                  refine nr ?_; intro U h; simp only [z0, z1] at h; subst h
                  refine s_val 207 rfl rfl (.int .i64 ((mid + m - i : Nat) : Int)) (rfl) ?_
                  refine nr ?_; intro U h; simp only [z0, z1] at h; subst h
                  refine s_val 208 rfl rfl (.bool false) (run_lssT 3 _ _ _ rfl ((mid : Nat) : Int) ((mid + m - i : Nat) : Int) rfl rfl false g5 _) ?_
                  refine nr ?_; intro U h; simp only [z0, z1] at h; subst h
                  refine s_val 209 rfl rfl (.bool false) (rfl) ?_
                  refine nr ?_; intro U h; simp only [z0, z1] at h; subst h
                  refine s_skipY 210 rfl rfl y3 rfl ?_
                  refine nr ?_; intro U h; simp only [z0, z1] at h; subst h
                  refine s_skipY 211 rfl rfl y3 rfl ?_
                  refine nr ?_; intro U h; simp only [z0, z1] at h; subst h
                  refine s_skipY 212 rfl rfl y3 rfl ?_
                  refine nr ?_; intro U h; simp only [z0, z1] at h; subst h
                  refine s_val 213 rfl rfl (.bool false) (rfl) ?_
                  refine nr ?_; intro U h; simp only [z0, z1] at h; subst h
                  refine wpList_nil ?_
                  refine then_n ?_
                  refine wp_cond_false rfl ?_
                  refine wp_skip ?_
                  refine post_n (results_none Try.results51 _ _ _) rfl ?_
                  replace HO : OW kC 33 wv B ao cap (sy2 ltC (sy2 ltC (sy1 l m i (mid + m - i)) a i mid) mid (mid + m - i) b) := by rw [show (sy2 ltC (sy2 ltC (sy1 l m i (mid + m - i)) a i mid) mid (mid + m - i) b) = _ from if_neg (fun h => g5n h.1)]; exact HO
                  rw [hfin] at HO
                  exact ⟨rfl, GG, HO⟩
                · have g5l : mid < mid + m - i := by have := of_decide_eq_true g5; omega
                  cases g6 : decide (((mid + m - i : Nat) : Int) < ((b : Nat) : Int))
                  · have g6n : ¬ mid + m - i < b := by have := of_decide_eq_false g6; omega
                    refine wp_region_opq ?_
                    intro OPS hY
                    have y3 := hY 3 209 rfl
                    clear hY
                    refine s_val 206 rfl rfl (.int .i64 ((mid : Nat) : Int)) (rfl) ?_
                    refine nr ?_; intro U h; simp only [z0, z1] at h; subst h
                    refine s_val 207 rfl rfl (.int .i64 ((mid + m - i : Nat) : Int)) (rfl) ?_
                    refine nr ?_; intro U h; simp only [z0, z1] at h; subst h
                    refine s_val 208 rfl rfl (.bool true) (run_lssT 3 _ _ _ rfl ((mid : Nat) : Int) ((mid + m - i : Nat) : Int) rfl rfl true g5 _) ?_
                    refine nr ?_; intro U h; simp only [z0, z1] at h; subst h
                    refine s_val 209 rfl rfl (.bool true) (rfl) ?_
                    refine nr ?_; intro U h; simp only [z0, z1] at h; subst h
                    refine s_gvalY 210 rfl rfl y3 rfl (.int .i64 ((mid + m - i : Nat) : Int)) (rfl) ?_
                    refine nr ?_; intro U h; simp only [z0, z1] at h; subst h
                    refine s_gvalY 211 rfl rfl y3 rfl (.int .i64 ((b : Nat) : Int)) (rfl) ?_
                    refine nr ?_; intro U h; simp only [z0, z1] at h; subst h
                    refine s_gvalY 212 rfl rfl y3 rfl (.bool false) (run_lssT 3 _ _ _ rfl ((mid + m - i : Nat) : Int) ((b : Nat) : Int) rfl rfl false g6 _) ?_
                    refine nr ?_; intro U h; simp only [z0, z1] at h; subst h
                    refine s_val 213 rfl rfl (.bool false) (rfl) ?_
                    refine nr ?_; intro U h; simp only [z0, z1] at h; subst h
                    refine wpList_nil ?_
                    refine then_n ?_
                    refine wp_cond_false rfl ?_
                    refine wp_skip ?_
                    refine post_n (results_none Try.results51 _ _ _) rfl ?_
                    replace HO : OW kC 33 wv B ao cap (sy2 ltC (sy2 ltC (sy1 l m i (mid + m - i)) a i mid) mid (mid + m - i) b) := by rw [show (sy2 ltC (sy2 ltC (sy1 l m i (mid + m - i)) a i mid) mid (mid + m - i) b) = _ from if_neg (fun h => g6n h.2)]; exact HO
                    rw [hfin] at HO
                    exact ⟨rfl, GG, HO⟩
                  · have g6l : mid + m - i < b := by have := of_decide_eq_true g6; omega
                    refine wp_region_opq ?_
                    intro OPS hY
                    have y3 := hY 3 209 rfl
                    clear hY
                    refine s_val 206 rfl rfl (.int .i64 ((mid : Nat) : Int)) (rfl) ?_
                    refine nr ?_; intro U h; simp only [z0, z1] at h; subst h
                    refine s_val 207 rfl rfl (.int .i64 ((mid + m - i : Nat) : Int)) (rfl) ?_
                    refine nr ?_; intro U h; simp only [z0, z1] at h; subst h
                    refine s_val 208 rfl rfl (.bool true) (run_lssT 3 _ _ _ rfl ((mid : Nat) : Int) ((mid + m - i : Nat) : Int) rfl rfl true g5 _) ?_
                    refine nr ?_; intro U h; simp only [z0, z1] at h; subst h
                    refine s_val 209 rfl rfl (.bool true) (rfl) ?_
                    refine nr ?_; intro U h; simp only [z0, z1] at h; subst h
                    refine s_gvalY 210 rfl rfl y3 rfl (.int .i64 ((mid + m - i : Nat) : Int)) (rfl) ?_
                    refine nr ?_; intro U h; simp only [z0, z1] at h; subst h
                    refine s_gvalY 211 rfl rfl y3 rfl (.int .i64 ((b : Nat) : Int)) (rfl) ?_
                    refine nr ?_; intro U h; simp only [z0, z1] at h; subst h
                    refine s_gvalY 212 rfl rfl y3 rfl (.bool true) (run_lssT 3 _ _ _ rfl ((mid + m - i : Nat) : Int) ((b : Nat) : Int) rfl rfl true g6 _) ?_
                    refine nr ?_; intro U h; simp only [z0, z1] at h; subst h
                    refine s_val 213 rfl rfl (.bool true) (rfl) ?_
                    refine nr ?_; intro U h; simp only [z0, z1] at h; subst h
                    refine wpList_nil ?_
                    refine then_n ?_
                    refine wp_cond_true rfl ?_
                    refine wp_region_lit ?_
                    refine s_val 214 rfl rfl (.slice ao l.length cap) (rfl) ?_
                    refine nr ?_; intro U h; simp only [z0, z1] at h; subst h
                    refine s_val 215 rfl rfl (.int .i64 ((mid : Nat) : Int)) (rfl) ?_
                    refine nr ?_; intro U h; simp only [z0, z1] at h; subst h
                    refine s_val 216 rfl rfl (.int .i64 ((mid + m - i : Nat) : Int)) (rfl) ?_
                    refine nr ?_; intro U h; simp only [z0, z1] at h; subst h
                    refine s_val 217 rfl rfl (.int .i64 ((b : Nat) : Int)) (rfl) ?_
                    refine nr ?_; intro U h; simp only [z0, z1] at h; subst h
                    refine s_val 218 rfl rfl (.func (.func 40) #[] #[.pointer (some ⟨c, 0, none⟩)]) (rfl) ?_
                    refine nr ?_; intro U h; simp only [z0, z1] at h; subst h
                    refine s_callx 219 rfl rfl _ 51 Try.call51 rfl rfl _ rfl [.slice ao l.length cap, .int .i64 ((mid : Nat) : Int), .int .i64 ((mid + m - i : Nat) : Int), .int .i64 ((b : Nat) : Int), .func (.func 40) #[] #[.pointer (some ⟨c, 0, none⟩)]] rfl (by have h_ := ih _ B ao cap (sy2 ltC (sy1 l m i (mid + m - i)) a i mid) c HO CK (by rw [n2]; exact hl) mid (mid + m - i) b g5l g6l (by rw [n2]; omega) (by omega) s3 s4; rw [n2] at h_; exact h_) (by rintro _ _ ⟨he, _⟩; exact ⟨_, he⟩) ?_
                    rintro v w1 ⟨he, G2, HO2⟩
                    cases he
                    replace CK := CK.gros G2 HO.own
                    replace GG := GG.trans G2
                    clear G2 HO
                    have HO := HO2
                    clear HO2
                    refine nr ?_; intro U h; simp only [z0, z1] at h; subst h
                    refine wpList_nil ?_
                    refine post_n (results_none Try.results51 _ _ _) rfl ?_
                    replace HO : OW kC 33 w1 B ao cap (sy2 ltC (sy2 ltC (sy1 l m i (mid + m - i)) a i mid) mid (mid + m - i) b) := by rw [show (sy2 ltC (sy2 ltC (sy1 l m i (mid + m - i)) a i mid) mid (mid + m - i) b) = _ from if_pos ⟨g5l, g6l⟩]; exact HO
                    rw [hfin] at HO
                    exact ⟨rfl, GG, HO⟩
              intro HT4
              refine wp_seq ?_
              refine wp_seq ?_
              cases g3 : decide (((a : Nat) : Int) < ((i : Nat) : Int))
              · have g3n : ¬ a < i := by have := of_decide_eq_false g3; omega
                refine wp_region_opq ?_
                intro OPS hY
                have y3 := hY 3 195 rfl
                clear hY
                refine s_val 192 rfl rfl (.int .i64 ((a : Nat) : Int)) (rfl) ?_
                refine nr ?_; intro U h; simp only [z0, z1] at h; subst h
                refine s_val 193 rfl rfl (.int .i64 ((i : Nat) : Int)) (rfl) ?_
                refine nr ?_; intro U h; simp only [z0, z1] at h; subst h
                refine s_val 194 rfl rfl (.bool false) (run_lssT 3 _ _ _ rfl ((a : Nat) : Int) ((i : Nat) : Int) rfl rfl false g3 _) ?_
                refine nr ?_; intro U h; simp only [z0, z1] at h; subst h
                refine s_val 195 rfl rfl (.bool false) (rfl) ?_
                refine nr ?_; intro U h; simp only [z0, z1] at h; subst h
                refine s_skipY 196 rfl rfl y3 rfl ?_
                refine nr ?_; intro U h; simp only [z0, z1] at h; subst h
                refine s_skipY 197 rfl rfl y3 rfl ?_
                refine nr ?_; intro U h; simp only [z0, z1] at h; subst h
                refine s_skipY 198 rfl rfl y3 rfl ?_
                refine nr ?_; intro U h; simp only [z0, z1] at h; subst h
                refine s_val 199 rfl rfl (.bool false) (rfl) ?_
                refine nr ?_; intro U h; simp only [z0, z1] at h; subst h
                refine wpList_nil ?_
                refine then_n ?_
                refine wp_cond_false rfl ?_
                refine wp_skip ?_
                refine then_n ?_
                replace HO : OW kC 33 wv B ao cap (sy2 ltC (sy1 l m i (mid + m - i)) a i mid) := by rw [show (sy2 ltC (sy1 l m i (mid + m - i)) a i mid) = _ from if_neg (fun h => g3n h.1)]; exact HO
                exact HT4 _ _ ⟨(fun kz => ([.int .i64 ((a : Nat) : Int), .int .i64 ((i : Nat) : Int), .bool false, .bool false, undef, undef, undef, .bool false, undef, undef, undef, undef, undef, undef] : List Value).getD kz undef), rfl, GG, HO, CK⟩
              · have g3l : a < i := by have := of_decide_eq_true g3; omega
                cases g4 : decide (((i : Nat) : Int) < ((mid : Nat) : Int))
                · have g4n : ¬ i < mid := by have := of_decide_eq_false g4; omega
                  refine wp_region_opq ?_
                  intro OPS hY
                  have y3 := hY 3 195 rfl
                  clear hY
                  refine s_val 192 rfl rfl (.int .i64 ((a : Nat) : Int)) (rfl) ?_
                  refine nr ?_; intro U h; simp only [z0, z1] at h; subst h
                  refine s_val 193 rfl rfl (.int .i64 ((i : Nat) : Int)) (rfl) ?_
                  refine nr ?_; intro U h; simp only [z0, z1] at h; subst h
                  refine s_val 194 rfl rfl (.bool true) (run_lssT 3 _ _ _ rfl ((a : Nat) : Int) ((i : Nat) : Int) rfl rfl true g3 _) ?_
                  refine nr ?_; intro U h; simp only [z0, z1] at h; subst h
                  refine s_val 195 rfl rfl (.bool true) (rfl) ?_
                  refine nr ?_; intro U h; simp only [z0, z1] at h; subst h
                  refine s_gvalY 196 rfl rfl y3 rfl (.int .i64 ((i : Nat) : Int)) (rfl) ?_
                  refine nr ?_; intro U h; simp only [z0, z1] at h; subst h
                  refine s_gvalY 197 rfl rfl y3 rfl (.int .i64 ((mid : Nat) : Int)) (rfl) ?_
                  refine nr ?_; intro U h; simp only [z0, z1] at h; subst h
                  refine s_gvalY 198 rfl rfl y3 rfl (.bool false) (run_lssT 3 _ _ _ rfl ((i : Nat) : Int) ((mid : Nat) : Int) rfl rfl false g4 _) ?_
                  refine nr ?_; intro U h; simp only [z0, z1] at h; subst h
                  refine s_val 199 rfl rfl (.bool false) (rfl) ?_
                  refine nr ?_; intro U h; simp only [z0, z1] at h; subst h
                  refine wpList_nil ?_
                  refine then_n ?_
                  refine wp_cond_false rfl ?_
                  refine wp_skip ?_
                  refine then_n ?_
                  replace HO : OW kC 33 wv B ao cap (sy2 ltC (sy1 l m i (mid + m - i)) a i mid) := by rw [show (sy2 ltC (sy1 l m i (mid + m - i)) a i mid) = _ from if_neg (fun h => g4n h.2)]; exact HO
                  exact HT4 _ _ ⟨(fun kz => ([.int .i64 ((a : Nat) : Int), .int .i64 ((i : Nat) : Int), .bool true, .bool true, .int .i64 ((i : Nat) : Int), .int .i64 ((mid : Nat) : Int), .bool false, .bool false, undef, undef, undef, undef, undef, undef] : List Value).getD kz undef), rfl, GG, HO, CK⟩
                · have g4l : i < mid := by have := of_decide_eq_true g4; omega
                  refine wp_region_opq ?_
                  intro OPS hY
                  have y3 := hY 3 195 rfl
                  clear hY
                  refine s_val 192 rfl rfl (.int .i64 ((a : Nat) : Int)) (rfl) ?_
                  refine nr ?_; intro U h; simp only [z0, z1] at h; subst h
                  refine s_val 193 rfl rfl (.int .i64 ((i : Nat) : Int)) (rfl) ?_
                  refine nr ?_; intro U h; simp only [z0, z1] at h; subst h
                  refine s_val 194 rfl rfl (.bool true) (run_lssT 3 _ _ _ rfl ((a : Nat) : Int) ((i : Nat) : Int) rfl rfl true g3 _) ?_
                  refine nr ?_; intro U h; simp only [z0, z1] at h; subst h
                  refine s_val 195 rfl rfl (.bool true) (rfl) ?_
                  refine nr ?_; intro U h; simp only [z0, z1] at h; subst h
                  refine s_gvalY 196 rfl rfl y3 rfl (.int .i64 ((i : Nat) : Int)) (rfl) ?_
                  refine nr ?_; intro U h; simp only [z0, z1] at h; subst h
                  refine s_gvalY 197 rfl rfl y3 rfl (.int .i64 ((mid : Nat) : Int)) (rfl) ?_
                  refine nr ?_; intro U h; simp only [z0, z1] at h; subst h
                  refine s_gvalY 198 rfl rfl y3 rfl (.bool true) (run_lssT 3 _ _ _ rfl ((i : Nat) : Int) ((mid : Nat) : Int) rfl rfl true g4 _) ?_
                  refine nr ?_; intro U h; simp only [z0, z1] at h; subst h
                  refine s_val 199 rfl rfl (.bool true) (rfl) ?_
                  refine nr ?_; intro U h; simp only [z0, z1] at h; subst h
                  refine wpList_nil ?_
                  refine then_n ?_
                  refine wp_cond_true rfl ?_
                  refine wp_region_lit ?_
                  refine s_val 200 rfl rfl (.slice ao l.length cap) (rfl) ?_
                  refine nr ?_; intro U h; simp only [z0, z1] at h; subst h
                  refine s_val 201 rfl rfl (.int .i64 ((a : Nat) : Int)) (rfl) ?_
                  refine nr ?_; intro U h; simp only [z0, z1] at h; subst h
                  refine s_val 202 rfl rfl (.int .i64 ((i : Nat) : Int)) (rfl) ?_
                  refine nr ?_; intro U h; simp only [z0, z1] at h; subst h
                  refine s_val 203 rfl rfl (.int .i64 ((mid : Nat) : Int)) (rfl) ?_
                  refine nr ?_; intro U h; simp only [z0, z1] at h; subst h
                  refine s_val 204 rfl rfl (.func (.func 40) #[] #[.pointer (some ⟨c, 0, none⟩)]) (rfl) ?_
                  refine nr ?_; intro U h; simp only [z0, z1] at h; subst h
                  refine s_callx 205 rfl rfl _ 51 Try.call51 rfl rfl _ rfl [.slice ao l.length cap, .int .i64 ((a : Nat) : Int), .int .i64 ((i : Nat) : Int), .int .i64 ((mid : Nat) : Int), .func (.func 40) #[] #[.pointer (some ⟨c, 0, none⟩)]] rfl (by have h_ := ih _ B ao cap (sy1 l m i (mid + m - i)) c HO CK (by rw [n1]; exact hl) a i mid g3l g4l (by rw [n1]; omega) (by omega) s1 s2; rw [n1] at h_; exact h_) (by rintro _ _ ⟨he, _⟩; exact ⟨_, he⟩) ?_
                  rintro v w1 ⟨he, G2, HO2⟩
                  cases he
                  replace CK := CK.gros G2 HO.own
                  replace GG := GG.trans G2
                  clear G2 HO
                  have HO := HO2
                  clear HO2
                  refine nr ?_; intro U h; simp only [z0, z1] at h; subst h
                  refine wpList_nil ?_
                  refine then_n ?_
                  replace HO : OW kC 33 w1 B ao cap (sy2 ltC (sy1 l m i (mid + m - i)) a i mid) := by rw [show (sy2 ltC (sy1 l m i (mid + m - i)) a i mid) = _ from if_pos ⟨g3l, g4l⟩]; exact HO
                  exact HT4 _ _ ⟨(fun kz => ([.int .i64 ((a : Nat) : Int), .int .i64 ((i : Nat) : Int), .bool true, .bool true, .int .i64 ((i : Nat) : Int), .int .i64 ((mid : Nat) : Int), .bool true, .bool true, .slice ao l.length cap, .int .i64 ((a : Nat) : Int), .int .i64 ((i : Nat) : Int), .int .i64 ((mid : Nat) : Int), .func (.func 40) #[] #[.pointer (some ⟨c, 0, none⟩)], .tuple #[]] : List Value).getD kz undef), rfl, GG, HO, CK⟩
            intro HT3
            refine wp_seq ?_
            refine wp_seq ?_
            cases g1 : decide (((i : Nat) : Int) < ((m : Nat) : Int))
            · have g1n : ¬ i < m := by have := of_decide_eq_false g1; omega
              refine wp_region_opq ?_
              intro OPS hY
              have y3 := hY 3 181 rfl
              clear hY
              refine s_val 178 rfl rfl (.int .i64 ((i : Nat) : Int)) (rfl) ?_
              refine nr ?_; intro U h; simp only [z0, z1] at h; subst h
              refine s_val 179 rfl rfl (.int .i64 ((m : Nat) : Int)) (rfl) ?_
              refine nr ?_; intro U h; simp only [z0, z1] at h; subst h
              refine s_val 180 rfl rfl (.bool false) (run_lssT 3 _ _ _ rfl ((i : Nat) : Int) ((m : Nat) : Int) rfl rfl false g1 _) ?_
              refine nr ?_; intro U h; simp only [z0, z1] at h; subst h
              refine s_val 181 rfl rfl (.bool false) (rfl) ?_
              refine nr ?_; intro U h; simp only [z0, z1] at h; subst h
              refine s_skipY 182 rfl rfl y3 rfl ?_
              refine nr ?_; intro U h; simp only [z0, z1] at h; subst h
              refine s_skipY 183 rfl rfl y3 rfl ?_
              refine nr ?_; intro U h; simp only [z0, z1] at h; subst h
              refine s_skipY 184 rfl rfl y3 rfl ?_
              refine nr ?_; intro U h; simp only [z0, z1] at h; subst h
              refine s_val 185 rfl rfl (.bool false) (rfl) ?_
              refine nr ?_; intro U h; simp only [z0, z1] at h; subst h
              refine wpList_nil ?_
              refine then_n ?_
              refine wp_cond_false rfl ?_
              refine wp_skip ?_
              refine then_n ?_
              replace HO : OW kC 33 wv B ao cap (sy1 l m i (mid + m - i)) := by rw [show (sy1 l m i (mid + m - i)) = _ from if_neg (fun h => g1n h.1)]; exact HO
              exact HT3 _ _ ⟨(fun kz => ([.int .i64 ((i : Nat) : Int), .int .i64 ((m : Nat) : Int), .bool false, .bool false, undef, undef, undef, .bool false, undef, undef, undef, undef, undef, undef] : List Value).getD kz undef), rfl, GG, HO, CK⟩
            · have g1l : i < m := by have := of_decide_eq_true g1; omega
              cases g2 : decide (((m : Nat) : Int) < ((mid + m - i : Nat) : Int))
              · have g2n : ¬ m < mid + m - i := by have := of_decide_eq_false g2; omega
                refine wp_region_opq ?_
                intro OPS hY
                have y3 := hY 3 181 rfl
                clear hY
                refine s_val 178 rfl rfl (.int .i64 ((i : Nat) : Int)) (rfl) ?_
                refine nr ?_; intro U h; simp only [z0, z1] at h; subst h
                refine s_val 179 rfl rfl (.int .i64 ((m : Nat) : Int)) (rfl) ?_
                refine nr ?_; intro U h; simp only [z0, z1] at h; subst h
                refine s_val 180 rfl rfl (.bool true) (run_lssT 3 _ _ _ rfl ((i : Nat) : Int) ((m : Nat) : Int) rfl rfl true g1 _) ?_
                refine nr ?_; intro U h; simp only [z0, z1] at h; subst h
                refine s_val 181 rfl rfl (.bool true) (rfl) ?_
                refine nr ?_; intro U h; simp only [z0, z1] at h; subst h
                refine s_gvalY 182 rfl rfl y3 rfl (.int .i64 ((m : Nat) : Int)) (rfl) ?_
                refine nr ?_; intro U h; simp only [z0, z1] at h; subst h
                refine s_gvalY 183 rfl rfl y3 rfl (.int .i64 ((mid + m - i : Nat) : Int)) (rfl) ?_
                refine nr ?_; intro U h; simp only [z0, z1] at h; subst h
                refine s_gvalY 184 rfl rfl y3 rfl (.bool false) (run_lssT 3 _ _ _ rfl ((m : Nat) : Int) ((mid + m - i : Nat) : Int) rfl rfl false g2 _) ?_
                refine nr ?_; intro U h; simp only [z0, z1] at h; subst h
                refine s_val 185 rfl rfl (.bool false) (rfl) ?_
                refine nr ?_; intro U h; simp only [z0, z1] at h; subst h
                refine wpList_nil ?_
                refine then_n ?_
                refine wp_cond_false rfl ?_
                refine wp_skip ?_
                refine then_n ?_
                replace HO : OW kC 33 wv B ao cap (sy1 l m i (mid + m - i)) := by rw [show (sy1 l m i (mid + m - i)) = _ from if_neg (fun h => g2n h.2)]; exact HO
                exact HT3 _ _ ⟨(fun kz => ([.int .i64 ((i : Nat) : Int), .int .i64 ((m : Nat) : Int), .bool true, .bool true, .int .i64 ((m : Nat) : Int), .int .i64 ((mid + m - i : Nat) : Int), .bool false, .bool false, undef, undef, undef, undef, undef, undef] : List Value).getD kz undef), rfl, GG, HO, CK⟩
              · have g2l : m < mid + m - i := by have := of_decide_eq_true g2; omega
                refine wp_region_opq ?_
                intro OPS hY
                have y3 := hY 3 181 rfl
                clear hY
                refine s_val 178 rfl rfl (.int .i64 ((i : Nat) : Int)) (rfl) ?_
                refine nr ?_; intro U h; simp only [z0, z1] at h; subst h
                refine s_val 179 rfl rfl (.int .i64 ((m : Nat) : Int)) (rfl) ?_
                refine nr ?_; intro U h; simp only [z0, z1] at h; subst h
                refine s_val 180 rfl rfl (.bool true) (run_lssT 3 _ _ _ rfl ((i : Nat) : Int) ((m : Nat) : Int) rfl rfl true g1 _) ?_
                refine nr ?_; intro U h; simp only [z0, z1] at h; subst h
                refine s_val 181 rfl rfl (.bool true) (rfl) ?_
                refine nr ?_; intro U h; simp only [z0, z1] at h; subst h
                refine s_gvalY 182 rfl rfl y3 rfl (.int .i64 ((m : Nat) : Int)) (rfl) ?_
                refine nr ?_; intro U h; simp only [z0, z1] at h; subst h
                refine s_gvalY 183 rfl rfl y3 rfl (.int .i64 ((mid + m - i : Nat) : Int)) (rfl) ?_
                refine nr ?_; intro U h; simp only [z0, z1] at h; subst h
                refine s_gvalY 184 rfl rfl y3 rfl (.bool true) (run_lssT 3 _ _ _ rfl ((m : Nat) : Int) ((mid + m - i : Nat) : Int) rfl rfl true g2 _) ?_
                refine nr ?_; intro U h; simp only [z0, z1] at h; subst h
                refine s_val 185 rfl rfl (.bool true) (rfl) ?_
                refine nr ?_; intro U h; simp only [z0, z1] at h; subst h
                refine wpList_nil ?_
                refine then_n ?_
                refine wp_cond_true rfl ?_
                refine wp_region_lit ?_
                refine s_val 186 rfl rfl (.slice ao l.length cap) (rfl) ?_
                refine nr ?_; intro U h; simp only [z0, z1] at h; subst h
                refine s_val 187 rfl rfl (.int .i64 ((i : Nat) : Int)) (rfl) ?_
                refine nr ?_; intro U h; simp only [z0, z1] at h; subst h
                refine s_val 188 rfl rfl (.int .i64 ((m : Nat) : Int)) (rfl) ?_
                refine nr ?_; intro U h; simp only [z0, z1] at h; subst h
                refine s_val 189 rfl rfl (.int .i64 ((mid + m - i : Nat) : Int)) (rfl) ?_
                refine nr ?_; intro U h; simp only [z0, z1] at h; subst h
                refine s_val 190 rfl rfl (.func (.func 40) #[] #[.pointer (some ⟨c, 0, none⟩)]) (rfl) ?_
                refine nr ?_; intro U h; simp only [z0, z1] at h; subst h
                refine s_callx 191 rfl rfl _ 59 Try.call59 rfl rfl _ rfl [.slice ao l.length cap, .int .i64 ((i : Nat) : Int), .int .i64 ((m : Nat) : Int), .int .i64 ((mid + m - i : Nat) : Int), .func (.func 40) #[] #[.pointer (some ⟨c, 0, none⟩)]] rfl (rotate_any _ B ao cap l c HO CK hl i m (mid + m - i) g1l g2l (by omega)) (by rintro _ _ ⟨he, _⟩; exact ⟨_, he⟩) ?_
                rintro v w1 ⟨he, G2, HO2⟩
                cases he
                replace CK := CK.gros G2 HO.own
                replace GG := GG.trans G2
                clear G2 HO
                have HO := HO2
                clear HO2
                refine nr ?_; intro U h; simp only [z0, z1] at h; subst h
                refine wpList_nil ?_
                refine then_n ?_
                replace HO : OW kC 33 w1 B ao cap (sy1 l m i (mid + m - i)) := by rw [show (sy1 l m i (mid + m - i)) = _ from if_pos ⟨g1l, g2l⟩]; exact HO
                exact HT3 _ _ ⟨(fun kz => ([.int .i64 ((i : Nat) : Int), .int .i64 ((m : Nat) : Int), .bool true, .bool true, .int .i64 ((m : Nat) : Int), .int .i64 ((mid + m - i : Nat) : Int), .bool true, .bool true, .slice ao l.length cap, .int .i64 ((i : Nat) : Int), .int .i64 ((m : Nat) : Int), .int .i64 ((mid + m - i : Nat) : Int), .func (.func 40) #[] #[.pointer (some ⟨c, 0, none⟩)], .tuple #[]] : List Value).getD kz undef), rfl, GG, HO, CK⟩
          · have hil : i < j := by have := of_decide_eq_true hij1; omega
            obtain ⟨h, hh⟩ : ∃ h, (i + j) / 2 ^ 1 = h := ⟨_, rfl⟩
            have hh2 : (i + j) / 2 = h := hh
            refine s_val 151 rfl rfl (.bool true) (run_lssT 3 _ _ _ rfl ((i : Nat) : Int) ((j : Nat) : Int) rfl rfl true hij1 _) ?_
            refine nr ?_; intro U h; simp only [z0, z1] at h; subst h
            refine wpList_nil ?_
            refine then_n ?_
            refine wp_cond_true rfl ?_
            refine wp_skip ?_
            refine then_n ?_
            refine wp_block ?_
            refine wp_seq ?_
            refine wp_region_lit ?_
            refine s_val 152 rfl rfl (.int .i64 ((i : Nat) : Int)) (rfl) ?_
            refine nr ?_; intro U h; simp only [z0, z1] at h; subst h
            refine s_val 153 rfl rfl (.int .i64 ((j : Nat) : Int)) (rfl) ?_
            refine nr ?_; intro U h; simp only [z0, z1] at h; subst h
            refine s_val 154 rfl rfl (.int .i64 ((i + j : Nat) : Int)) (run_addI 3 _ _ _ rfl ((i : Nat) : Int) ((j : Nat) : Int) ((i + j : Nat) : Int) rfl rfl (by omega) (by omega) (by omega) _) ?_
            refine nr ?_; intro U h; simp only [z0, z1] at h; subst h
            refine s_val 155 rfl rfl (.int .u64 ((i + j : Nat) : Int)) (cv3u _ rfl (i + j) (by omega) rfl _) ?_
            refine nr ?_; intro U h; simp only [z0, z1] at h; subst h
            refine s_val 156 rfl rfl (.int .u64 ((h : Nat) : Int)) (run_shr64 77 77 _ _ rfl (i + j) 1 .u64 rfl rfl (by decide) h hh _) ?_
            refine nr ?_; intro U h; simp only [z0, z1] at h; subst h
            refine s_val 157 rfl rfl (.int .i64 ((h : Nat) : Int)) (cvu3 _ rfl h (by omega) rfl _) ?_
            refine nr ?_; intro U h; simp only [z0, z1] at h; subst h
            refine s_val 23 rfl rfl (.int .i64 ((h : Nat) : Int)) (rfl) ?_
            refine nr ?_; intro U h; simp only [z0, z1] at h; subst h
            refine wpList_nil ?_
            refine then_n ?_
            refine wp_seq ?_
            cases hc : decide (ltC (l.getD ((mid + m - 1) - h) zC) (l.getD h zC) = true)
            · refine wp_region_exA (A := ?Ax1) 11 [(0, 158), (1, 159), (2, 160), (3, 161), (4, 162), (5, 163), (6, 164), (7, 165), (8, 166), (9, 167), (10, 168)] [.val (.func (.func 40) #[] #[.pointer (some ⟨c, 0, none⟩)]), .val (.slice ao l.length cap), .val (.int .i64 ((mid + m - 1 : Nat) : Int)), .val (.int .i64 ((h : Nat) : Int)), .val (.int .i64 (((mid + m - 1) - h : Nat) : Int)), .val (.pointer (pK kC ao ((mid + m - 1) - h) 0)), .val (.agg (cdA (l.getD ((mid + m - 1) - h) zC))), .val (.slice ao l.length cap), .val (.int .i64 ((h : Nat) : Int)), .val (.pointer (pK kC ao h 0)), .val (.agg (cdA (l.getD h zC)))] follows (by kernel_rfl) rfl ?hAx1 (opsA_cons ?o0x1 (opsA_cons ?o1x1 (opsA_cons ?o2x1 (opsA_cons ?o3x1 (opsA_cons ?o4x1 (opsA_cons ?o5x1 (opsA_cons ?o6x1 (opsA_cons ?o7x1 (opsA_cons ?o8x1 (opsA_cons ?o9x1 (opsA_cons ?o10x1 opsA_nil))))))))))) ?restx1
              case hAx1 =>
                intro ptrs
                simp only [full, foldSlots, filledE, postE, List.foldl_cons, List.foldl_nil, List.getD_cons_zero, List.getD_cons_succ, fill_val, List.set_cons_zero, List.set_cons_succ]
                exact rfl
              case o0x1 => exact fun _ _ _ _ => opE_move (v := .func (.func 40) #[] #[.pointer (some ⟨c, 0, none⟩)]) _ rfl rfl rfl
              case o1x1 => exact fun _ _ _ _ => opE_move (v := .slice ao l.length cap) _ rfl rfl rfl
              case o2x1 => exact fun _ _ _ _ => opE_move (v := .int .i64 ((mid + m - 1 : Nat) : Int)) _ rfl rfl rfl
              case o3x1 => exact fun _ _ _ _ => opE_move (v := .int .i64 ((h : Nat) : Int)) _ rfl rfl rfl
              case o4x1 => exact fun _ _ _ _ => opE_value (v := .int .i64 (((mid + m - 1) - h : Nat) : Int)) rfl (run_subI 3 _ _ _ rfl ((mid + m - 1 : Nat) : Int) ((h : Nat) : Int) (((mid + m - 1) - h : Nat) : Int) rfl rfl (by omega) (by omega) (by omega) _)
              case o5x1 => exact fun _ _ hw _ => opE_value (v := .pointer (pK kC ao ((mid + m - 1) - h) 0)) rfl (run_ixK rC ((HO.gro ((Gro.refl _).drew.trans hw)).re) _ _ rfl rfl ((mid + m - 1) - h) rfl (by omega))
              case o6x1 => exact fun _ _ hw _ => opE_value (v := .agg (cdA (l.getD ((mid + m - 1) - h) zC))) rfl (run_ldKC ((HO.gro ((Gro.refl _).drew.trans hw)).re) _ rfl ((mid + m - 1) - h) rfl (by omega))
              case o7x1 => exact fun _ _ _ _ => opE_move (v := .slice ao l.length cap) _ rfl rfl rfl
              case o8x1 => exact fun _ _ _ _ => opE_move (v := .int .i64 ((h : Nat) : Int)) _ rfl rfl rfl
              case o9x1 => exact fun _ _ hw _ => opE_value (v := .pointer (pK kC ao h 0)) rfl (run_ixK rC ((HO.gro ((Gro.refl _).drew.trans hw)).re) _ _ rfl rfl h rfl (by omega))
              case o10x1 => exact fun _ _ hw _ => opE_value (v := .agg (cdA (l.getD h zC))) rfl (run_ldKC ((HO.gro ((Gro.refl _).drew.trans hw)).re) _ rfl h rfl (by omega))
              intro ptrs w1 GD hxE
              simp only [List.drop_succ_cons, List.drop_zero]
              replace HO := HO.gro ((Gro.refl _).drew.trans GD)
              replace CK := CK.gro ((Gro.refl _).drew.trans GD)
              replace GG := GG.drew.tg GD
              clear GD
              refine s_callF 169 rfl rfl _ 40 #[.pointer (some ⟨c, 0, none⟩)] Try.call40 rfl _ rfl rfl _ rfl [.agg (cdA (l.getD ((mid + m - 1) - h) zC)), .agg (cdA (l.getD h zC))] rfl (cmp40_any (l.getD ((mid + m - 1) - h) zC) (l.getD h zC) (atC HO.re (by omega)) (atC HO.re (by omega)) c _ (CK)) ?_
              intro w2 G
              replace HO := HO.gro G
              replace CK := CK.gro G
              replace GG := GG.tg G
              clear G
              refine nr ?_; intro U h; simp only [z0, z1] at h; subst h
              refine s_val 170 rfl rfl (.bool false) (run_lssT 3 _ _ _ rfl (cmpC (l.getD ((mid + m - 1) - h) zC) (l.getD h zC)) 0 rfl rfl false ((cmpC_neg _ _).trans ((dec_b _).trans hc)) _) ?_
              refine nr ?_; intro U h; simp only [z0, z1] at h; subst h
              refine s_val 171 rfl rfl (.bool true) (run_nt _ _ rfl false rfl) ?_
              refine nr ?_; intro U h; simp only [z0, z1] at h; subst h
              refine wpList_nil ?_
              refine then_n ?_
              refine wp_cond_true rfl ?_
              refine wp_region_lit ?_
              refine s_val 172 rfl rfl (.int .i64 ((h : Nat) : Int)) (rfl) ?_
              refine nr ?_; intro U h; simp only [z0, z1] at h; subst h
              refine s_val 173 rfl rfl (.int .i64 ((h + 1 : Nat) : Int)) (run_addI 3 _ _ _ rfl ((h : Nat) : Int) 1 ((h + 1 : Nat) : Int) rfl rfl (by omega) (by omega) (by omega) _) ?_
              refine nr ?_; intro U h; simp only [z0, z1] at h; subst h
              refine s_val 20 rfl rfl (.int .i64 ((h + 1 : Nat) : Int)) (rfl) ?_
              refine nr ?_; intro U h; simp only [z0, z1] at h; subst h
              refine wpList_nil ?_
              refine blk_n ?_
              refine then_n ?_
              exact ⟨j - (h + 1), by omega, h + 1, j, (fun kz => ([.int .i64 ((h : Nat) : Int), .int .i64 ((i : Nat) : Int), .int .i64 ((j : Nat) : Int), .bool true, .int .i64 ((i : Nat) : Int), .int .i64 ((j : Nat) : Int), .int .i64 ((i + j : Nat) : Int), .int .u64 ((i + j : Nat) : Int), .int .u64 ((h : Nat) : Int), .int .i64 ((h : Nat) : Int), .func (.func 40) #[] #[.pointer (some ⟨c, 0, none⟩)], .slice ao l.length cap, .int .i64 ((mid + m - 1 : Nat) : Int), .int .i64 ((h : Nat) : Int), .int .i64 (((mid + m - 1) - h : Nat) : Int), .pointer (pK kC ao ((mid + m - 1) - h) 0), .agg (cdA (l.getD ((mid + m - 1) - h) zC)), .slice ao l.length cap, .int .i64 ((h : Nat) : Int), .pointer (pK kC ao h 0), .agg (cdA (l.getD h zC)), .int .i64 (cmpC (l.getD ((mid + m - 1) - h) zC) (l.getD h zC)), .bool false, .bool true, .int .i64 ((h : Nat) : Int), .int .i64 ((h + 1 : Nat) : Int), us2 26] : List Value).getD kz undef), rfl, rfl, by omega, by omega, by omega, .inr (Bool.eq_false_iff.2 (of_decide_eq_false hc)), c2, GG, HO, CK⟩
            · refine wp_region_exA (A := ?Ax2) 11 [(0, 158), (1, 159), (2, 160), (3, 161), (4, 162), (5, 163), (6, 164), (7, 165), (8, 166), (9, 167), (10, 168)] [.val (.func (.func 40) #[] #[.pointer (some ⟨c, 0, none⟩)]), .val (.slice ao l.length cap), .val (.int .i64 ((mid + m - 1 : Nat) : Int)), .val (.int .i64 ((h : Nat) : Int)), .val (.int .i64 (((mid + m - 1) - h : Nat) : Int)), .val (.pointer (pK kC ao ((mid + m - 1) - h) 0)), .val (.agg (cdA (l.getD ((mid + m - 1) - h) zC))), .val (.slice ao l.length cap), .val (.int .i64 ((h : Nat) : Int)), .val (.pointer (pK kC ao h 0)), .val (.agg (cdA (l.getD h zC)))] follows (by kernel_rfl) rfl ?hAx2 (opsA_cons ?o0x2 (opsA_cons ?o1x2 (opsA_cons ?o2x2 (opsA_cons ?o3x2 (opsA_cons ?o4x2 (opsA_cons ?o5x2 (opsA_cons ?o6x2 (opsA_cons ?o7x2 (opsA_cons ?o8x2 (opsA_cons ?o9x2 (opsA_cons ?o10x2 opsA_nil))))))))))) ?restx2
              case hAx2 =>
                intro ptrs
                simp only [full, foldSlots, filledE, postE, List.foldl_cons, List.foldl_nil, List.getD_cons_zero, List.getD_cons_succ, fill_val, List.set_cons_zero, List.set_cons_succ]
                exact rfl
              case o0x2 => exact fun _ _ _ _ => opE_move (v := .func (.func 40) #[] #[.pointer (some ⟨c, 0, none⟩)]) _ rfl rfl rfl
              case o1x2 => exact fun _ _ _ _ => opE_move (v := .slice ao l.length cap) _ rfl rfl rfl
              case o2x2 => exact fun _ _ _ _ => opE_move (v := .int .i64 ((mid + m - 1 : Nat) : Int)) _ rfl rfl rfl
              case o3x2 => exact fun _ _ _ _ => opE_move (v := .int .i64 ((h : Nat) : Int)) _ rfl rfl rfl
              case o4x2 => exact fun _ _ _ _ => opE_value (v := .int .i64 (((mid + m - 1) - h : Nat) : Int)) rfl (run_subI 3 _ _ _ rfl ((mid + m - 1 : Nat) : Int) ((h : Nat) : Int) (((mid + m - 1) - h : Nat) : Int) rfl rfl (by omega) (by omega) (by omega) _)
              case o5x2 => exact fun _ _ hw _ => opE_value (v := .pointer (pK kC ao ((mid + m - 1) - h) 0)) rfl (run_ixK rC ((HO.gro ((Gro.refl _).drew.trans hw)).re) _ _ rfl rfl ((mid + m - 1) - h) rfl (by omega))
              case o6x2 => exact fun _ _ hw _ => opE_value (v := .agg (cdA (l.getD ((mid + m - 1) - h) zC))) rfl (run_ldKC ((HO.gro ((Gro.refl _).drew.trans hw)).re) _ rfl ((mid + m - 1) - h) rfl (by omega))
              case o7x2 => exact fun _ _ _ _ => opE_move (v := .slice ao l.length cap) _ rfl rfl rfl
              case o8x2 => exact fun _ _ _ _ => opE_move (v := .int .i64 ((h : Nat) : Int)) _ rfl rfl rfl
              case o9x2 => exact fun _ _ hw _ => opE_value (v := .pointer (pK kC ao h 0)) rfl (run_ixK rC ((HO.gro ((Gro.refl _).drew.trans hw)).re) _ _ rfl rfl h rfl (by omega))
              case o10x2 => exact fun _ _ hw _ => opE_value (v := .agg (cdA (l.getD h zC))) rfl (run_ldKC ((HO.gro ((Gro.refl _).drew.trans hw)).re) _ rfl h rfl (by omega))
              intro ptrs w1 GD hxE
              simp only [List.drop_succ_cons, List.drop_zero]
              replace HO := HO.gro ((Gro.refl _).drew.trans GD)
              replace CK := CK.gro ((Gro.refl _).drew.trans GD)
              replace GG := GG.drew.tg GD
              clear GD
              refine s_callF 169 rfl rfl _ 40 #[.pointer (some ⟨c, 0, none⟩)] Try.call40 rfl _ rfl rfl _ rfl [.agg (cdA (l.getD ((mid + m - 1) - h) zC)), .agg (cdA (l.getD h zC))] rfl (cmp40_any (l.getD ((mid + m - 1) - h) zC) (l.getD h zC) (atC HO.re (by omega)) (atC HO.re (by omega)) c _ (CK)) ?_
              intro w2 G
              replace HO := HO.gro G
              replace CK := CK.gro G
              replace GG := GG.tg G
              clear G
              refine nr ?_; intro U h; simp only [z0, z1] at h; subst h
              refine s_val 170 rfl rfl (.bool true) (run_lssT 3 _ _ _ rfl (cmpC (l.getD ((mid + m - 1) - h) zC) (l.getD h zC)) 0 rfl rfl true ((cmpC_neg _ _).trans ((dec_b _).trans hc)) _) ?_
              refine nr ?_; intro U h; simp only [z0, z1] at h; subst h
              refine s_val 171 rfl rfl (.bool false) (run_nt _ _ rfl true rfl) ?_
              refine nr ?_; intro U h; simp only [z0, z1] at h; subst h
              refine wpList_nil ?_
              refine then_n ?_
              refine wp_cond_false rfl ?_
              refine wp_region_lit ?_
              refine s_val 174 rfl rfl (.int .i64 ((h : Nat) : Int)) (rfl) ?_
              refine nr ?_; intro U h; simp only [z0, z1] at h; subst h
              refine s_val 21 rfl rfl (.int .i64 ((h : Nat) : Int)) (rfl) ?_
              refine nr ?_; intro U h; simp only [z0, z1] at h; subst h
              refine wpList_nil ?_
              refine blk_n ?_
              refine then_n ?_
              exact ⟨h - i, by omega, i, h, (fun kz => ([.int .i64 ((h : Nat) : Int), .int .i64 ((i : Nat) : Int), .int .i64 ((j : Nat) : Int), .bool true, .int .i64 ((i : Nat) : Int), .int .i64 ((j : Nat) : Int), .int .i64 ((i + j : Nat) : Int), .int .u64 ((i + j : Nat) : Int), .int .u64 ((h : Nat) : Int), .int .i64 ((h : Nat) : Int), .func (.func 40) #[] #[.pointer (some ⟨c, 0, none⟩)], .slice ao l.length cap, .int .i64 ((mid + m - 1 : Nat) : Int), .int .i64 ((h : Nat) : Int), .int .i64 (((mid + m - 1) - h : Nat) : Int), .pointer (pK kC ao ((mid + m - 1) - h) 0), .agg (cdA (l.getD ((mid + m - 1) - h) zC)), .slice ao l.length cap, .int .i64 ((h : Nat) : Int), .pointer (pK kC ao h 0), .agg (cdA (l.getD h zC)), .int .i64 (cmpC (l.getD ((mid + m - 1) - h) zC) (l.getD h zC)), .bool true, .bool false, us2 24, us2 25, .int .i64 ((h : Nat) : Int)] : List Value).getD kz undef), rfl, rfl, by omega, by omega, by omega, c1, .inr (of_decide_eq_true hc), GG, HO, CK⟩
        intro HT1
        refine wp_seq ?_
        refine wp_seq ?_
        refine wp_region_lit ?_
        refine s_val 138 rfl rfl (.int .i64 ((m : Nat) : Int)) (rfl) ?_
        refine nr ?_; intro U h; simp only [z0, z1] at h; subst h
        refine s_val 139 rfl rfl (.int .i64 ((mid : Nat) : Int)) (rfl) ?_
        refine nr ?_; intro U h; simp only [z0, z1] at h; subst h
        cases h3 : decide (((mid : Nat) : Int) < ((m : Nat) : Int))
        · have h3n : m ≤ mid := by have := of_decide_eq_false h3; omega
          refine s_val 140 rfl rfl (.bool false) (run_gtrT 3 _ _ _ rfl ((m : Nat) : Int) ((mid : Nat) : Int) rfl rfl false h3 _) ?_
          refine nr ?_; intro U h; simp only [z0, z1] at h; subst h
          refine wpList_nil ?_
          refine then_n ?_
          refine wp_cond_false rfl ?_
          refine wp_seq ?_
          refine wp_region_lit ?_
          refine s_val 145 rfl rfl (.int .i64 ((a : Nat) : Int)) (rfl) ?_
          refine nr ?_; intro U h; simp only [z0, z1] at h; subst h
          refine s_val 20 rfl rfl (.int .i64 ((a : Nat) : Int)) (rfl) ?_
          refine nr ?_; intro U h; simp only [z0, z1] at h; subst h
          refine wpList_nil ?_
          refine then_n ?_
          refine wp_region_lit ?_
          refine s_val 146 rfl rfl (.int .i64 ((m : Nat) : Int)) (rfl) ?_
          refine nr ?_; intro U h; simp only [z0, z1] at h; subst h
          refine s_val 21 rfl rfl (.int .i64 ((m : Nat) : Int)) (rfl) ?_
          refine nr ?_; intro U h; simp only [z0, z1] at h; subst h
          refine wpList_nil ?_
          refine then_n ?_
          exact HT1 _ _ ⟨a, m, (fun kz => ([.int .i64 ((m : Nat) : Int), .int .i64 ((mid : Nat) : Int), .bool false, undef, undef, undef, undef, .int .i64 ((a : Nat) : Int), .int .i64 ((m : Nat) : Int)] : List Value).getD kz undef), rfl, .inr ⟨rfl, rfl, h3n⟩, GG, HO, CK⟩
        · have h3l : mid < m := by have := of_decide_eq_true h3; omega
          refine s_val 140 rfl rfl (.bool true) (run_gtrT 3 _ _ _ rfl ((m : Nat) : Int) ((mid : Nat) : Int) rfl rfl true h3 _) ?_
          refine nr ?_; intro U h; simp only [z0, z1] at h; subst h
          refine wpList_nil ?_
          refine then_n ?_
          refine wp_cond_true rfl ?_
          refine wp_seq ?_
          refine wp_region_lit ?_
          refine s_val 141 rfl rfl (.int .i64 ((mid + m : Nat) : Int)) (rfl) ?_
          refine nr ?_; intro U h; simp only [z0, z1] at h; subst h
          refine s_val 142 rfl rfl (.int .i64 ((b : Nat) : Int)) (rfl) ?_
          refine nr ?_; intro U h; simp only [z0, z1] at h; subst h
          refine s_val 143 rfl rfl (.int .i64 ((mid + m - b : Nat) : Int)) (run_subI 3 _ _ _ rfl ((mid + m : Nat) : Int) ((b : Nat) : Int) ((mid + m - b : Nat) : Int) rfl rfl (by omega) (by omega) (by omega) _) ?_
          refine nr ?_; intro U h; simp only [z0, z1] at h; subst h
          refine s_val 20 rfl rfl (.int .i64 ((mid + m - b : Nat) : Int)) (rfl) ?_
          refine nr ?_; intro U h; simp only [z0, z1] at h; subst h
          refine wpList_nil ?_
          refine then_n ?_
          refine wp_region_lit ?_
          refine s_val 144 rfl rfl (.int .i64 ((mid : Nat) : Int)) (rfl) ?_
          refine nr ?_; intro U h; simp only [z0, z1] at h; subst h
          refine s_val 21 rfl rfl (.int .i64 ((mid : Nat) : Int)) (rfl) ?_
          refine nr ?_; intro U h; simp only [z0, z1] at h; subst h
          refine wpList_nil ?_
          refine then_n ?_
          exact HT1 _ _ ⟨mid + m - b, mid, (fun kz => ([.int .i64 ((m : Nat) : Int), .int .i64 ((mid : Nat) : Int), .bool true, .int .i64 ((mid + m : Nat) : Int), .int .i64 ((b : Nat) : Int), .int .i64 ((mid + m - b : Nat) : Int), .int .i64 ((mid : Nat) : Int), undef, undef] : List Value).getD kz undef), rfl, .inl ⟨by omega, rfl, h3l⟩, GG, HO, CK⟩
      · have h2e : b = m + 1 := by have := of_decide_eq_true h2; omega
        refine s_val 80 rfl rfl (.bool true) (run_eq_k 3 .i64 _ _ _ rfl Try.underlying3 ((b - m : Nat) : Int) 1 rfl rfl true h2 _) ?_
        refine nr ?_; intro U h; simp only [z0, z1] at h; subst h
        refine wpList_nil ?_
        refine then_n ?_
        refine wp_cond_true rfl ?_
        refine wp_seq ?_
        refine wp_region_lit ?_
        refine s_val 81 rfl rfl (.int .i64 ((a : Nat) : Int)) (rfl) ?_
        refine nr ?_; intro U h; simp only [z0, z1] at h; subst h
        refine s_val 14 rfl rfl (.int .i64 ((a : Nat) : Int)) (rfl) ?_
        refine nr ?_; intro U h; simp only [z0, z1] at h; subst h
        refine wpList_nil ?_
        refine then_n ?_
        refine wp_seq ?_
        refine wp_region_lit ?_
        refine s_val 82 rfl rfl (.int .i64 ((m : Nat) : Int)) (rfl) ?_
        refine nr ?_; intro U h; simp only [z0, z1] at h; subst h
        refine s_val 15 rfl rfl (.int .i64 ((m : Nat) : Int)) (rfl) ?_
        refine nr ?_; intro U h; simp only [z0, z1] at h; subst h
        refine wpList_nil ?_
        refine then_n ?_
        refine wp_seq ?_
        refine wp_block ?_
        refine wp_loopN (fun mz az wv => ∃ (i : Nat) (j : Nat) (us1 : Nat → Value), mz = j - i ∧ az = ⟨[.slice ao l.length cap, .int .i64 ((a : Nat) : Int), .int .i64 ((m : Nat) : Int), .int .i64 ((b : Nat) : Int), .func (.func 40) #[] #[.pointer (some ⟨c, 0, none⟩)], undef, undef, undef, undef, undef, undef, undef, undef, undef, .int .i64 ((i : Nat) : Int), .int .i64 ((j : Nat) : Int), us1 0, undef, undef, undef, undef, undef, undef, undef, undef, .int .i64 ((m : Nat) : Int), .int .i64 ((a : Nat) : Int), .int .i64 ((m - a : Nat) : Int), .bool false, undef, undef, undef, undef, undef, undef, undef, undef, undef, undef, undef, undef, undef, undef, undef, undef, undef, undef, undef, undef, undef, undef, undef, undef, undef, undef, undef, undef, undef, undef, undef, undef, undef, undef, undef, undef, undef, undef, undef, undef, undef, undef, undef, undef, undef, undef, undef, undef, .int .i64 ((b : Nat) : Int), .int .i64 ((m : Nat) : Int), .int .i64 ((b - m : Nat) : Int), .bool true, .int .i64 ((a : Nat) : Int), .int .i64 ((m : Nat) : Int), us1 1, us1 2, us1 3, us1 4, us1 5, us1 6, us1 7, us1 8, us1 9, us1 10, us1 11, us1 12, us1 13, us1 14, us1 15, us1 16, us1 17, us1 18, us1 19, us1 20, us1 21, us1 22, us1 23, us1 24, undef, undef, undef, undef, undef, undef, undef, undef, undef, undef, undef, undef, undef, undef, undef, undef, undef, undef, undef, undef, undef, undef, undef, undef, undef, undef, undef, undef, undef, undef, undef, undef, undef, undef, undef, undef, undef, undef, undef, undef, undef, undef, undef, undef, undef, undef, undef, undef, undef, undef, undef, undef, undef, undef, undef, undef, undef, undef, undef, undef, undef, undef, undef, undef, undef, undef, undef, undef, undef, undef, undef, undef, undef, undef, undef, undef, undef, undef, undef, undef, undef, undef, undef, undef, undef, undef, undef, undef, undef, undef, undef, undef, undef, undef, undef, undef, undef, undef, undef, undef, undef, undef, undef, undef, undef, undef, undef, undef, undef, undef, undef, undef, undef].toArray, []⟩ ∧ a ≤ i ∧ i ≤ j ∧ j ≤ m ∧ (i = a ∨ ltC (l.getD m zC) (l.getD (i - 1) zC) = false) ∧ (j = m ∨ ltC (l.getD m zC) (l.getD j zC) = true) ∧ GroS (Go.Proofs.Ytfabgonoonanfaa.blk ao) w wv ∧ OW kC 33 wv B ao cap l ∧ CloC wv c) ?_ _ ⟨a, m, (fun kz => ([undef, undef, undef, undef, undef, undef, undef, undef, undef, undef, undef, undef, undef, undef, undef, undef, undef, undef, undef, undef, undef, undef, undef, undef, undef] : List Value).getD kz undef), rfl, rfl, Nat.le_refl _, by omega, Nat.le_refl _, .inl rfl, .inl rfl, GG, HO, CK⟩
        clear GG HO CK
        rintro mz az wv ⟨i, j, us1, rfl, rfl, hi, hij, hj, c1, c2, GG, HO, CK⟩
        refine wp_seq ?_
        refine wp_seq ?_
        refine wp_region_lit ?_
        refine s_val 83 rfl rfl (.int .i64 ((i : Nat) : Int)) (rfl) ?_
        refine nr ?_; intro U h; simp only [z0, z1] at h; subst h
        refine s_val 84 rfl rfl (.int .i64 ((j : Nat) : Int)) (rfl) ?_
        refine nr ?_; intro U h; simp only [z0, z1] at h; subst h
        cases hij1 : decide (((i : Nat) : Int) < ((j : Nat) : Int))
        · have hie : i = j := by have := of_decide_eq_false hij1; omega
          refine s_val 85 rfl rfl (.bool false) (run_lssT 3 _ _ _ rfl ((i : Nat) : Int) ((j : Nat) : Int) rfl rfl false hij1 _) ?_
          refine nr ?_; intro U h; simp only [z0, z1] at h; subst h
          refine wpList_nil ?_
          refine then_n ?_
          refine wp_cond_false rfl ?_
          refine wp_exit ?_
          refine then_x ?_
          refine then_x ?_
          refine blk_x ?_
          refine then_n ?_
          refine wp_seq ?_
          refine wp_seq ?_
          refine wp_region_lit ?_
          refine s_val 107 rfl rfl (.int .i64 ((m : Nat) : Int)) (rfl) ?_
          refine nr ?_; intro U h; simp only [z0, z1] at h; subst h
          refine s_val 17 rfl rfl (.int .i64 ((m : Nat) : Int)) (rfl) ?_
          refine nr ?_; intro U h; simp only [z0, z1] at h; subst h
          refine wpList_nil ?_
          refine then_n ?_
          refine wp_block ?_
          refine wp_loopN (fun mz az wv => ∃ (t : Nat) (us2 : Nat → Value), mz = m + 1 - t ∧ az = ⟨[.slice ao l.length cap, .int .i64 ((a : Nat) : Int), .int .i64 ((m : Nat) : Int), .int .i64 ((b : Nat) : Int), .func (.func 40) #[] #[.pointer (some ⟨c, 0, none⟩)], undef, undef, undef, undef, undef, undef, undef, undef, undef, .int .i64 ((i : Nat) : Int), .int .i64 ((j : Nat) : Int), us1 0, .int .i64 ((m - t : Nat) : Int), undef, undef, undef, undef, undef, undef, undef, .int .i64 ((m : Nat) : Int), .int .i64 ((a : Nat) : Int), .int .i64 ((m - a : Nat) : Int), .bool false, undef, undef, undef, undef, undef, undef, undef, undef, undef, undef, undef, undef, undef, undef, undef, undef, undef, undef, undef, undef, undef, undef, undef, undef, undef, undef, undef, undef, undef, undef, undef, undef, undef, undef, undef, undef, undef, undef, undef, undef, undef, undef, undef, undef, undef, undef, undef, undef, .int .i64 ((b : Nat) : Int), .int .i64 ((m : Nat) : Int), .int .i64 ((b - m : Nat) : Int), .bool true, .int .i64 ((a : Nat) : Int), .int .i64 ((m : Nat) : Int), .int .i64 ((i : Nat) : Int), .int .i64 ((j : Nat) : Int), .bool false, us1 4, us1 5, us1 6, us1 7, us1 8, us1 9, us1 10, us1 11, us1 12, us1 13, us1 14, us1 15, us1 16, us1 17, us1 18, us1 19, us1 20, us1 21, us1 22, us1 23, us1 24, .int .i64 ((m : Nat) : Int), us2 0, us2 1, us2 2, us2 3, us2 4, us2 5, us2 6, us2 7, us2 8, us2 9, us2 10, us2 11, us2 12, us2 13, us2 14, us2 15, us2 16, us2 17, us2 18, us2 19, us2 20, undef, undef, undef, undef, undef, undef, undef, undef, undef, undef, undef, undef, undef, undef, undef, undef, undef, undef, undef, undef, undef, undef, undef, undef, undef, undef, undef, undef, undef, undef, undef, undef, undef, undef, undef, undef, undef, undef, undef, undef, undef, undef, undef, undef, undef, undef, undef, undef, undef, undef, undef, undef, undef, undef, undef, undef, undef, undef, undef, undef, undef, undef, undef, undef, undef, undef, undef, undef, undef, undef, undef, undef, undef, undef, undef, undef, undef, undef, undef, undef, undef, undef, undef, undef, undef, undef, undef, undef, undef, undef, undef].toArray, []⟩ ∧ t ≤ m - i ∧ GroS (Go.Proofs.Ytfabgonoonanfaa.blk ao) w wv ∧ OW kC 33 wv B ao cap (mvl zC l m t) ∧ CloC wv c) ?_ _ ⟨0, (fun kz => ([undef, undef, undef, undef, undef, undef, undef, undef, undef, undef, undef, undef, undef, undef, undef, undef, undef, undef, undef, undef, undef] : List Value).getD kz undef), rfl, rfl, Nat.zero_le _, GG, HO, CK⟩
          clear GG HO CK
          rintro mz az wv ⟨t, us2, rfl, rfl, ht, GG, HO, CK⟩
          refine wp_seq ?_
          refine wp_seq ?_
          refine wp_region_lit ?_
          refine s_val 108 rfl rfl (.int .i64 ((m - t : Nat) : Int)) (rfl) ?_
          refine nr ?_; intro U h; simp only [z0, z1] at h; subst h
          refine s_val 109 rfl rfl (.int .i64 ((i : Nat) : Int)) (rfl) ?_
          refine nr ?_; intro U h; simp only [z0, z1] at h; subst h
          cases ht1 : decide (((i : Nat) : Int) < ((m - t : Nat) : Int))
          · have hte : t = m - i := by have := of_decide_eq_false ht1; omega
            refine s_val 110 rfl rfl (.bool false) (run_gtrT 3 _ _ _ rfl ((m - t : Nat) : Int) ((i : Nat) : Int) rfl rfl false ht1 _) ?_
            refine nr ?_; intro U h; simp only [z0, z1] at h; subst h
            refine wpList_nil ?_
            refine then_n ?_
            refine wp_cond_false rfl ?_
            refine wp_exit ?_
            refine then_x ?_
            refine then_x ?_
            refine blk_x ?_
            refine then_n ?_
            refine wp_ret ?_
            refine then_r ?_
            refine bodyPost_ret (results_none Try.results51 _ _ _) rfl ?_
            subst h2e
            rw [hte, mgd_right zC sw_C (by omega) (by omega) hb sX c1 (by rw [hie]; exact c2)] at HO
            exact ⟨rfl, GG, HO⟩
          · have htl : i < m - t := by have := of_decide_eq_true ht1; omega
            refine s_val 110 rfl rfl (.bool true) (run_gtrT 3 _ _ _ rfl ((m - t : Nat) : Int) ((i : Nat) : Int) rfl rfl true ht1 _) ?_
            refine nr ?_; intro U h; simp only [z0, z1] at h; subst h
            refine wpList_nil ?_
            refine then_n ?_
            refine wp_cond_true rfl ?_
            refine wp_skip ?_
            refine then_n ?_
            refine wp_seq ?_
            refine wp_block ?_
            refine wp_region_pm (A := ?Ax3) (fun L x => GroS (Go.Proofs.Ytfabgonoonanfaa.blk ao) wv x ∧ OW kC 33 x B ao cap (wrt (L 15) (mvl zC l m t) (m - t) ((mvl zC l m t).getD (m - t - 1) zC))) 16 [(0, 113), (1, 114), (2, 115), (3, 116), (4, 117), (5, 118), (6, 119), (7, 120), (8, 121), (9, 122), (10, 123), (11, 124), (12, 125), (13, 126), (14, 127)] [.val (.slice ao l.length cap), .val (.int .i64 ((m - t : Nat) : Int)), .val (.slice ao l.length cap), .val (.int .i64 ((m - t : Nat) : Int)), .val (.int .i64 ((m - t - 1 : Nat) : Int)), .val (.slice ao l.length cap), .val (.int .i64 ((m - t : Nat) : Int)), .val (.int .i64 ((m - t - 1 : Nat) : Int)), .val (.pointer (pK kC ao (m - t - 1) 0)), .val (.agg (cdA ((mvl zC l m t).getD (m - t - 1) zC))), .val (.slice ao l.length cap), .val (.int .i64 ((m - t : Nat) : Int)), .val (.pointer (pK kC ao (m - t) 0)), .val (.agg (cdA ((mvl zC l m t).getD (m - t) zC))), .val (.pointer (pK kC ao (m - t) 0)), .val undef] [] [] follows (by kernel_rfl) rfl (by kernel_rfl) (by decide) ⟨(GroS.refl _ _).drew, HO.gro (Gro.refl _).drew⟩ ?hAx3 (opsM_w ?o0x3 (opsM_w ?o1x3 (opsM_w ?o2x3 (opsM_w ?o3x3 (opsM_w ?o4x3 (opsM_w ?o5x3 (opsM_w ?o6x3 (opsM_w ?o7x3 (opsM_w ?o8x3 (opsM_w ?o9x3 (opsM_w ?o10x3 (opsM_w ?o11x3 (opsM_w ?o12x3 (opsM_w ?o13x3 (opsM_w ?o14x3 (opsM_w ?o15x3 opsM_nil)))))))))))))))) ?restx3
            case hAx3 =>
              intro ptrs
              simp only [full, foldSlots, filledE, postE, List.foldl_cons, List.foldl_nil, List.getD_cons_zero, List.getD_cons_succ, fill_val, List.set_cons_zero, List.set_cons_succ]
              exact rfl
            case o0x3 => exact fun L ptrs x hx _ _ _ _ => opX_val (v := .slice ao l.length cap) rfl (rfl) ⟨hx, StM.vals [0, 1, 2, 3, 4, 5, 6, 7, 8, 9, 10, 11, 12, 13, 14, 15] (by kernel_rfl) ⟨⟨_, rfl⟩, ⟨_, rfl⟩, ⟨_, rfl⟩, ⟨_, rfl⟩, ⟨_, rfl⟩, ⟨_, rfl⟩, ⟨_, rfl⟩, ⟨_, rfl⟩, ⟨_, rfl⟩, ⟨_, rfl⟩, ⟨_, rfl⟩, ⟨_, rfl⟩, ⟨_, rfl⟩, ⟨_, rfl⟩, ⟨_, rfl⟩, ⟨_, rfl⟩, trivial⟩⟩ rfl
            case o1x3 => exact fun L ptrs x hx _ _ _ _ => opX_val (v := .int .i64 ((m - t : Nat) : Int)) rfl (rfl) ⟨hx, StM.vals [0, 1, 2, 3, 4, 5, 6, 7, 8, 9, 10, 11, 12, 13, 14, 15] (by kernel_rfl) ⟨⟨_, rfl⟩, ⟨_, rfl⟩, ⟨_, rfl⟩, ⟨_, rfl⟩, ⟨_, rfl⟩, ⟨_, rfl⟩, ⟨_, rfl⟩, ⟨_, rfl⟩, ⟨_, rfl⟩, ⟨_, rfl⟩, ⟨_, rfl⟩, ⟨_, rfl⟩, ⟨_, rfl⟩, ⟨_, rfl⟩, ⟨_, rfl⟩, ⟨_, rfl⟩, trivial⟩⟩ rfl
            case o2x3 => exact fun L ptrs x hx _ _ _ _ => opX_val (v := .slice ao l.length cap) rfl (rfl) ⟨hx, StM.vals [0, 1, 2, 3, 4, 5, 6, 7, 8, 9, 10, 11, 12, 13, 14, 15] (by kernel_rfl) ⟨⟨_, rfl⟩, ⟨_, rfl⟩, ⟨_, rfl⟩, ⟨_, rfl⟩, ⟨_, rfl⟩, ⟨_, rfl⟩, ⟨_, rfl⟩, ⟨_, rfl⟩, ⟨_, rfl⟩, ⟨_, rfl⟩, ⟨_, rfl⟩, ⟨_, rfl⟩, ⟨_, rfl⟩, ⟨_, rfl⟩, ⟨_, rfl⟩, ⟨_, rfl⟩, trivial⟩⟩ rfl
            case o3x3 => exact fun L ptrs x hx _ _ _ _ => opX_val (v := .int .i64 ((m - t : Nat) : Int)) rfl (rfl) ⟨hx, StM.vals [0, 1, 2, 3, 4, 5, 6, 7, 8, 9, 10, 11, 12, 13, 14, 15] (by kernel_rfl) ⟨⟨_, rfl⟩, ⟨_, rfl⟩, ⟨_, rfl⟩, ⟨_, rfl⟩, ⟨_, rfl⟩, ⟨_, rfl⟩, ⟨_, rfl⟩, ⟨_, rfl⟩, ⟨_, rfl⟩, ⟨_, rfl⟩, ⟨_, rfl⟩, ⟨_, rfl⟩, ⟨_, rfl⟩, ⟨_, rfl⟩, ⟨_, rfl⟩, ⟨_, rfl⟩, trivial⟩⟩ rfl
            case o4x3 => exact fun L ptrs x hx _ _ _ _ => opX_val (v := .int .i64 ((m - t - 1 : Nat) : Int)) rfl (run_subI 3 _ _ _ rfl ((m - t : Nat) : Int) 1 ((m - t - 1 : Nat) : Int) rfl rfl (by omega) (by omega) (by omega) _) ⟨hx, StM.vals [0, 1, 2, 3, 4, 5, 6, 7, 8, 9, 10, 11, 12, 13, 14, 15] (by kernel_rfl) ⟨⟨_, rfl⟩, ⟨_, rfl⟩, ⟨_, rfl⟩, ⟨_, rfl⟩, ⟨_, rfl⟩, ⟨_, rfl⟩, ⟨_, rfl⟩, ⟨_, rfl⟩, ⟨_, rfl⟩, ⟨_, rfl⟩, ⟨_, rfl⟩, ⟨_, rfl⟩, ⟨_, rfl⟩, ⟨_, rfl⟩, ⟨_, rfl⟩, ⟨_, rfl⟩, trivial⟩⟩ rfl
            case o5x3 => exact fun L ptrs x hx _ _ _ _ => opX_val (v := .slice ao l.length cap) rfl (rfl) ⟨hx, StM.vals [0, 1, 2, 3, 4, 5, 6, 7, 8, 9, 10, 11, 12, 13, 14, 15] (by kernel_rfl) ⟨⟨_, rfl⟩, ⟨_, rfl⟩, ⟨_, rfl⟩, ⟨_, rfl⟩, ⟨_, rfl⟩, ⟨_, rfl⟩, ⟨_, rfl⟩, ⟨_, rfl⟩, ⟨_, rfl⟩, ⟨_, rfl⟩, ⟨_, rfl⟩, ⟨_, rfl⟩, ⟨_, rfl⟩, ⟨_, rfl⟩, ⟨_, rfl⟩, ⟨_, rfl⟩, trivial⟩⟩ rfl
            case o6x3 => exact fun L ptrs x hx _ _ _ _ => opX_val (v := .int .i64 ((m - t : Nat) : Int)) rfl (rfl) ⟨hx, StM.vals [0, 1, 2, 3, 4, 5, 6, 7, 8, 9, 10, 11, 12, 13, 14, 15] (by kernel_rfl) ⟨⟨_, rfl⟩, ⟨_, rfl⟩, ⟨_, rfl⟩, ⟨_, rfl⟩, ⟨_, rfl⟩, ⟨_, rfl⟩, ⟨_, rfl⟩, ⟨_, rfl⟩, ⟨_, rfl⟩, ⟨_, rfl⟩, ⟨_, rfl⟩, ⟨_, rfl⟩, ⟨_, rfl⟩, ⟨_, rfl⟩, ⟨_, rfl⟩, ⟨_, rfl⟩, trivial⟩⟩ rfl
            case o7x3 => exact fun L ptrs x hx _ _ _ _ => opX_val (v := .int .i64 ((m - t - 1 : Nat) : Int)) rfl (run_subI 3 _ _ _ rfl ((m - t : Nat) : Int) 1 ((m - t - 1 : Nat) : Int) rfl rfl (by omega) (by omega) (by omega) _) ⟨hx, StM.vals [0, 1, 2, 3, 4, 5, 6, 7, 8, 9, 10, 11, 12, 13, 14, 15] (by kernel_rfl) ⟨⟨_, rfl⟩, ⟨_, rfl⟩, ⟨_, rfl⟩, ⟨_, rfl⟩, ⟨_, rfl⟩, ⟨_, rfl⟩, ⟨_, rfl⟩, ⟨_, rfl⟩, ⟨_, rfl⟩, ⟨_, rfl⟩, ⟨_, rfl⟩, ⟨_, rfl⟩, ⟨_, rfl⟩, ⟨_, rfl⟩, ⟨_, rfl⟩, ⟨_, rfl⟩, trivial⟩⟩ rfl
            case o8x3 =>
              intro L ptrs x hx hL _ hs _
              have h15 : L 15 = false := hs 15 (by kernel_rfl)
              have HO : OW kC 33 x B ao cap (mvl zC l m t) := by have hx2 := hx.2; rw [h15] at hx2; exact hx2
              exact opX_val (v := .pointer (pK kC ao (m - t - 1) 0)) rfl (run_ixK rC (HO.re) _ _ rfl (by rw [mvl_len]; rfl) (m - t - 1) rfl (by rw [mvl_len]; omega)) ⟨hx, StM.vals [0, 1, 2, 3, 4, 5, 6, 7, 8, 9, 10, 11, 12, 13, 14, 15] (by kernel_rfl) ⟨⟨_, rfl⟩, ⟨_, rfl⟩, ⟨_, rfl⟩, ⟨_, rfl⟩, ⟨_, rfl⟩, ⟨_, rfl⟩, ⟨_, rfl⟩, ⟨_, rfl⟩, ⟨_, rfl⟩, ⟨_, rfl⟩, ⟨_, rfl⟩, ⟨_, rfl⟩, ⟨_, rfl⟩, ⟨_, rfl⟩, ⟨_, rfl⟩, ⟨_, rfl⟩, trivial⟩⟩ rfl
            case o9x3 =>
              intro L ptrs x hx hL _ hs _
              have h15 : L 15 = false := hs 15 (by kernel_rfl)
              have HO : OW kC 33 x B ao cap (mvl zC l m t) := by have hx2 := hx.2; rw [h15] at hx2; exact hx2
              exact opX_val (v := .agg (cdA ((mvl zC l m t).getD (m - t - 1) zC))) rfl (run_ldKC (HO.re) _ rfl (m - t - 1) rfl (by rw [mvl_len]; omega)) ⟨hx, StM.vals [0, 1, 2, 3, 4, 5, 6, 7, 8, 9, 10, 11, 12, 13, 14, 15] (by kernel_rfl) ⟨⟨_, rfl⟩, ⟨_, rfl⟩, ⟨_, rfl⟩, ⟨_, rfl⟩, ⟨_, rfl⟩, ⟨_, rfl⟩, ⟨_, rfl⟩, ⟨_, rfl⟩, ⟨_, rfl⟩, ⟨_, rfl⟩, ⟨_, rfl⟩, ⟨_, rfl⟩, ⟨_, rfl⟩, ⟨_, rfl⟩, ⟨_, rfl⟩, ⟨_, rfl⟩, trivial⟩⟩ rfl
            case o10x3 => exact fun L ptrs x hx _ _ _ _ => opX_val (v := .slice ao l.length cap) rfl (rfl) ⟨hx, StM.vals [0, 1, 2, 3, 4, 5, 6, 7, 8, 9, 10, 11, 12, 13, 14, 15] (by kernel_rfl) ⟨⟨_, rfl⟩, ⟨_, rfl⟩, ⟨_, rfl⟩, ⟨_, rfl⟩, ⟨_, rfl⟩, ⟨_, rfl⟩, ⟨_, rfl⟩, ⟨_, rfl⟩, ⟨_, rfl⟩, ⟨_, rfl⟩, ⟨_, rfl⟩, ⟨_, rfl⟩, ⟨_, rfl⟩, ⟨_, rfl⟩, ⟨_, rfl⟩, ⟨_, rfl⟩, trivial⟩⟩ rfl
            case o11x3 => exact fun L ptrs x hx _ _ _ _ => opX_val (v := .int .i64 ((m - t : Nat) : Int)) rfl (rfl) ⟨hx, StM.vals [0, 1, 2, 3, 4, 5, 6, 7, 8, 9, 10, 11, 12, 13, 14, 15] (by kernel_rfl) ⟨⟨_, rfl⟩, ⟨_, rfl⟩, ⟨_, rfl⟩, ⟨_, rfl⟩, ⟨_, rfl⟩, ⟨_, rfl⟩, ⟨_, rfl⟩, ⟨_, rfl⟩, ⟨_, rfl⟩, ⟨_, rfl⟩, ⟨_, rfl⟩, ⟨_, rfl⟩, ⟨_, rfl⟩, ⟨_, rfl⟩, ⟨_, rfl⟩, ⟨_, rfl⟩, trivial⟩⟩ rfl
            case o12x3 =>
              intro L ptrs x hx hL _ hs _
              have h15 : L 15 = false := hs 15 (by kernel_rfl)
              have HO : OW kC 33 x B ao cap (mvl zC l m t) := by have hx2 := hx.2; rw [h15] at hx2; exact hx2
              exact opX_val (v := .pointer (pK kC ao (m - t) 0)) rfl (run_ixK rC (HO.re) _ _ rfl (by rw [mvl_len]; rfl) (m - t) rfl (by rw [mvl_len]; omega)) ⟨hx, StM.vals [0, 1, 2, 3, 4, 5, 6, 7, 8, 9, 10, 11, 12, 13, 14, 15] (by kernel_rfl) ⟨⟨_, rfl⟩, ⟨_, rfl⟩, ⟨_, rfl⟩, ⟨_, rfl⟩, ⟨_, rfl⟩, ⟨_, rfl⟩, ⟨_, rfl⟩, ⟨_, rfl⟩, ⟨_, rfl⟩, ⟨_, rfl⟩, ⟨_, rfl⟩, ⟨_, rfl⟩, ⟨_, rfl⟩, ⟨_, rfl⟩, ⟨_, rfl⟩, ⟨_, rfl⟩, trivial⟩⟩ rfl
            case o13x3 =>
              intro L ptrs x hx hL _ hs _
              have h15 : L 15 = false := hs 15 (by kernel_rfl)
              have HO : OW kC 33 x B ao cap (mvl zC l m t) := by have hx2 := hx.2; rw [h15] at hx2; exact hx2
              exact opX_val (v := .agg (cdA ((mvl zC l m t).getD (m - t) zC))) rfl (run_ldKC (HO.re) _ rfl (m - t) rfl (by rw [mvl_len]; omega)) ⟨hx, StM.vals [0, 1, 2, 3, 4, 5, 6, 7, 8, 9, 10, 11, 12, 13, 14, 15] (by kernel_rfl) ⟨⟨_, rfl⟩, ⟨_, rfl⟩, ⟨_, rfl⟩, ⟨_, rfl⟩, ⟨_, rfl⟩, ⟨_, rfl⟩, ⟨_, rfl⟩, ⟨_, rfl⟩, ⟨_, rfl⟩, ⟨_, rfl⟩, ⟨_, rfl⟩, ⟨_, rfl⟩, ⟨_, rfl⟩, ⟨_, rfl⟩, ⟨_, rfl⟩, ⟨_, rfl⟩, trivial⟩⟩ rfl
            case o14x3 =>
              intro L ptrs x hx hL _ hs _
              have h15 : L 15 = false := hs 15 (by kernel_rfl)
              have HO : OW kC 33 x B ao cap (mvl zC l m t) := by have hx2 := hx.2; rw [h15] at hx2; exact hx2
              exact opX_val (v := .pointer (pK kC ao (m - t) 0)) rfl (run_ixK rC (HO.re) _ _ rfl (by rw [mvl_len]; rfl) (m - t) rfl (by rw [mvl_len]; omega)) ⟨hx, StM.vals [0, 1, 2, 3, 4, 5, 6, 7, 8, 9, 10, 11, 12, 13, 14, 15] (by kernel_rfl) ⟨⟨_, rfl⟩, ⟨_, rfl⟩, ⟨_, rfl⟩, ⟨_, rfl⟩, ⟨_, rfl⟩, ⟨_, rfl⟩, ⟨_, rfl⟩, ⟨_, rfl⟩, ⟨_, rfl⟩, ⟨_, rfl⟩, ⟨_, rfl⟩, ⟨_, rfl⟩, ⟨_, rfl⟩, ⟨_, rfl⟩, ⟨_, rfl⟩, ⟨_, rfl⟩, trivial⟩⟩ rfl
            case o15x3 =>
              intro L ptrs x hx hL _ hs _
              have h15 : L 15 = false := hL
              have HO : OW kC 33 x B ao cap (mvl zC l m t) := by have hx2 := hx.2; rw [h15] at hx2; exact hx2
              refine opX_stK _ rfl 33 _ _ rfl HO (m - t) 0 (by rw [mvl_len]; omega) rfl (.agg (cdA ((mvl zC l m t).getD (m - t - 1) zC))) rfl (cdL ((mvl zC l m t).getD (m - t - 1) zC)) rfl (siCl _) (by rw [cdL_len]; decide) (by rw [cdL_len]; decide) (cdL_one _) ((mvl zC l m t).getD (m - t - 1) zC) (spl_cd _ _) (atC HO.re (by rw [mvl_len]; omega)) ?_
              intro y HO2 G2
              exact ⟨⟨⟨hx.1.trans G2, HO2⟩, StM.vals [0, 1, 2, 3, 4, 5, 6, 7, 8, 9, 10, 11, 12, 13, 14, 15] (by kernel_rfl) ⟨⟨_, rfl⟩, ⟨_, rfl⟩, ⟨_, rfl⟩, ⟨_, rfl⟩, ⟨_, rfl⟩, ⟨_, rfl⟩, ⟨_, rfl⟩, ⟨_, rfl⟩, ⟨_, rfl⟩, ⟨_, rfl⟩, ⟨_, rfl⟩, ⟨_, rfl⟩, ⟨_, rfl⟩, ⟨_, rfl⟩, ⟨_, rfl⟩, ⟨_, rfl⟩, trivial⟩⟩, rfl⟩
            intro ptrs w1 HJ _
            simp only [List.drop_succ_cons, List.drop_zero]
            replace CK := CK.gros HJ.1 HO.own
            replace GG := GG.trans HJ.1
            have xO := atC HO.re (j := m - t) (by rw [mvl_len]; omega)
            clear HO
            have HO : OW kC 33 w1 B ao cap ((mvl zC l m t).set (m - t) ((mvl zC l m t).getD (m - t - 1) zC)) := HJ.2
            clear HJ
            refine s_val 128 rfl rfl (.pointer (pK kC ao (m - t - 1) 0)) (run_ixK rC HO.re _ _ rfl (by rw [List.length_set, mvl_len]; rfl) (m - t - 1) rfl (by rw [List.length_set, mvl_len]; omega)) ?_
            refine nr ?_; intro U h; simp only [z0, z1] at h; subst h
            refine s_stK rfl rfl 33 _ _ rfl HO (m - t - 1) 0 (by rw [List.length_set, mvl_len]; omega) rfl (.agg (cdA ((mvl zC l m t).getD (m - t) zC))) rfl (cdL ((mvl zC l m t).getD (m - t) zC)) rfl (siCl _) (by rw [cdL_len]; decide) (by rw [cdL_len]; decide) (cdL_one _) ((mvl zC l m t).getD (m - t) zC) (spl_cd _ _) xO ?_
            intro w2 HO2 G2
            replace CK := CK.gros G2 HO.own
            replace GG := GG.trans G2
            clear G2 HO xO
            have HO : OW kC 33 w2 B ao cap (swp zC (mvl zC l m t) (m - t) (m - t - 1)) := HO2
            clear HO2
            refine wpList_nil ?_
            refine blk_n ?_
            refine then_n ?_
            refine wp_region_lit ?_
            refine s_val 111 rfl rfl (.int .i64 ((m - t : Nat) : Int)) (rfl) ?_
            refine nr ?_; intro U h; simp only [z0, z1] at h; subst h
            refine s_val 112 rfl rfl (.int .i64 ((m - (t + 1) : Nat) : Int)) (run_subI 3 _ _ _ rfl ((m - t : Nat) : Int) 1 ((m - (t + 1) : Nat) : Int) rfl rfl (by omega) (by omega) (by omega) _) ?_
            refine nr ?_; intro U h; simp only [z0, z1] at h; subst h
            refine s_val 17 rfl rfl (.int .i64 ((m - (t + 1) : Nat) : Int)) (rfl) ?_
            refine nr ?_; intro U h; simp only [z0, z1] at h; subst h
            refine wpList_nil ?_
            refine then_n ?_
            exact ⟨m + 1 - (t + 1), by omega, t + 1, (fun kz => ([.int .i64 ((m - t : Nat) : Int), .int .i64 ((i : Nat) : Int), .bool true, .int .i64 ((m - t : Nat) : Int), .int .i64 ((m - (t + 1) : Nat) : Int), .slice ao l.length cap, .int .i64 ((m - t : Nat) : Int), .slice ao l.length cap, .int .i64 ((m - t : Nat) : Int), .int .i64 ((m - t - 1 : Nat) : Int), .slice ao l.length cap, .int .i64 ((m - t : Nat) : Int), .int .i64 ((m - t - 1 : Nat) : Int), .pointer (pK kC ao (m - t - 1) 0), .agg (cdA ((mvl zC l m t).getD (m - t - 1) zC)), .slice ao l.length cap, .int .i64 ((m - t : Nat) : Int), .pointer (pK kC ao (m - t) 0), .agg (cdA ((mvl zC l m t).getD (m - t) zC)), .pointer (pK kC ao (m - t) 0), .pointer (pK kC ao (m - t - 1) 0)] : List Value).getD kz undef), rfl, rfl, by omega, GG, HO, CK⟩
        · have hil : i < j := by have := of_decide_eq_true hij1; omega
          obtain ⟨h, hh⟩ : ∃ h, (i + j) / 2 ^ 1 = h := ⟨_, rfl⟩
          have hh2 : (i + j) / 2 = h := hh
          refine s_val 85 rfl rfl (.bool true) (run_lssT 3 _ _ _ rfl ((i : Nat) : Int) ((j : Nat) : Int) rfl rfl true hij1 _) ?_
          refine nr ?_; intro U h; simp only [z0, z1] at h; subst h
          refine wpList_nil ?_
          refine then_n ?_
          refine wp_cond_true rfl ?_
          refine wp_skip ?_
          refine then_n ?_
          refine wp_block ?_
          refine wp_seq ?_
          refine wp_region_lit ?_
          refine s_val 86 rfl rfl (.int .i64 ((i : Nat) : Int)) (rfl) ?_
          refine nr ?_; intro U h; simp only [z0, z1] at h; subst h
          refine s_val 87 rfl rfl (.int .i64 ((j : Nat) : Int)) (rfl) ?_
          refine nr ?_; intro U h; simp only [z0, z1] at h; subst h
          refine s_val 88 rfl rfl (.int .i64 ((i + j : Nat) : Int)) (run_addI 3 _ _ _ rfl ((i : Nat) : Int) ((j : Nat) : Int) ((i + j : Nat) : Int) rfl rfl (by omega) (by omega) (by omega) _) ?_
          refine nr ?_; intro U h; simp only [z0, z1] at h; subst h
          refine s_val 89 rfl rfl (.int .u64 ((i + j : Nat) : Int)) (cv3u _ rfl (i + j) (by omega) rfl _) ?_
          refine nr ?_; intro U h; simp only [z0, z1] at h; subst h
          refine s_val 90 rfl rfl (.int .u64 ((h : Nat) : Int)) (run_shr64 77 77 _ _ rfl (i + j) 1 .u64 rfl rfl (by decide) h hh _) ?_
          refine nr ?_; intro U h; simp only [z0, z1] at h; subst h
          refine s_val 91 rfl rfl (.int .i64 ((h : Nat) : Int)) (cvu3 _ rfl h (by omega) rfl _) ?_
          refine nr ?_; intro U h; simp only [z0, z1] at h; subst h
          refine s_val 16 rfl rfl (.int .i64 ((h : Nat) : Int)) (rfl) ?_
          refine nr ?_; intro U h; simp only [z0, z1] at h; subst h
          refine wpList_nil ?_
          refine then_n ?_
          refine wp_seq ?_
          cases hc : decide (ltC (l.getD m zC) (l.getD h zC) = true)
          · refine wp_region_exA (A := ?Ax4) 9 [(0, 92), (1, 93), (2, 94), (3, 95), (4, 96), (5, 97), (6, 98), (7, 99), (8, 100)] [.val (.func (.func 40) #[] #[.pointer (some ⟨c, 0, none⟩)]), .val (.slice ao l.length cap), .val (.int .i64 ((m : Nat) : Int)), .val (.pointer (pK kC ao m 0)), .val (.agg (cdA (l.getD m zC))), .val (.slice ao l.length cap), .val (.int .i64 ((h : Nat) : Int)), .val (.pointer (pK kC ao h 0)), .val (.agg (cdA (l.getD h zC)))] follows (by kernel_rfl) rfl ?hAx4 (opsA_cons ?o0x4 (opsA_cons ?o1x4 (opsA_cons ?o2x4 (opsA_cons ?o3x4 (opsA_cons ?o4x4 (opsA_cons ?o5x4 (opsA_cons ?o6x4 (opsA_cons ?o7x4 (opsA_cons ?o8x4 opsA_nil))))))))) ?restx4
            case hAx4 =>
              intro ptrs
              simp only [full, foldSlots, filledE, postE, List.foldl_cons, List.foldl_nil, List.getD_cons_zero, List.getD_cons_succ, fill_val, List.set_cons_zero, List.set_cons_succ]
              exact rfl
            case o0x4 => exact fun _ _ _ _ => opE_move (v := .func (.func 40) #[] #[.pointer (some ⟨c, 0, none⟩)]) _ rfl rfl rfl
            case o1x4 => exact fun _ _ _ _ => opE_move (v := .slice ao l.length cap) _ rfl rfl rfl
            case o2x4 => exact fun _ _ _ _ => opE_move (v := .int .i64 ((m : Nat) : Int)) _ rfl rfl rfl
            case o3x4 => exact fun _ _ hw _ => opE_value (v := .pointer (pK kC ao m 0)) rfl (run_ixK rC ((HO.gro ((Gro.refl _).drew.trans hw)).re) _ _ rfl rfl m rfl (by omega))
            case o4x4 => exact fun _ _ hw _ => opE_value (v := .agg (cdA (l.getD m zC))) rfl (run_ldKC ((HO.gro ((Gro.refl _).drew.trans hw)).re) _ rfl m rfl (by omega))
            case o5x4 => exact fun _ _ _ _ => opE_move (v := .slice ao l.length cap) _ rfl rfl rfl
            case o6x4 => exact fun _ _ _ _ => opE_move (v := .int .i64 ((h : Nat) : Int)) _ rfl rfl rfl
            case o7x4 => exact fun _ _ hw _ => opE_value (v := .pointer (pK kC ao h 0)) rfl (run_ixK rC ((HO.gro ((Gro.refl _).drew.trans hw)).re) _ _ rfl rfl h rfl (by omega))
            case o8x4 => exact fun _ _ hw _ => opE_value (v := .agg (cdA (l.getD h zC))) rfl (run_ldKC ((HO.gro ((Gro.refl _).drew.trans hw)).re) _ rfl h rfl (by omega))
            intro ptrs w1 GD hxE
            simp only [List.drop_succ_cons, List.drop_zero]
            replace HO := HO.gro ((Gro.refl _).drew.trans GD)
            replace CK := CK.gro ((Gro.refl _).drew.trans GD)
            replace GG := GG.drew.tg GD
            clear GD
            refine s_callF 101 rfl rfl _ 40 #[.pointer (some ⟨c, 0, none⟩)] Try.call40 rfl _ rfl rfl _ rfl [.agg (cdA (l.getD m zC)), .agg (cdA (l.getD h zC))] rfl (cmp40_any (l.getD m zC) (l.getD h zC) (atC HO.re (by omega)) (atC HO.re (by omega)) c _ (CK)) ?_
            intro w2 G
            replace HO := HO.gro G
            replace CK := CK.gro G
            replace GG := GG.tg G
            clear G
            refine nr ?_; intro U h; simp only [z0, z1] at h; subst h
            refine s_val 102 rfl rfl (.bool false) (run_lssT 3 _ _ _ rfl (cmpC (l.getD m zC) (l.getD h zC)) 0 rfl rfl false ((cmpC_neg _ _).trans ((dec_b _).trans hc)) _) ?_
            refine nr ?_; intro U h; simp only [z0, z1] at h; subst h
            refine s_val 103 rfl rfl (.bool true) (run_nt _ _ rfl false rfl) ?_
            refine nr ?_; intro U h; simp only [z0, z1] at h; subst h
            refine wpList_nil ?_
            refine then_n ?_
            refine wp_cond_true rfl ?_
            refine wp_region_lit ?_
            refine s_val 104 rfl rfl (.int .i64 ((h : Nat) : Int)) (rfl) ?_
            refine nr ?_; intro U h; simp only [z0, z1] at h; subst h
            refine s_val 105 rfl rfl (.int .i64 ((h + 1 : Nat) : Int)) (run_addI 3 _ _ _ rfl ((h : Nat) : Int) 1 ((h + 1 : Nat) : Int) rfl rfl (by omega) (by omega) (by omega) _) ?_
            refine nr ?_; intro U h; simp only [z0, z1] at h; subst h
            refine s_val 14 rfl rfl (.int .i64 ((h + 1 : Nat) : Int)) (rfl) ?_
            refine nr ?_; intro U h; simp only [z0, z1] at h; subst h
            refine wpList_nil ?_
            refine blk_n ?_
            refine then_n ?_
            exact ⟨j - (h + 1), by omega, h + 1, j, (fun kz => ([.int .i64 ((h : Nat) : Int), .int .i64 ((i : Nat) : Int), .int .i64 ((j : Nat) : Int), .bool true, .int .i64 ((i : Nat) : Int), .int .i64 ((j : Nat) : Int), .int .i64 ((i + j : Nat) : Int), .int .u64 ((i + j : Nat) : Int), .int .u64 ((h : Nat) : Int), .int .i64 ((h : Nat) : Int), .func (.func 40) #[] #[.pointer (some ⟨c, 0, none⟩)], .slice ao l.length cap, .int .i64 ((m : Nat) : Int), .pointer (pK kC ao m 0), .agg (cdA (l.getD m zC)), .slice ao l.length cap, .int .i64 ((h : Nat) : Int), .pointer (pK kC ao h 0), .agg (cdA (l.getD h zC)), .int .i64 (cmpC (l.getD m zC) (l.getD h zC)), .bool false, .bool true, .int .i64 ((h : Nat) : Int), .int .i64 ((h + 1 : Nat) : Int), us1 24] : List Value).getD kz undef), rfl, rfl, by omega, by omega, by omega, .inr (Bool.eq_false_iff.2 (of_decide_eq_false hc)), c2, GG, HO, CK⟩
          · refine wp_region_exA (A := ?Ax5) 9 [(0, 92), (1, 93), (2, 94), (3, 95), (4, 96), (5, 97), (6, 98), (7, 99), (8, 100)] [.val (.func (.func 40) #[] #[.pointer (some ⟨c, 0, none⟩)]), .val (.slice ao l.length cap), .val (.int .i64 ((m : Nat) : Int)), .val (.pointer (pK kC ao m 0)), .val (.agg (cdA (l.getD m zC))), .val (.slice ao l.length cap), .val (.int .i64 ((h : Nat) : Int)), .val (.pointer (pK kC ao h 0)), .val (.agg (cdA (l.getD h zC)))] follows (by kernel_rfl) rfl ?hAx5 (opsA_cons ?o0x5 (opsA_cons ?o1x5 (opsA_cons ?o2x5 (opsA_cons ?o3x5 (opsA_cons ?o4x5 (opsA_cons ?o5x5 (opsA_cons ?o6x5 (opsA_cons ?o7x5 (opsA_cons ?o8x5 opsA_nil))))))))) ?restx5
            case hAx5 =>
              intro ptrs
              simp only [full, foldSlots, filledE, postE, List.foldl_cons, List.foldl_nil, List.getD_cons_zero, List.getD_cons_succ, fill_val, List.set_cons_zero, List.set_cons_succ]
              exact rfl
            case o0x5 => exact fun _ _ _ _ => opE_move (v := .func (.func 40) #[] #[.pointer (some ⟨c, 0, none⟩)]) _ rfl rfl rfl
            case o1x5 => exact fun _ _ _ _ => opE_move (v := .slice ao l.length cap) _ rfl rfl rfl
            case o2x5 => exact fun _ _ _ _ => opE_move (v := .int .i64 ((m : Nat) : Int)) _ rfl rfl rfl
            case o3x5 => exact fun _ _ hw _ => opE_value (v := .pointer (pK kC ao m 0)) rfl (run_ixK rC ((HO.gro ((Gro.refl _).drew.trans hw)).re) _ _ rfl rfl m rfl (by omega))
            case o4x5 => exact fun _ _ hw _ => opE_value (v := .agg (cdA (l.getD m zC))) rfl (run_ldKC ((HO.gro ((Gro.refl _).drew.trans hw)).re) _ rfl m rfl (by omega))
            case o5x5 => exact fun _ _ _ _ => opE_move (v := .slice ao l.length cap) _ rfl rfl rfl
            case o6x5 => exact fun _ _ _ _ => opE_move (v := .int .i64 ((h : Nat) : Int)) _ rfl rfl rfl
            case o7x5 => exact fun _ _ hw _ => opE_value (v := .pointer (pK kC ao h 0)) rfl (run_ixK rC ((HO.gro ((Gro.refl _).drew.trans hw)).re) _ _ rfl rfl h rfl (by omega))
            case o8x5 => exact fun _ _ hw _ => opE_value (v := .agg (cdA (l.getD h zC))) rfl (run_ldKC ((HO.gro ((Gro.refl _).drew.trans hw)).re) _ rfl h rfl (by omega))
            intro ptrs w1 GD hxE
            simp only [List.drop_succ_cons, List.drop_zero]
            replace HO := HO.gro ((Gro.refl _).drew.trans GD)
            replace CK := CK.gro ((Gro.refl _).drew.trans GD)
            replace GG := GG.drew.tg GD
            clear GD
            refine s_callF 101 rfl rfl _ 40 #[.pointer (some ⟨c, 0, none⟩)] Try.call40 rfl _ rfl rfl _ rfl [.agg (cdA (l.getD m zC)), .agg (cdA (l.getD h zC))] rfl (cmp40_any (l.getD m zC) (l.getD h zC) (atC HO.re (by omega)) (atC HO.re (by omega)) c _ (CK)) ?_
            intro w2 G
            replace HO := HO.gro G
            replace CK := CK.gro G
            replace GG := GG.tg G
            clear G
            refine nr ?_; intro U h; simp only [z0, z1] at h; subst h
            refine s_val 102 rfl rfl (.bool true) (run_lssT 3 _ _ _ rfl (cmpC (l.getD m zC) (l.getD h zC)) 0 rfl rfl true ((cmpC_neg _ _).trans ((dec_b _).trans hc)) _) ?_
            refine nr ?_; intro U h; simp only [z0, z1] at h; subst h
            refine s_val 103 rfl rfl (.bool false) (run_nt _ _ rfl true rfl) ?_
            refine nr ?_; intro U h; simp only [z0, z1] at h; subst h
            refine wpList_nil ?_
            refine then_n ?_
            refine wp_cond_false rfl ?_
            refine wp_region_lit ?_
            refine s_val 106 rfl rfl (.int .i64 ((h : Nat) : Int)) (rfl) ?_
            refine nr ?_; intro U h; simp only [z0, z1] at h; subst h
            refine s_val 15 rfl rfl (.int .i64 ((h : Nat) : Int)) (rfl) ?_
            refine nr ?_; intro U h; simp only [z0, z1] at h; subst h
            refine wpList_nil ?_
            refine blk_n ?_
            refine then_n ?_
            exact ⟨h - i, by omega, i, h, (fun kz => ([.int .i64 ((h : Nat) : Int), .int .i64 ((i : Nat) : Int), .int .i64 ((j : Nat) : Int), .bool true, .int .i64 ((i : Nat) : Int), .int .i64 ((j : Nat) : Int), .int .i64 ((i + j : Nat) : Int), .int .u64 ((i + j : Nat) : Int), .int .u64 ((h : Nat) : Int), .int .i64 ((h : Nat) : Int), .func (.func 40) #[] #[.pointer (some ⟨c, 0, none⟩)], .slice ao l.length cap, .int .i64 ((m : Nat) : Int), .pointer (pK kC ao m 0), .agg (cdA (l.getD m zC)), .slice ao l.length cap, .int .i64 ((h : Nat) : Int), .pointer (pK kC ao h 0), .agg (cdA (l.getD h zC)), .int .i64 (cmpC (l.getD m zC) (l.getD h zC)), .bool true, .bool false, us1 22, us1 23, .int .i64 ((h : Nat) : Int)] : List Value).getD kz undef), rfl, rfl, by omega, by omega, by omega, c1, .inr (of_decide_eq_true hc), GG, HO, CK⟩
    · have h1e : m = a + 1 := by have := of_decide_eq_true h1; omega
      refine s_val 28 rfl rfl (.bool true) (run_eq_k 3 .i64 _ _ _ rfl Try.underlying3 ((m - a : Nat) : Int) 1 rfl rfl true h1 _) ?_
      refine nr ?_; intro U h; simp only [z0, z1] at h; subst h
      refine wpList_nil ?_
      refine then_n ?_
      refine wp_cond_true rfl ?_
      refine wp_seq ?_
      refine wp_region_lit ?_
      refine s_val 29 rfl rfl (.int .i64 ((m : Nat) : Int)) (rfl) ?_
      refine nr ?_; intro U h; simp only [z0, z1] at h; subst h
      refine s_val 10 rfl rfl (.int .i64 ((m : Nat) : Int)) (rfl) ?_
      refine nr ?_; intro U h; simp only [z0, z1] at h; subst h
      refine wpList_nil ?_
      refine then_n ?_
      refine wp_seq ?_
      refine wp_region_lit ?_
      refine s_val 30 rfl rfl (.int .i64 ((b : Nat) : Int)) (rfl) ?_
      refine nr ?_; intro U h; simp only [z0, z1] at h; subst h
      refine s_val 11 rfl rfl (.int .i64 ((b : Nat) : Int)) (rfl) ?_
      refine nr ?_; intro U h; simp only [z0, z1] at h; subst h
      refine wpList_nil ?_
      refine then_n ?_
      refine wp_seq ?_
      refine wp_block ?_
      refine wp_loopN (fun mz az wv => ∃ (i : Nat) (j : Nat) (us1 : Nat → Value), mz = j - i ∧ az = ⟨[.slice ao l.length cap, .int .i64 ((a : Nat) : Int), .int .i64 ((m : Nat) : Int), .int .i64 ((b : Nat) : Int), .func (.func 40) #[] #[.pointer (some ⟨c, 0, none⟩)], undef, undef, undef, undef, undef, .int .i64 ((i : Nat) : Int), .int .i64 ((j : Nat) : Int), us1 0, undef, undef, undef, undef, undef, undef, undef, undef, undef, undef, undef, undef, .int .i64 ((m : Nat) : Int), .int .i64 ((a : Nat) : Int), .int .i64 ((m - a : Nat) : Int), .bool true, .int .i64 ((m : Nat) : Int), .int .i64 ((b : Nat) : Int), us1 1, us1 2, us1 3, us1 4, us1 5, us1 6, us1 7, us1 8, us1 9, us1 10, us1 11, us1 12, us1 13, us1 14, us1 15, us1 16, us1 17, us1 18, us1 19, us1 20, us1 21, us1 22, us1 23, undef, undef, undef, undef, undef, undef, undef, undef, undef, undef, undef, undef, undef, undef, undef, undef, undef, undef, undef, undef, undef, undef, undef, undef, undef, undef, undef, undef, undef, undef, undef, undef, undef, undef, undef, undef, undef, undef, undef, undef, undef, undef, undef, undef, undef, undef, undef, undef, undef, undef, undef, undef, undef, undef, undef, undef, undef, undef, undef, undef, undef, undef, undef, undef, undef, undef, undef, undef, undef, undef, undef, undef, undef, undef, undef, undef, undef, undef, undef, undef, undef, undef, undef, undef, undef, undef, undef, undef, undef, undef, undef, undef, undef, undef, undef, undef, undef, undef, undef, undef, undef, undef, undef, undef, undef, undef, undef, undef, undef, undef, undef, undef, undef, undef, undef, undef, undef, undef, undef, undef, undef, undef, undef, undef, undef, undef, undef, undef, undef, undef, undef, undef, undef, undef, undef, undef, undef, undef, undef, undef, undef, undef, undef, undef, undef, undef, undef, undef, undef, undef, undef, undef, undef, undef, undef, undef, undef, undef, undef, undef, undef, undef, undef, undef, undef, undef].toArray, []⟩ ∧ m ≤ i ∧ i ≤ j ∧ j ≤ b ∧ (i = m ∨ ltC (l.getD (i - 1) zC) (l.getD a zC) = true) ∧ (j = b ∨ ltC (l.getD j zC) (l.getD a zC) = false) ∧ GroS (Go.Proofs.Ytfabgonoonanfaa.blk ao) w wv ∧ OW kC 33 wv B ao cap l ∧ CloC wv c) ?_ _ ⟨m, b, (fun kz => ([undef, undef, undef, undef, undef, undef, undef, undef, undef, undef, undef, undef, undef, undef, undef, undef, undef, undef, undef, undef, undef, undef, undef, undef] : List Value).getD kz undef), rfl, rfl, Nat.le_refl _, by omega, Nat.le_refl _, .inl rfl, .inl rfl, GG, HO, CK⟩
      clear GG HO CK
      rintro mz az wv ⟨i, j, us1, rfl, rfl, hi, hij, hj, c1, c2, GG, HO, CK⟩
      refine wp_seq ?_
      refine wp_seq ?_
      refine wp_region_lit ?_
      refine s_val 31 rfl rfl (.int .i64 ((i : Nat) : Int)) (rfl) ?_
      refine nr ?_; intro U h; simp only [z0, z1] at h; subst h
      refine s_val 32 rfl rfl (.int .i64 ((j : Nat) : Int)) (rfl) ?_
      refine nr ?_; intro U h; simp only [z0, z1] at h; subst h
      cases hij1 : decide (((i : Nat) : Int) < ((j : Nat) : Int))
      · have hie : i = j := by have := of_decide_eq_false hij1; omega
        refine s_val 33 rfl rfl (.bool false) (run_lssT 3 _ _ _ rfl ((i : Nat) : Int) ((j : Nat) : Int) rfl rfl false hij1 _) ?_
        refine nr ?_; intro U h; simp only [z0, z1] at h; subst h
        refine wpList_nil ?_
        refine then_n ?_
        refine wp_cond_false rfl ?_
        refine wp_exit ?_
        refine then_x ?_
        refine then_x ?_
        refine blk_x ?_
        refine then_n ?_
        refine wp_seq ?_
        refine wp_seq ?_
        refine wp_region_lit ?_
        refine s_val 54 rfl rfl (.int .i64 ((a : Nat) : Int)) (rfl) ?_
        refine nr ?_; intro U h; simp only [z0, z1] at h; subst h
        refine s_val 13 rfl rfl (.int .i64 ((a : Nat) : Int)) (rfl) ?_
        refine nr ?_; intro U h; simp only [z0, z1] at h; subst h
        refine wpList_nil ?_
        refine then_n ?_
        refine wp_block ?_
        refine wp_loopN (fun mz az wv => ∃ (t : Nat) (us2 : Nat → Value), mz = i + 1 - t ∧ az = ⟨[.slice ao l.length cap, .int .i64 ((a : Nat) : Int), .int .i64 ((m : Nat) : Int), .int .i64 ((b : Nat) : Int), .func (.func 40) #[] #[.pointer (some ⟨c, 0, none⟩)], undef, undef, undef, undef, undef, .int .i64 ((i : Nat) : Int), .int .i64 ((j : Nat) : Int), us1 0, .int .i64 ((a + t : Nat) : Int), undef, undef, undef, undef, undef, undef, undef, undef, undef, undef, undef, .int .i64 ((m : Nat) : Int), .int .i64 ((a : Nat) : Int), .int .i64 ((m - a : Nat) : Int), .bool true, .int .i64 ((m : Nat) : Int), .int .i64 ((b : Nat) : Int), .int .i64 ((i : Nat) : Int), .int .i64 ((j : Nat) : Int), .bool false, us1 4, us1 5, us1 6, us1 7, us1 8, us1 9, us1 10, us1 11, us1 12, us1 13, us1 14, us1 15, us1 16, us1 17, us1 18, us1 19, us1 20, us1 21, us1 22, us1 23, .int .i64 ((a : Nat) : Int), us2 0, us2 1, us2 2, us2 3, us2 4, us2 5, us2 6, us2 7, us2 8, us2 9, us2 10, us2 11, us2 12, us2 13, us2 14, us2 15, us2 16, us2 17, us2 18, us2 19, us2 20, us2 21, undef, undef, undef, undef, undef, undef, undef, undef, undef, undef, undef, undef, undef, undef, undef, undef, undef, undef, undef, undef, undef, undef, undef, undef, undef, undef, undef, undef, undef, undef, undef, undef, undef, undef, undef, undef, undef, undef, undef, undef, undef, undef, undef, undef, undef, undef, undef, undef, undef, undef, undef, undef, undef, undef, undef, undef, undef, undef, undef, undef, undef, undef, undef, undef, undef, undef, undef, undef, undef, undef, undef, undef, undef, undef, undef, undef, undef, undef, undef, undef, undef, undef, undef, undef, undef, undef, undef, undef, undef, undef, undef, undef, undef, undef, undef, undef, undef, undef, undef, undef, undef, undef, undef, undef, undef, undef, undef, undef, undef, undef, undef, undef, undef, undef, undef, undef, undef, undef, undef, undef, undef, undef, undef, undef, undef, undef, undef, undef, undef, undef, undef, undef, undef, undef, undef, undef, undef, undef, undef, undef, undef, undef, undef].toArray, []⟩ ∧ t ≤ i - 1 - a ∧ GroS (Go.Proofs.Ytfabgonoonanfaa.blk ao) w wv ∧ OW kC 33 wv B ao cap (mvr zC l a t) ∧ CloC wv c) ?_ _ ⟨0, (fun kz => ([undef, undef, undef, undef, undef, undef, undef, undef, undef, undef, undef, undef, undef, undef, undef, undef, undef, undef, undef, undef, undef, undef] : List Value).getD kz undef), rfl, rfl, Nat.zero_le _, GG, HO, CK⟩
        clear GG HO CK
        rintro mz az wv ⟨t, us2, rfl, rfl, ht, GG, HO, CK⟩
        refine wp_seq ?_
        refine wp_seq ?_
        refine wp_region_lit ?_
        refine s_val 55 rfl rfl (.int .i64 ((a + t : Nat) : Int)) (rfl) ?_
        refine nr ?_; intro U h; simp only [z0, z1] at h; subst h
        refine s_val 56 rfl rfl (.int .i64 ((i : Nat) : Int)) (rfl) ?_
        refine nr ?_; intro U h; simp only [z0, z1] at h; subst h
        refine s_val 57 rfl rfl (.int .i64 ((i - 1 : Nat) : Int)) (run_subI 3 _ _ _ rfl ((i : Nat) : Int) 1 ((i - 1 : Nat) : Int) rfl rfl (by omega) (by omega) (by omega) _) ?_
        refine nr ?_; intro U h; simp only [z0, z1] at h; subst h
        cases ht1 : decide (((a + t : Nat) : Int) < ((i - 1 : Nat) : Int))
        · have hte : t = i - 1 - a := by have := of_decide_eq_false ht1; omega
          refine s_val 58 rfl rfl (.bool false) (run_lssT 3 _ _ _ rfl ((a + t : Nat) : Int) ((i - 1 : Nat) : Int) rfl rfl false ht1 _) ?_
          refine nr ?_; intro U h; simp only [z0, z1] at h; subst h
          refine wpList_nil ?_
          refine then_n ?_
          refine wp_cond_false rfl ?_
          refine wp_exit ?_
          refine then_x ?_
          refine then_x ?_
          refine blk_x ?_
          refine then_n ?_
          refine wp_ret ?_
          refine then_r ?_
          refine bodyPost_ret (results_none Try.results51 _ _ _) rfl ?_
          subst h1e
          rw [hte, mgd_left zC sw_C (by omega) (by omega) hb sY c1 (by rw [hie]; exact c2)] at HO
          exact ⟨rfl, GG, HO⟩
        · have htl : a + t < i - 1 := by have := of_decide_eq_true ht1; omega
          refine s_val 58 rfl rfl (.bool true) (run_lssT 3 _ _ _ rfl ((a + t : Nat) : Int) ((i - 1 : Nat) : Int) rfl rfl true ht1 _) ?_
          refine nr ?_; intro U h; simp only [z0, z1] at h; subst h
          refine wpList_nil ?_
          refine then_n ?_
          refine wp_cond_true rfl ?_
          refine wp_skip ?_
          refine then_n ?_
          refine wp_seq ?_
          refine wp_block ?_
          refine wp_region_pm (A := ?Ax6) (fun L x => GroS (Go.Proofs.Ytfabgonoonanfaa.blk ao) wv x ∧ OW kC 33 x B ao cap (wrt (L 15) (mvr zC l a t) (a + t) ((mvr zC l a t).getD (a + t + 1) zC))) 16 [(0, 61), (1, 62), (2, 63), (3, 64), (4, 65), (5, 66), (6, 67), (7, 68), (8, 69), (9, 70), (10, 71), (11, 72), (12, 73), (13, 74), (14, 75)] [.val (.slice ao l.length cap), .val (.int .i64 ((a + t : Nat) : Int)), .val (.slice ao l.length cap), .val (.int .i64 ((a + t : Nat) : Int)), .val (.int .i64 ((a + t + 1 : Nat) : Int)), .val (.slice ao l.length cap), .val (.int .i64 ((a + t : Nat) : Int)), .val (.int .i64 ((a + t + 1 : Nat) : Int)), .val (.pointer (pK kC ao (a + t + 1) 0)), .val (.agg (cdA ((mvr zC l a t).getD (a + t + 1) zC))), .val (.slice ao l.length cap), .val (.int .i64 ((a + t : Nat) : Int)), .val (.pointer (pK kC ao (a + t) 0)), .val (.agg (cdA ((mvr zC l a t).getD (a + t) zC))), .val (.pointer (pK kC ao (a + t) 0)), .val undef] [] [] follows (by kernel_rfl) rfl (by kernel_rfl) (by decide) ⟨(GroS.refl _ _).drew, HO.gro (Gro.refl _).drew⟩ ?hAx6 (opsM_w ?o0x6 (opsM_w ?o1x6 (opsM_w ?o2x6 (opsM_w ?o3x6 (opsM_w ?o4x6 (opsM_w ?o5x6 (opsM_w ?o6x6 (opsM_w ?o7x6 (opsM_w ?o8x6 (opsM_w ?o9x6 (opsM_w ?o10x6 (opsM_w ?o11x6 (opsM_w ?o12x6 (opsM_w ?o13x6 (opsM_w ?o14x6 (opsM_w ?o15x6 opsM_nil)))))))))))))))) ?restx6
          case hAx6 =>
            intro ptrs
            simp only [full, foldSlots, filledE, postE, List.foldl_cons, List.foldl_nil, List.getD_cons_zero, List.getD_cons_succ, fill_val, List.set_cons_zero, List.set_cons_succ]
            exact rfl
          case o0x6 => exact fun L ptrs x hx _ _ _ _ => opX_val (v := .slice ao l.length cap) rfl (rfl) ⟨hx, StM.vals [0, 1, 2, 3, 4, 5, 6, 7, 8, 9, 10, 11, 12, 13, 14, 15] (by kernel_rfl) ⟨⟨_, rfl⟩, ⟨_, rfl⟩, ⟨_, rfl⟩, ⟨_, rfl⟩, ⟨_, rfl⟩, ⟨_, rfl⟩, ⟨_, rfl⟩, ⟨_, rfl⟩, ⟨_, rfl⟩, ⟨_, rfl⟩, ⟨_, rfl⟩, ⟨_, rfl⟩, ⟨_, rfl⟩, ⟨_, rfl⟩, ⟨_, rfl⟩, ⟨_, rfl⟩, trivial⟩⟩ rfl
          case o1x6 => exact fun L ptrs x hx _ _ _ _ => opX_val (v := .int .i64 ((a + t : Nat) : Int)) rfl (rfl) ⟨hx, StM.vals [0, 1, 2, 3, 4, 5, 6, 7, 8, 9, 10, 11, 12, 13, 14, 15] (by kernel_rfl) ⟨⟨_, rfl⟩, ⟨_, rfl⟩, ⟨_, rfl⟩, ⟨_, rfl⟩, ⟨_, rfl⟩, ⟨_, rfl⟩, ⟨_, rfl⟩, ⟨_, rfl⟩, ⟨_, rfl⟩, ⟨_, rfl⟩, ⟨_, rfl⟩, ⟨_, rfl⟩, ⟨_, rfl⟩, ⟨_, rfl⟩, ⟨_, rfl⟩, ⟨_, rfl⟩, trivial⟩⟩ rfl
          case o2x6 => exact fun L ptrs x hx _ _ _ _ => opX_val (v := .slice ao l.length cap) rfl (rfl) ⟨hx, StM.vals [0, 1, 2, 3, 4, 5, 6, 7, 8, 9, 10, 11, 12, 13, 14, 15] (by kernel_rfl) ⟨⟨_, rfl⟩, ⟨_, rfl⟩, ⟨_, rfl⟩, ⟨_, rfl⟩, ⟨_, rfl⟩, ⟨_, rfl⟩, ⟨_, rfl⟩, ⟨_, rfl⟩, ⟨_, rfl⟩, ⟨_, rfl⟩, ⟨_, rfl⟩, ⟨_, rfl⟩, ⟨_, rfl⟩, ⟨_, rfl⟩, ⟨_, rfl⟩, ⟨_, rfl⟩, trivial⟩⟩ rfl
          case o3x6 => exact fun L ptrs x hx _ _ _ _ => opX_val (v := .int .i64 ((a + t : Nat) : Int)) rfl (rfl) ⟨hx, StM.vals [0, 1, 2, 3, 4, 5, 6, 7, 8, 9, 10, 11, 12, 13, 14, 15] (by kernel_rfl) ⟨⟨_, rfl⟩, ⟨_, rfl⟩, ⟨_, rfl⟩, ⟨_, rfl⟩, ⟨_, rfl⟩, ⟨_, rfl⟩, ⟨_, rfl⟩, ⟨_, rfl⟩, ⟨_, rfl⟩, ⟨_, rfl⟩, ⟨_, rfl⟩, ⟨_, rfl⟩, ⟨_, rfl⟩, ⟨_, rfl⟩, ⟨_, rfl⟩, ⟨_, rfl⟩, trivial⟩⟩ rfl
          case o4x6 => exact fun L ptrs x hx _ _ _ _ => opX_val (v := .int .i64 ((a + t + 1 : Nat) : Int)) rfl (run_addI 3 _ _ _ rfl ((a + t : Nat) : Int) 1 ((a + t + 1 : Nat) : Int) rfl rfl (by omega) (by omega) (by omega) _) ⟨hx, StM.vals [0, 1, 2, 3, 4, 5, 6, 7, 8, 9, 10, 11, 12, 13, 14, 15] (by kernel_rfl) ⟨⟨_, rfl⟩, ⟨_, rfl⟩, ⟨_, rfl⟩, ⟨_, rfl⟩, ⟨_, rfl⟩, ⟨_, rfl⟩, ⟨_, rfl⟩, ⟨_, rfl⟩, ⟨_, rfl⟩, ⟨_, rfl⟩, ⟨_, rfl⟩, ⟨_, rfl⟩, ⟨_, rfl⟩, ⟨_, rfl⟩, ⟨_, rfl⟩, ⟨_, rfl⟩, trivial⟩⟩ rfl
          case o5x6 => exact fun L ptrs x hx _ _ _ _ => opX_val (v := .slice ao l.length cap) rfl (rfl) ⟨hx, StM.vals [0, 1, 2, 3, 4, 5, 6, 7, 8, 9, 10, 11, 12, 13, 14, 15] (by kernel_rfl) ⟨⟨_, rfl⟩, ⟨_, rfl⟩, ⟨_, rfl⟩, ⟨_, rfl⟩, ⟨_, rfl⟩, ⟨_, rfl⟩, ⟨_, rfl⟩, ⟨_, rfl⟩, ⟨_, rfl⟩, ⟨_, rfl⟩, ⟨_, rfl⟩, ⟨_, rfl⟩, ⟨_, rfl⟩, ⟨_, rfl⟩, ⟨_, rfl⟩, ⟨_, rfl⟩, trivial⟩⟩ rfl
          case o6x6 => exact fun L ptrs x hx _ _ _ _ => opX_val (v := .int .i64 ((a + t : Nat) : Int)) rfl (rfl) ⟨hx, StM.vals [0, 1, 2, 3, 4, 5, 6, 7, 8, 9, 10, 11, 12, 13, 14, 15] (by kernel_rfl) ⟨⟨_, rfl⟩, ⟨_, rfl⟩, ⟨_, rfl⟩, ⟨_, rfl⟩, ⟨_, rfl⟩, ⟨_, rfl⟩, ⟨_, rfl⟩, ⟨_, rfl⟩, ⟨_, rfl⟩, ⟨_, rfl⟩, ⟨_, rfl⟩, ⟨_, rfl⟩, ⟨_, rfl⟩, ⟨_, rfl⟩, ⟨_, rfl⟩, ⟨_, rfl⟩, trivial⟩⟩ rfl
          case o7x6 => exact fun L ptrs x hx _ _ _ _ => opX_val (v := .int .i64 ((a + t + 1 : Nat) : Int)) rfl (run_addI 3 _ _ _ rfl ((a + t : Nat) : Int) 1 ((a + t + 1 : Nat) : Int) rfl rfl (by omega) (by omega) (by omega) _) ⟨hx, StM.vals [0, 1, 2, 3, 4, 5, 6, 7, 8, 9, 10, 11, 12, 13, 14, 15] (by kernel_rfl) ⟨⟨_, rfl⟩, ⟨_, rfl⟩, ⟨_, rfl⟩, ⟨_, rfl⟩, ⟨_, rfl⟩, ⟨_, rfl⟩, ⟨_, rfl⟩, ⟨_, rfl⟩, ⟨_, rfl⟩, ⟨_, rfl⟩, ⟨_, rfl⟩, ⟨_, rfl⟩, ⟨_, rfl⟩, ⟨_, rfl⟩, ⟨_, rfl⟩, ⟨_, rfl⟩, trivial⟩⟩ rfl
          case o8x6 =>
            intro L ptrs x hx hL _ hs _
            have h15 : L 15 = false := hs 15 (by kernel_rfl)
            have HO : OW kC 33 x B ao cap (mvr zC l a t) := by have hx2 := hx.2; rw [h15] at hx2; exact hx2
            exact opX_val (v := .pointer (pK kC ao (a + t + 1) 0)) rfl (run_ixK rC (HO.re) _ _ rfl (by rw [mvr_len]; rfl) (a + t + 1) rfl (by rw [mvr_len]; omega)) ⟨hx, StM.vals [0, 1, 2, 3, 4, 5, 6, 7, 8, 9, 10, 11, 12, 13, 14, 15] (by kernel_rfl) ⟨⟨_, rfl⟩, ⟨_, rfl⟩, ⟨_, rfl⟩, ⟨_, rfl⟩, ⟨_, rfl⟩, ⟨_, rfl⟩, ⟨_, rfl⟩, ⟨_, rfl⟩, ⟨_, rfl⟩, ⟨_, rfl⟩, ⟨_, rfl⟩, ⟨_, rfl⟩, ⟨_, rfl⟩, ⟨_, rfl⟩, ⟨_, rfl⟩, ⟨_, rfl⟩, trivial⟩⟩ rfl
          case o9x6 =>
            intro L ptrs x hx hL _ hs _
            have h15 : L 15 = false := hs 15 (by kernel_rfl)
            have HO : OW kC 33 x B ao cap (mvr zC l a t) := by have hx2 := hx.2; rw [h15] at hx2; exact hx2
            exact opX_val (v := .agg (cdA ((mvr zC l a t).getD (a + t + 1) zC))) rfl (run_ldKC (HO.re) _ rfl (a + t + 1) rfl (by rw [mvr_len]; omega)) ⟨hx, StM.vals [0, 1, 2, 3, 4, 5, 6, 7, 8, 9, 10, 11, 12, 13, 14, 15] (by kernel_rfl) ⟨⟨_, rfl⟩, ⟨_, rfl⟩, ⟨_, rfl⟩, ⟨_, rfl⟩, ⟨_, rfl⟩, ⟨_, rfl⟩, ⟨_, rfl⟩, ⟨_, rfl⟩, ⟨_, rfl⟩, ⟨_, rfl⟩, ⟨_, rfl⟩, ⟨_, rfl⟩, ⟨_, rfl⟩, ⟨_, rfl⟩, ⟨_, rfl⟩, ⟨_, rfl⟩, trivial⟩⟩ rfl
          case o10x6 => exact fun L ptrs x hx _ _ _ _ => opX_val (v := .slice ao l.length cap) rfl (rfl) ⟨hx, StM.vals [0, 1, 2, 3, 4, 5, 6, 7, 8, 9, 10, 11, 12, 13, 14, 15] (by kernel_rfl) ⟨⟨_, rfl⟩, ⟨_, rfl⟩, ⟨_, rfl⟩, ⟨_, rfl⟩, ⟨_, rfl⟩, ⟨_, rfl⟩, ⟨_, rfl⟩, ⟨_, rfl⟩, ⟨_, rfl⟩, ⟨_, rfl⟩, ⟨_, rfl⟩, ⟨_, rfl⟩, ⟨_, rfl⟩, ⟨_, rfl⟩, ⟨_, rfl⟩, ⟨_, rfl⟩, trivial⟩⟩ rfl
          case o11x6 => exact fun L ptrs x hx _ _ _ _ => opX_val (v := .int .i64 ((a + t : Nat) : Int)) rfl (rfl) ⟨hx, StM.vals [0, 1, 2, 3, 4, 5, 6, 7, 8, 9, 10, 11, 12, 13, 14, 15] (by kernel_rfl) ⟨⟨_, rfl⟩, ⟨_, rfl⟩, ⟨_, rfl⟩, ⟨_, rfl⟩, ⟨_, rfl⟩, ⟨_, rfl⟩, ⟨_, rfl⟩, ⟨_, rfl⟩, ⟨_, rfl⟩, ⟨_, rfl⟩, ⟨_, rfl⟩, ⟨_, rfl⟩, ⟨_, rfl⟩, ⟨_, rfl⟩, ⟨_, rfl⟩, ⟨_, rfl⟩, trivial⟩⟩ rfl
          case o12x6 =>
            intro L ptrs x hx hL _ hs _
            have h15 : L 15 = false := hs 15 (by kernel_rfl)
            have HO : OW kC 33 x B ao cap (mvr zC l a t) := by have hx2 := hx.2; rw [h15] at hx2; exact hx2
            exact opX_val (v := .pointer (pK kC ao (a + t) 0)) rfl (run_ixK rC (HO.re) _ _ rfl (by rw [mvr_len]; rfl) (a + t) rfl (by rw [mvr_len]; omega)) ⟨hx, StM.vals [0, 1, 2, 3, 4, 5, 6, 7, 8, 9, 10, 11, 12, 13, 14, 15] (by kernel_rfl) ⟨⟨_, rfl⟩, ⟨_, rfl⟩, ⟨_, rfl⟩, ⟨_, rfl⟩, ⟨_, rfl⟩, ⟨_, rfl⟩, ⟨_, rfl⟩, ⟨_, rfl⟩, ⟨_, rfl⟩, ⟨_, rfl⟩, ⟨_, rfl⟩, ⟨_, rfl⟩, ⟨_, rfl⟩, ⟨_, rfl⟩, ⟨_, rfl⟩, ⟨_, rfl⟩, trivial⟩⟩ rfl
          case o13x6 =>
            intro L ptrs x hx hL _ hs _
            have h15 : L 15 = false := hs 15 (by kernel_rfl)
            have HO : OW kC 33 x B ao cap (mvr zC l a t) := by have hx2 := hx.2; rw [h15] at hx2; exact hx2
            exact opX_val (v := .agg (cdA ((mvr zC l a t).getD (a + t) zC))) rfl (run_ldKC (HO.re) _ rfl (a + t) rfl (by rw [mvr_len]; omega)) ⟨hx, StM.vals [0, 1, 2, 3, 4, 5, 6, 7, 8, 9, 10, 11, 12, 13, 14, 15] (by kernel_rfl) ⟨⟨_, rfl⟩, ⟨_, rfl⟩, ⟨_, rfl⟩, ⟨_, rfl⟩, ⟨_, rfl⟩, ⟨_, rfl⟩, ⟨_, rfl⟩, ⟨_, rfl⟩, ⟨_, rfl⟩, ⟨_, rfl⟩, ⟨_, rfl⟩, ⟨_, rfl⟩, ⟨_, rfl⟩, ⟨_, rfl⟩, ⟨_, rfl⟩, ⟨_, rfl⟩, trivial⟩⟩ rfl
          case o14x6 =>
            intro L ptrs x hx hL _ hs _
            have h15 : L 15 = false := hs 15 (by kernel_rfl)
            have HO : OW kC 33 x B ao cap (mvr zC l a t) := by have hx2 := hx.2; rw [h15] at hx2; exact hx2
            exact opX_val (v := .pointer (pK kC ao (a + t) 0)) rfl (run_ixK rC (HO.re) _ _ rfl (by rw [mvr_len]; rfl) (a + t) rfl (by rw [mvr_len]; omega)) ⟨hx, StM.vals [0, 1, 2, 3, 4, 5, 6, 7, 8, 9, 10, 11, 12, 13, 14, 15] (by kernel_rfl) ⟨⟨_, rfl⟩, ⟨_, rfl⟩, ⟨_, rfl⟩, ⟨_, rfl⟩, ⟨_, rfl⟩, ⟨_, rfl⟩, ⟨_, rfl⟩, ⟨_, rfl⟩, ⟨_, rfl⟩, ⟨_, rfl⟩, ⟨_, rfl⟩, ⟨_, rfl⟩, ⟨_, rfl⟩, ⟨_, rfl⟩, ⟨_, rfl⟩, ⟨_, rfl⟩, trivial⟩⟩ rfl
          case o15x6 =>
            intro L ptrs x hx hL _ hs _
            have h15 : L 15 = false := hL
            have HO : OW kC 33 x B ao cap (mvr zC l a t) := by have hx2 := hx.2; rw [h15] at hx2; exact hx2
            refine opX_stK _ rfl 33 _ _ rfl HO (a + t) 0 (by rw [mvr_len]; omega) rfl (.agg (cdA ((mvr zC l a t).getD (a + t + 1) zC))) rfl (cdL ((mvr zC l a t).getD (a + t + 1) zC)) rfl (siCl _) (by rw [cdL_len]; decide) (by rw [cdL_len]; decide) (cdL_one _) ((mvr zC l a t).getD (a + t + 1) zC) (spl_cd _ _) (atC HO.re (by rw [mvr_len]; omega)) ?_
            intro y HO2 G2
            exact ⟨⟨⟨hx.1.trans G2, HO2⟩, StM.vals [0, 1, 2, 3, 4, 5, 6, 7, 8, 9, 10, 11, 12, 13, 14, 15] (by kernel_rfl) ⟨⟨_, rfl⟩, ⟨_, rfl⟩, ⟨_, rfl⟩, ⟨_, rfl⟩, ⟨_, rfl⟩, ⟨_, rfl⟩, ⟨_, rfl⟩, ⟨_, rfl⟩, ⟨_, rfl⟩, ⟨_, rfl⟩, ⟨_, rfl⟩, ⟨_, rfl⟩, ⟨_, rfl⟩, ⟨_, rfl⟩, ⟨_, rfl⟩, ⟨_, rfl⟩, trivial⟩⟩, rfl⟩
          intro ptrs w1 HJ _
          simp only [List.drop_succ_cons, List.drop_zero]
          replace CK := CK.gros HJ.1 HO.own
          replace GG := GG.trans HJ.1
          have xO := atC HO.re (j := a + t) (by rw [mvr_len]; omega)
          clear HO
          have HO : OW kC 33 w1 B ao cap ((mvr zC l a t).set (a + t) ((mvr zC l a t).getD (a + t + 1) zC)) := HJ.2
          clear HJ
          refine s_val 76 rfl rfl (.pointer (pK kC ao (a + t + 1) 0)) (run_ixK rC HO.re _ _ rfl (by rw [List.length_set, mvr_len]; rfl) (a + t + 1) rfl (by rw [List.length_set, mvr_len]; omega)) ?_
          refine nr ?_; intro U h; simp only [z0, z1] at h; subst h
          refine s_stK rfl rfl 33 _ _ rfl HO (a + t + 1) 0 (by rw [List.length_set, mvr_len]; omega) rfl (.agg (cdA ((mvr zC l a t).getD (a + t) zC))) rfl (cdL ((mvr zC l a t).getD (a + t) zC)) rfl (siCl _) (by rw [cdL_len]; decide) (by rw [cdL_len]; decide) (cdL_one _) ((mvr zC l a t).getD (a + t) zC) (spl_cd _ _) xO ?_
          intro w2 HO2 G2
          replace CK := CK.gros G2 HO.own
          replace GG := GG.trans G2
          clear G2 HO xO
          have HO : OW kC 33 w2 B ao cap (swp zC (mvr zC l a t) (a + t) (a + t + 1)) := HO2
          clear HO2
          refine wpList_nil ?_
          refine blk_n ?_
          refine then_n ?_
          refine wp_region_lit ?_
          refine s_val 59 rfl rfl (.int .i64 ((a + t : Nat) : Int)) (rfl) ?_
          refine nr ?_; intro U h; simp only [z0, z1] at h; subst h
          refine s_val 60 rfl rfl (.int .i64 ((a + t + 1 : Nat) : Int)) (run_addI 3 _ _ _ rfl ((a + t : Nat) : Int) 1 ((a + t + 1 : Nat) : Int) rfl rfl (by omega) (by omega) (by omega) _) ?_
          refine nr ?_; intro U h; simp only [z0, z1] at h; subst h
          refine s_val 13 rfl rfl (.int .i64 ((a + t + 1 : Nat) : Int)) (rfl) ?_
          refine nr ?_; intro U h; simp only [z0, z1] at h; subst h
          refine wpList_nil ?_
          refine then_n ?_
          exact ⟨i + 1 - (t + 1), by omega, t + 1, (fun kz => ([.int .i64 ((a + t : Nat) : Int), .int .i64 ((i : Nat) : Int), .int .i64 ((i - 1 : Nat) : Int), .bool true, .int .i64 ((a + t : Nat) : Int), .int .i64 ((a + t + 1 : Nat) : Int), .slice ao l.length cap, .int .i64 ((a + t : Nat) : Int), .slice ao l.length cap, .int .i64 ((a + t : Nat) : Int), .int .i64 ((a + t + 1 : Nat) : Int), .slice ao l.length cap, .int .i64 ((a + t : Nat) : Int), .int .i64 ((a + t + 1 : Nat) : Int), .pointer (pK kC ao (a + t + 1) 0), .agg (cdA ((mvr zC l a t).getD (a + t + 1) zC)), .slice ao l.length cap, .int .i64 ((a + t : Nat) : Int), .pointer (pK kC ao (a + t) 0), .agg (cdA ((mvr zC l a t).getD (a + t) zC)), .pointer (pK kC ao (a + t) 0), .pointer (pK kC ao (a + t + 1) 0)] : List Value).getD kz undef), rfl, rfl, by omega, GG, HO, CK⟩
      · have hil : i < j := by have := of_decide_eq_true hij1; omega
        obtain ⟨h, hh⟩ : ∃ h, (i + j) / 2 ^ 1 = h := ⟨_, rfl⟩
        have hh2 : (i + j) / 2 = h := hh
        refine s_val 33 rfl rfl (.bool true) (run_lssT 3 _ _ _ rfl ((i : Nat) : Int) ((j : Nat) : Int) rfl rfl true hij1 _) ?_
        refine nr ?_; intro U h; simp only [z0, z1] at h; subst h
        refine wpList_nil ?_
        refine then_n ?_
        refine wp_cond_true rfl ?_
        refine wp_skip ?_
        refine then_n ?_
        refine wp_block ?_
        refine wp_seq ?_
        refine wp_region_lit ?_
        refine s_val 34 rfl rfl (.int .i64 ((i : Nat) : Int)) (rfl) ?_
        refine nr ?_; intro U h; simp only [z0, z1] at h; subst h
        refine s_val 35 rfl rfl (.int .i64 ((j : Nat) : Int)) (rfl) ?_
        refine nr ?_; intro U h; simp only [z0, z1] at h; subst h
        refine s_val 36 rfl rfl (.int .i64 ((i + j : Nat) : Int)) (run_addI 3 _ _ _ rfl ((i : Nat) : Int) ((j : Nat) : Int) ((i + j : Nat) : Int) rfl rfl (by omega) (by omega) (by omega) _) ?_
        refine nr ?_; intro U h; simp only [z0, z1] at h; subst h
        refine s_val 37 rfl rfl (.int .u64 ((i + j : Nat) : Int)) (cv3u _ rfl (i + j) (by omega) rfl _) ?_
        refine nr ?_; intro U h; simp only [z0, z1] at h; subst h
        refine s_val 38 rfl rfl (.int .u64 ((h : Nat) : Int)) (run_shr64 77 77 _ _ rfl (i + j) 1 .u64 rfl rfl (by decide) h hh _) ?_
        refine nr ?_; intro U h; simp only [z0, z1] at h; subst h
        refine s_val 39 rfl rfl (.int .i64 ((h : Nat) : Int)) (cvu3 _ rfl h (by omega) rfl _) ?_
        refine nr ?_; intro U h; simp only [z0, z1] at h; subst h
        refine s_val 12 rfl rfl (.int .i64 ((h : Nat) : Int)) (rfl) ?_
        refine nr ?_; intro U h; simp only [z0, z1] at h; subst h
        refine wpList_nil ?_
        refine then_n ?_
        refine wp_seq ?_
        cases hc : decide (ltC (l.getD h zC) (l.getD a zC) = true)
        · refine wp_region_exA (A := ?Ax7) 9 [(0, 40), (1, 41), (2, 42), (3, 43), (4, 44), (5, 45), (6, 46), (7, 47), (8, 48)] [.val (.func (.func 40) #[] #[.pointer (some ⟨c, 0, none⟩)]), .val (.slice ao l.length cap), .val (.int .i64 ((h : Nat) : Int)), .val (.pointer (pK kC ao h 0)), .val (.agg (cdA (l.getD h zC))), .val (.slice ao l.length cap), .val (.int .i64 ((a : Nat) : Int)), .val (.pointer (pK kC ao a 0)), .val (.agg (cdA (l.getD a zC)))] follows (by kernel_rfl) rfl ?hAx7 (opsA_cons ?o0x7 (opsA_cons ?o1x7 (opsA_cons ?o2x7 (opsA_cons ?o3x7 (opsA_cons ?o4x7 (opsA_cons ?o5x7 (opsA_cons ?o6x7 (opsA_cons ?o7x7 (opsA_cons ?o8x7 opsA_nil))))))))) ?restx7
          case hAx7 =>
            intro ptrs
            simp only [full, foldSlots, filledE, postE, List.foldl_cons, List.foldl_nil, List.getD_cons_zero, List.getD_cons_succ, fill_val, List.set_cons_zero, List.set_cons_succ]
            exact rfl
          case o0x7 => exact fun _ _ _ _ => opE_move (v := .func (.func 40) #[] #[.pointer (some ⟨c, 0, none⟩)]) _ rfl rfl rfl
          case o1x7 => exact fun _ _ _ _ => opE_move (v := .slice ao l.length cap) _ rfl rfl rfl
          case o2x7 => exact fun _ _ _ _ => opE_move (v := .int .i64 ((h : Nat) : Int)) _ rfl rfl rfl
          case o3x7 => exact fun _ _ hw _ => opE_value (v := .pointer (pK kC ao h 0)) rfl (run_ixK rC ((HO.gro ((Gro.refl _).drew.trans hw)).re) _ _ rfl rfl h rfl (by omega))
          case o4x7 => exact fun _ _ hw _ => opE_value (v := .agg (cdA (l.getD h zC))) rfl (run_ldKC ((HO.gro ((Gro.refl _).drew.trans hw)).re) _ rfl h rfl (by omega))
          case o5x7 => exact fun _ _ _ _ => opE_move (v := .slice ao l.length cap) _ rfl rfl rfl
          case o6x7 => exact fun _ _ _ _ => opE_move (v := .int .i64 ((a : Nat) : Int)) _ rfl rfl rfl
          case o7x7 => exact fun _ _ hw _ => opE_value (v := .pointer (pK kC ao a 0)) rfl (run_ixK rC ((HO.gro ((Gro.refl _).drew.trans hw)).re) _ _ rfl rfl a rfl (by omega))
          case o8x7 => exact fun _ _ hw _ => opE_value (v := .agg (cdA (l.getD a zC))) rfl (run_ldKC ((HO.gro ((Gro.refl _).drew.trans hw)).re) _ rfl a rfl (by omega))
          intro ptrs w1 GD hxE
          simp only [List.drop_succ_cons, List.drop_zero]
          replace HO := HO.gro ((Gro.refl _).drew.trans GD)
          replace CK := CK.gro ((Gro.refl _).drew.trans GD)
          replace GG := GG.drew.tg GD
          clear GD
          refine s_callF 49 rfl rfl _ 40 #[.pointer (some ⟨c, 0, none⟩)] Try.call40 rfl _ rfl rfl _ rfl [.agg (cdA (l.getD h zC)), .agg (cdA (l.getD a zC))] rfl (cmp40_any (l.getD h zC) (l.getD a zC) (atC HO.re (by omega)) (atC HO.re (by omega)) c _ (CK)) ?_
          intro w2 G
          replace HO := HO.gro G
          replace CK := CK.gro G
          replace GG := GG.tg G
          clear G
          refine nr ?_; intro U h; simp only [z0, z1] at h; subst h
          refine s_val 50 rfl rfl (.bool false) (run_lssT 3 _ _ _ rfl (cmpC (l.getD h zC) (l.getD a zC)) 0 rfl rfl false ((cmpC_neg _ _).trans ((dec_b _).trans hc)) _) ?_
          refine nr ?_; intro U h; simp only [z0, z1] at h; subst h
          refine wpList_nil ?_
          refine then_n ?_
          refine wp_cond_false rfl ?_
          refine wp_region_lit ?_
          refine s_val 53 rfl rfl (.int .i64 ((h : Nat) : Int)) (rfl) ?_
          refine nr ?_; intro U h; simp only [z0, z1] at h; subst h
          refine s_val 11 rfl rfl (.int .i64 ((h : Nat) : Int)) (rfl) ?_
          refine nr ?_; intro U h; simp only [z0, z1] at h; subst h
          refine wpList_nil ?_
          refine blk_n ?_
          refine then_n ?_
          exact ⟨h - i, by omega, i, h, (fun kz => ([.int .i64 ((h : Nat) : Int), .int .i64 ((i : Nat) : Int), .int .i64 ((j : Nat) : Int), .bool true, .int .i64 ((i : Nat) : Int), .int .i64 ((j : Nat) : Int), .int .i64 ((i + j : Nat) : Int), .int .u64 ((i + j : Nat) : Int), .int .u64 ((h : Nat) : Int), .int .i64 ((h : Nat) : Int), .func (.func 40) #[] #[.pointer (some ⟨c, 0, none⟩)], .slice ao l.length cap, .int .i64 ((h : Nat) : Int), .pointer (pK kC ao h 0), .agg (cdA (l.getD h zC)), .slice ao l.length cap, .int .i64 ((a : Nat) : Int), .pointer (pK kC ao a 0), .agg (cdA (l.getD a zC)), .int .i64 (cmpC (l.getD h zC) (l.getD a zC)), .bool false, us1 21, us1 22, .int .i64 ((h : Nat) : Int)] : List Value).getD kz undef), rfl, rfl, by omega, by omega, by omega, c1, .inr (Bool.eq_false_iff.2 (of_decide_eq_false hc)), GG, HO, CK⟩
        · refine wp_region_exA (A := ?Ax8) 9 [(0, 40), (1, 41), (2, 42), (3, 43), (4, 44), (5, 45), (6, 46), (7, 47), (8, 48)] [.val (.func (.func 40) #[] #[.pointer (some ⟨c, 0, none⟩)]), .val (.slice ao l.length cap), .val (.int .i64 ((h : Nat) : Int)), .val (.pointer (pK kC ao h 0)), .val (.agg (cdA (l.getD h zC))), .val (.slice ao l.length cap), .val (.int .i64 ((a : Nat) : Int)), .val (.pointer (pK kC ao a 0)), .val (.agg (cdA (l.getD a zC)))] follows (by kernel_rfl) rfl ?hAx8 (opsA_cons ?o0x8 (opsA_cons ?o1x8 (opsA_cons ?o2x8 (opsA_cons ?o3x8 (opsA_cons ?o4x8 (opsA_cons ?o5x8 (opsA_cons ?o6x8 (opsA_cons ?o7x8 (opsA_cons ?o8x8 opsA_nil))))))))) ?restx8
          case hAx8 =>
            intro ptrs
            simp only [full, foldSlots, filledE, postE, List.foldl_cons, List.foldl_nil, List.getD_cons_zero, List.getD_cons_succ, fill_val, List.set_cons_zero, List.set_cons_succ]
            exact rfl
          case o0x8 => exact fun _ _ _ _ => opE_move (v := .func (.func 40) #[] #[.pointer (some ⟨c, 0, none⟩)]) _ rfl rfl rfl
          case o1x8 => exact fun _ _ _ _ => opE_move (v := .slice ao l.length cap) _ rfl rfl rfl
          case o2x8 => exact fun _ _ _ _ => opE_move (v := .int .i64 ((h : Nat) : Int)) _ rfl rfl rfl
          case o3x8 => exact fun _ _ hw _ => opE_value (v := .pointer (pK kC ao h 0)) rfl (run_ixK rC ((HO.gro ((Gro.refl _).drew.trans hw)).re) _ _ rfl rfl h rfl (by omega))
          case o4x8 => exact fun _ _ hw _ => opE_value (v := .agg (cdA (l.getD h zC))) rfl (run_ldKC ((HO.gro ((Gro.refl _).drew.trans hw)).re) _ rfl h rfl (by omega))
          case o5x8 => exact fun _ _ _ _ => opE_move (v := .slice ao l.length cap) _ rfl rfl rfl
          case o6x8 => exact fun _ _ _ _ => opE_move (v := .int .i64 ((a : Nat) : Int)) _ rfl rfl rfl
          case o7x8 => exact fun _ _ hw _ => opE_value (v := .pointer (pK kC ao a 0)) rfl (run_ixK rC ((HO.gro ((Gro.refl _).drew.trans hw)).re) _ _ rfl rfl a rfl (by omega))
          case o8x8 => exact fun _ _ hw _ => opE_value (v := .agg (cdA (l.getD a zC))) rfl (run_ldKC ((HO.gro ((Gro.refl _).drew.trans hw)).re) _ rfl a rfl (by omega))
          intro ptrs w1 GD hxE
          simp only [List.drop_succ_cons, List.drop_zero]
          replace HO := HO.gro ((Gro.refl _).drew.trans GD)
          replace CK := CK.gro ((Gro.refl _).drew.trans GD)
          replace GG := GG.drew.tg GD
          clear GD
          refine s_callF 49 rfl rfl _ 40 #[.pointer (some ⟨c, 0, none⟩)] Try.call40 rfl _ rfl rfl _ rfl [.agg (cdA (l.getD h zC)), .agg (cdA (l.getD a zC))] rfl (cmp40_any (l.getD h zC) (l.getD a zC) (atC HO.re (by omega)) (atC HO.re (by omega)) c _ (CK)) ?_
          intro w2 G
          replace HO := HO.gro G
          replace CK := CK.gro G
          replace GG := GG.tg G
          clear G
          refine nr ?_; intro U h; simp only [z0, z1] at h; subst h
          refine s_val 50 rfl rfl (.bool true) (run_lssT 3 _ _ _ rfl (cmpC (l.getD h zC) (l.getD a zC)) 0 rfl rfl true ((cmpC_neg _ _).trans ((dec_b _).trans hc)) _) ?_
          refine nr ?_; intro U h; simp only [z0, z1] at h; subst h
          refine wpList_nil ?_
          refine then_n ?_
          refine wp_cond_true rfl ?_
          refine wp_region_lit ?_
          refine s_val 51 rfl rfl (.int .i64 ((h : Nat) : Int)) (rfl) ?_
          refine nr ?_; intro U h; simp only [z0, z1] at h; subst h
          refine s_val 52 rfl rfl (.int .i64 ((h + 1 : Nat) : Int)) (run_addI 3 _ _ _ rfl ((h : Nat) : Int) 1 ((h + 1 : Nat) : Int) rfl rfl (by omega) (by omega) (by omega) _) ?_
          refine nr ?_; intro U h; simp only [z0, z1] at h; subst h
          refine s_val 10 rfl rfl (.int .i64 ((h + 1 : Nat) : Int)) (rfl) ?_
          refine nr ?_; intro U h; simp only [z0, z1] at h; subst h
          refine wpList_nil ?_
          refine blk_n ?_
          refine then_n ?_
          exact ⟨j - (h + 1), by omega, h + 1, j, (fun kz => ([.int .i64 ((h : Nat) : Int), .int .i64 ((i : Nat) : Int), .int .i64 ((j : Nat) : Int), .bool true, .int .i64 ((i : Nat) : Int), .int .i64 ((j : Nat) : Int), .int .i64 ((i + j : Nat) : Int), .int .u64 ((i + j : Nat) : Int), .int .u64 ((h : Nat) : Int), .int .i64 ((h : Nat) : Int), .func (.func 40) #[] #[.pointer (some ⟨c, 0, none⟩)], .slice ao l.length cap, .int .i64 ((h : Nat) : Int), .pointer (pK kC ao h 0), .agg (cdA (l.getD h zC)), .slice ao l.length cap, .int .i64 ((a : Nat) : Int), .pointer (pK kC ao a 0), .agg (cdA (l.getD a zC)), .int .i64 (cmpC (l.getD h zC) (l.getD a zC)), .bool true, .int .i64 ((h : Nat) : Int), .int .i64 ((h + 1 : Nat) : Int), us1 23] : List Value).getD kz undef), rfl, rfl, by omega, by omega, by omega, .inr (of_decide_eq_true hc), c2, GG, HO, CK⟩
end Go.Proofs.Ytfabgonoonanfaa
