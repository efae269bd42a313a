/- The program's calls: who is wanted, sorted, next. -/
import Derived.Test.YtfabgonoonanfaaI10
namespace Go.Proofs.Ytfabgonoonanfaa
open Go.RowKit

theorem insK_len (k : Nat → Nat) (x : Nat) (out : List Nat) : (insK k x out).length = out.length + 1 := by
  unfold insK
  have := congrArg List.length (List.takeWhile_append_dropWhile (p := fun y => decide (k y < k x)) (l := out))
  rw [List.length_append] at this
  rw [List.length_append, List.length_cons]
  omega
theorem fold_len (k : Nat → Nat) (wo : Nat) : ∀ (l out : List Nat), (l.foldl (linS k wo) out).length ≤ out.length + l.length
  | [], out => by simp
  | x :: r, out => by
    rw [List.foldl_cons, List.length_cons]
    have h1 := fold_len k wo r (linS k wo out x)
    have h2 : (linS k wo out x).length ≤ out.length + 1 := by
      unfold linS
      split
      · omega
      · rw [insK_len]; omega
    omega
theorem lin_len (k : Nat → Nat) (wo : Nat) (l : List Nat) : (lin k wo l).length ≤ l.length := by
  have := fold_len k wo l []
  simpa [lin] using this
theorem want_len (s : Nat) (l : List Nat) (half : Int) : (want s l half).length ≤ l.length := Nat.le_trans (List.length_filter_le _ _) (lin_len _ _ _)
theorem nearK_len (M : List Nat) (half : Int) : ∀ i, (nearK M half i).length ≤ i
  | 0 => Nat.le_refl _
  | i + 1 => by
    have := nearK_len M half i
    rw [nearK, List.length_append]
    split
    · simp; omega
    · simp; omega
theorem run_minIi {P : Program} {o : Oper} {A : Act} (x y : Operand) (ats : Array TypeId) (ho : o.op = .call { callee := .builtin .min, args := #[x, y], argTypes := ats }) (n m : Int) (hx : A.eval x = .int .i64 n) (hy : A.eval y = .int .i64 m) (w : World) : (execOp A.eval o).run P w = .ok (.value (.int .i64 (min n m))) w := by
  unfold execOp
  simp only [ho, hx, hy, List.map_toArray, List.map_cons, List.map_nil, resolve, invoke]
  simp [builtin, Builtin.min_, Builtin.min2, go_sem]
  omega
theorem nxt_nil {s : Nat} {l : List Nat} (h : (lin (kc s) s l).length = 0) : nxt s l = none := by
  unfold nxt
  rw [List.eq_nil_of_length_eq_zero h]
  rfl
theorem nxt_head {s : Nat} {l : List Nat} (h : (lin (kc s) s l).length ≠ 0) : nxt s l = some ((lin (kc s) s l).getD 0 0) := by
  unfold nxt
  cases hL : lin (kc s) s l with
  | nil => rw [hL] at h; exact absurd rfl h
  | cons a r => rfl
set_option maxRecDepth 100000 in
set_option maxHeartbeats 4000000 in
theorem sorted_any (w : World) (ao : Option Addr) (cap : Nat) (l : List Nat) (H : RC w ao cap l) (hl : l.length ≤ 1000000) (s : Nat) (hs : s < top) : Calls Try.prog 32 #[.agg (idA s), .slice ao l.length cap] w (RowPi w (lin (kc 0) s l)) := by
  refine s_enter Try.func32 rfl Try.ntmps32 [.agg (idA s), .slice ao l.length cap] [.agg (idA s), .slice ao l.length cap, undef, undef, undef, undef, undef, undef, undef] rfl ?_
  have GG := Gro.refl w
  refine wp_seq ?_
  refine wp_region_lit ?_
  refine s_box 2 rfl rfl 23 _ rfl _ rfl (idA s) rfl ?_
  intro w1 g1 G eg1 kg1
  have bg1 := size_base GG eg1
  replace GG := GG.trans G
  clear G
  clear eg1
  refine nr ?_; intro U h; simp only [z0, z1] at h; subst h
  refine s_val 4 rfl rfl (.slice none 0 0) (rfl) ?_
  refine nr ?_; intro U h; simp only [z0, z1] at h; subst h
  refine wpList_nil ?_
  refine then_n ?_
  refine wp_seq ?_
  refine wp_region_exA (A := ?Ax7) 3 [(0, 5), (1, 6), (2, 7)] [cloE 0, .val (.agg (idA s)), .val (.slice ao l.length cap)] follows (by kernel_rfl) rfl ?hAx7 (opsA_cons ?o0x7 (opsA_cons ?o1x7 (opsA_cons ?o2x7 opsA_nil))) ?restx7
  case hAx7 =>
    intro ptrs
    simp only [full, foldSlots, filledE, postE, List.foldl_cons, List.foldl_nil, List.getD_cons_zero, List.getD_cons_succ, fill_val, fill_cloE, List.set_cons_zero, List.set_cons_succ]
    exact rfl
  case o0x7 =>
    intro ptrs w' hw hE
    exact opE_call (cloE 0) rfl _ 47 Try.call47 rfl rfl _ rfl [] rfl ((rising_any _).mono fun e w' ⟨c, he, hg, hk⟩ => ⟨_, he, hg, c, rfl, hk⟩)
  case o1x7 => exact fun _ _ hw _ => opE_value (v := .agg (idA s)) rfl (run_ldB _ rfl g1 _ rfl (hw.has kg1))
  case o2x7 => exact fun _ _ _ _ => opE_move (v := .slice ao l.length cap) _ rfl rfl rfl
  intro ptrs w2 GD hxE
  simp only [List.drop_succ_cons, List.drop_zero]
  replace kg1 := GD.has kg1
  replace GG := GG.drew.trans GD
  obtain ⟨⟨c1, hx1, kc1⟩, _⟩ := hxE
  simp only [hx1]
  clear hx1
  clear GD
  refine s_callx 8 rfl rfl _ 46 Try.call46 rfl rfl _ rfl [.func (.func 57) #[] #[.pointer (some ⟨c1, 0, none⟩)], .agg (idA s), .slice ao l.length cap] rfl (lined_any _ 0 c1 s ao cap l top_0i hs kc1 (H.gro GG) hl) (by rintro _ _ ⟨_, _, he, _⟩; exact ⟨_, he⟩) ?_
  rintro v w3 ⟨ao2, cap2, he, G, HR2⟩
  cases he
  replace kg1 := G.has kg1
  replace kc1 := G.has kc1
  replace GG := GG.trans G
  clear G
  refine nr ?_; intro U h; simp only [z0, z1] at h; subst h
  refine s_val 4 rfl rfl (.slice ao2 ((lin (kc 0) s l).length) cap2) (rfl) ?_
  refine nr ?_; intro U h; simp only [z0, z1] at h; subst h
  refine wpList_nil ?_
  refine then_n ?_
  refine wp_ret ?_
  refine bodyPost_ret (results_tmp Try.results32 _ _ _) rfl ?_
  exact ⟨_, _, rfl, GG, HR2⟩
set_option maxRecDepth 100000 in
set_option maxHeartbeats 4000000 in
theorem want_any (w : World) (ao : Option Addr) (cap : Nat) (l : List Nat) (H : RC w ao cap l) (hl : l.length ≤ 1000000) (s : Nat) (hs : s < top) (half : Int) : Calls Try.prog 33 #[.agg (idA s), .slice ao l.length cap, .int .i64 half] w (RowPi w (want s l half)) := by
  refine s_enter Try.func33 rfl Try.ntmps33 [.agg (idA s), .slice ao l.length cap, .int .i64 half] [.agg (idA s), .slice ao l.length cap, .int .i64 half, undef, undef, undef, undef, undef, undef, undef, undef, undef, undef, undef, undef, undef, undef, undef, undef, undef, undef, undef, undef, undef, undef, undef, undef, undef, undef, undef, undef, undef, undef, undef, undef, undef, undef, undef, undef, undef, undef, undef, undef] rfl ?_
  have GG := Gro.refl w
  refine wp_seq ?_
  refine wp_region_lit ?_
  refine s_box 3 rfl rfl 23 _ rfl _ rfl (idA s) rfl ?_
  intro w1 g1 G eg1 kg1
  have bg1 := size_base GG eg1
  replace GG := GG.trans G
  clear G
  clear eg1
  refine nr ?_; intro U h; simp only [z0, z1] at h; subst h
  refine s_val 6 rfl rfl (.slice none 0 0) (rfl) ?_
  refine nr ?_; intro U h; simp only [z0, z1] at h; subst h
  refine wpList_nil ?_
  refine then_n ?_
  refine wp_seq ?_
  refine wp_region_exA (A := ?Ax9) 4 [(0, 12), (1, 13), (2, 14), (3, 15)] [.val (.agg (idA s)), cloE s, .val (.agg (idA s)), .val (.slice ao l.length cap)] follows (by kernel_rfl) rfl ?hAx9 (opsA_cons ?o0x9 (opsA_cons ?o1x9 (opsA_cons ?o2x9 (opsA_cons ?o3x9 opsA_nil)))) ?restx9
  case hAx9 =>
    intro ptrs
    simp only [full, foldSlots, filledE, postE, List.foldl_cons, List.foldl_nil, List.getD_cons_zero, List.getD_cons_succ, fill_val, fill_cloE, List.set_cons_zero, List.set_cons_succ]
    exact rfl
  case o0x9 => exact fun _ _ hw _ => opE_value (v := .agg (idA s)) rfl (run_ldB _ rfl g1 _ rfl (hw.has kg1))
  case o1x9 =>
    intro ptrs w' hw hE
    exact opE_call (cloE s) rfl _ 48 Try.call48 rfl rfl _ rfl [.agg (idA s)] rfl ((clockwise_any _ s).mono fun e w' ⟨c, he, hg, hk⟩ => ⟨_, he, hg, c, rfl, hk⟩)
  case o2x9 => exact fun _ _ hw _ => opE_value (v := .agg (idA s)) rfl (run_ldB _ rfl g1 _ rfl (hw.has kg1))
  case o3x9 => exact fun _ _ _ _ => opE_move (v := .slice ao l.length cap) _ rfl rfl rfl
  intro ptrs w2 GD hxE
  simp only [List.drop_succ_cons, List.drop_zero]
  replace kg1 := GD.has kg1
  replace GG := GG.drew.trans GD
  obtain ⟨⟨c1, hx1, kc1⟩, _⟩ := hxE
  simp only [hx1]
  clear hx1
  clear GD
  refine s_callx 16 rfl rfl _ 46 Try.call46 rfl rfl _ rfl [.func (.func 57) #[] #[.pointer (some ⟨c1, 0, none⟩)], .agg (idA s), .slice ao l.length cap] rfl (lined_any _ s c1 s ao cap l hs hs kc1 (H.gro GG) hl) (by rintro _ _ ⟨_, _, he, _⟩; exact ⟨_, he⟩) ?_
  rintro v w3 ⟨ao2, cap2, he, G, HR2⟩
  cases he
  replace kg1 := G.has kg1
  replace kc1 := G.has kc1
  replace GG := GG.trans G
  clear G
  refine nr ?_; intro U h; simp only [z0, z1] at h; subst h
  refine s_val 7 rfl rfl (.slice ao2 ((lin (kc s) s l).length) cap2) (rfl) ?_
  refine nr ?_; intro U h; simp only [z0, z1] at h; subst h
  refine wpList_nil ?_
  refine then_n ?_
  refine wp_seq ?_
  refine wp_region_lit ?_
  refine s_val 8 rfl rfl (.slice none 0 0) (rfl) ?_
  refine nr ?_; intro U h; simp only [z0, z1] at h; subst h
  refine wpList_nil ?_
  refine then_n ?_
  refine wp_seq ?_
  refine wp_seq ?_
  refine wp_region_lit ?_
  refine s_val 17 rfl rfl (.slice ao2 ((lin (kc s) s l).length) cap2) (rfl) ?_
  refine nr ?_; intro U h; simp only [z0, z1] at h; subst h
  refine s_val 18 rfl rfl (.int .i64 (((lin (kc s) s l).length : Nat) : Int)) (run_len Try.underlying24 _ rfl _ _ _ rfl _) ?_
  refine nr ?_; intro U h; simp only [z0, z1] at h; subst h
  refine s_val 19 rfl rfl (.int .i64 0) (rfl) ?_
  refine nr ?_; intro U h; simp only [z0, z1] at h; subst h
  refine wpList_nil ?_
  refine then_n ?_
  refine wp_block ?_
  obtain ⟨B, hB⟩ : ∃ B, w3.heap.size = B := ⟨_, rfl⟩
  have hgB : g1 < B := hB ▸ lt_of_heap kg1
  have hmB : ∀ ad, ao2 = some ad → 0 < (fl (lin (kc s) s l)).length → ad.block < B := hB ▸ HR2.lt
  have hwB : w.heap.size ≤ B := hB ▸ GG.size
  have hML := lin_len (kc s) s l
  refine wp_loopN (fun mz az wv => ∃ (i : Nat) (no : Option Addr) (nc : Nat) (us1 : Nat → Value), mz = (lin (kc s) s l).length - i ∧ az = ⟨[.agg (idA s), .slice ao l.length cap, .int .i64 half, .pointer (some ⟨g1, 0, none⟩), undef, undef, .slice none 0 0, .slice ao2 ((lin (kc s) s l).length) cap2, .slice no ((nearK (lin (kc s) s l) half i).length) nc, us1 0, us1 1, us1 2, .agg (idA s), .func (.func 57) #[] #[.pointer (some ⟨c1, 0, none⟩)], .agg (idA s), .slice ao l.length cap, .slice ao2 ((lin (kc s) s l).length) cap2, .slice ao2 ((lin (kc s) s l).length) cap2, .int .i64 (((lin (kc s) s l).length : Nat) : Int), .int .i64 ((i : Nat) : Int), us1 3, us1 4, us1 5, us1 6, us1 7, us1 8, us1 9, us1 10, us1 11, us1 12, us1 13, us1 14, us1 15, us1 16, us1 17, us1 18, us1 19, us1 20, us1 21, undef, undef, undef, undef].toArray, []⟩ ∧ i ≤ (lin (kc s) s l).length ∧ Gro w wv ∧ wv.heap[g1]? = some (.cells (idA s) 23 (0, 0)) ∧ RC wv ao2 cap2 (lin (kc s) s l) ∧ OI wv B no nc (nearK (lin (kc s) s l) half i) ∧ B ≤ wv.heap.size) ?_ _ ⟨0, none, 0, (fun kz => ([undef, undef, undef, undef, undef, undef, undef, undef, undef, undef, undef, undef, undef, undef, undef, undef, undef, undef, undef, undef, undef, undef] : List Value).getD kz undef), rfl, rfl, Nat.zero_le _, GG, kg1, HR2, (OI.nil _ _), (Nat.le_of_eq hB.symm)⟩
  clear GG kg1 HR2
  rintro mz az wv ⟨i, no, nc, us1, rfl, rfl, hi, GG, kg1, HR2, HO, hBw⟩
  have hnl := nearK_len (lin (kc s) s l) half i
  refine wp_seq ?_
  refine wp_region_lit ?_
  cases hi1 : decide (((i : Nat) : Int) < (((lin (kc s) s l).length : Nat) : Int))
  · have hie : i = (lin (kc s) s l).length := by have := of_decide_eq_false hi1; omega
    refine s_val 20 rfl rfl (.bool false) (run_lssT 3 _ _ _ rfl ((i : Nat) : Int) (((lin (kc s) s l).length : Nat) : Int) rfl rfl false hi1 _) ?_
    refine nr ?_; intro U h; simp only [z0, z1] at h; subst h
    refine wpList_nil ?_
    refine then_n ?_
    refine wp_seq ?_
    refine wp_cond_false rfl ?_
    refine wp_exit ?_
    refine then_x ?_
    refine then_x ?_
    refine blk_x ?_
    refine then_n ?_
    refine wp_seq ?_
    subst hie
    have HN := HO.rc
    refine wp_region_exA (A := ?Ax10) 3 [(0, 39), (1, 40), (2, 41)] [cloE 0, .val (.agg (idA s)), .val (.slice no ((nearK (lin (kc s) s l) half (lin (kc s) s l).length).length) nc)] follows (by kernel_rfl) rfl ?hAx10 (opsA_cons ?o0x10 (opsA_cons ?o1x10 (opsA_cons ?o2x10 opsA_nil))) ?restx10
    case hAx10 =>
      intro ptrs
      simp only [full, foldSlots, filledE, postE, List.foldl_cons, List.foldl_nil, List.getD_cons_zero, List.getD_cons_succ, fill_val, fill_cloE, List.set_cons_zero, List.set_cons_succ]
      exact rfl
    case o0x10 =>
      intro ptrs w' hw hE
      exact opE_call (cloE 0) rfl _ 47 Try.call47 rfl rfl _ rfl [] rfl ((rising_any _).mono fun e w' ⟨c, he, hg, hk⟩ => ⟨_, he, hg, c, rfl, hk⟩)
    case o1x10 => exact fun _ _ hw _ => opE_value (v := .agg (idA s)) rfl (run_ldB _ rfl g1 _ rfl (hw.has kg1))
    case o2x10 => exact fun _ _ _ _ => opE_move (v := .slice no ((nearK (lin (kc s) s l) half (lin (kc s) s l).length).length) nc) _ rfl rfl rfl
    intro ptrs w4 GD hxE
    simp only [List.drop_succ_cons, List.drop_zero]
    replace kg1 := GD.has kg1
    replace HR2 := HR2.gro ((Gro.refl _).drew.trans GD)
    replace HN := HN.gro ((Gro.refl _).drew.trans GD)
    replace GG := GG.drew.trans GD
    obtain ⟨⟨c3, hx3, kc3⟩, _⟩ := hxE
    simp only [hx3]
    clear hx3
    clear GD
    refine s_callx 42 rfl rfl _ 46 Try.call46 rfl rfl _ rfl [.func (.func 57) #[] #[.pointer (some ⟨c3, 0, none⟩)], .agg (idA s), .slice no ((nearK (lin (kc s) s l) half (lin (kc s) s l).length).length) nc] rfl (lined_any _ 0 c3 s no nc (nearK (lin (kc s) s l) half (lin (kc s) s l).length) top_0i hs kc3 (HN) (by have := nearK_len (lin (kc s) s l) half (lin (kc s) s l).length; omega)) (by rintro _ _ ⟨_, _, he, _⟩; exact ⟨_, he⟩) ?_
    rintro v w5 ⟨ao4, cap4, he, G, HR4⟩
    cases he
    replace kg1 := G.has kg1
    replace kc3 := G.has kc3
    replace HR2 := HR2.gro G
    replace HN := HN.gro G
    replace GG := GG.trans G
    clear G
    refine nr ?_; intro U h; simp only [z0, z1] at h; subst h
    refine s_val 6 rfl rfl (.slice ao4 ((lin (kc 0) s (nearK (lin (kc s) s l) half (lin (kc s) s l).length)).length) cap4) (rfl) ?_
    refine nr ?_; intro U h; simp only [z0, z1] at h; subst h
    refine wpList_nil ?_
    refine then_n ?_
    refine wp_ret ?_
    refine bodyPost_ret (results_tmp Try.results33 _ _ _) rfl ?_
    rw [← want_eq hs H.all half]
    exact ⟨_, _, rfl, GG, HR4⟩
  · have hil : i < (lin (kc s) s l).length := by have := of_decide_eq_true hi1; omega
    refine s_val 20 rfl rfl (.bool true) (run_lssT 3 _ _ _ rfl ((i : Nat) : Int) (((lin (kc s) s l).length : Nat) : Int) rfl rfl true hi1 _) ?_
    refine nr ?_; intro U h; simp only [z0, z1] at h; subst h
    refine wpList_nil ?_
    refine then_n ?_
    refine wp_seq ?_
    refine wp_cond_true rfl ?_
    refine wp_skip ?_
    refine then_n ?_
    refine wp_seq ?_
    refine wp_block ?_
    refine wp_seq ?_
    refine wp_region_lit ?_
    refine s_val 21 rfl rfl (.int .i64 ((i : Nat) : Int)) (rfl) ?_
    refine nr ?_; intro U h; simp only [z0, z1] at h; subst h
    refine s_val 22 rfl rfl (.pointer (pA ao2 i)) (run_ixI (HR2) _ _ rfl rfl i rfl hil) ?_
    refine nr ?_; intro U h; simp only [z0, z1] at h; subst h
    refine s_val 23 rfl rfl (.agg (idA ((lin (kc s) s l).getD i 0))) (run_ldI (HR2) _ rfl i rfl hil) ?_
    refine nr ?_; intro U h; simp only [z0, z1] at h; subst h
    have hsz9 := hBw
    refine s_alloc 10 rfl rfl 23 rfl _ zero23 (idA 0) rfl ?_
    intro w4 g2 G eg2 kg2
    have bg2 := size_base GG eg2
    have dg1g2 := lt_new kg1 eg2
    have dHR2g2 := HR2.ne eg2
    have dHOg2 : ∀ ad, no = some ad → ad.block ≠ g2 := fun ad ha => by have := (HO.own.ge ad ha).2; omega
    replace hBw := Nat.le_trans hBw G.size
    replace kg1 := G.has kg1
    replace HR2 := HR2.gro G
    replace HO := HO.gro G
    replace GG := GG.trans G
    clear G
    clear eg2 hsz9
    refine nr ?_; intro U h; simp only [z0, z1] at h; subst h
    refine s_val 9 rfl rfl (.int .i64 ((i : Nat) : Int)) (rfl) ?_
    refine nr ?_; intro U h; simp only [z0, z1] at h; subst h
    refine s_store rfl rfl 23 _ _ rfl g2 0 rfl (.agg (idA ((lin (kc s) s l).getD i 0))) rfl 23 _ kg2 (idA ((lin (kc s) s l).getD i 0)) rfl (size23' _) (idA_fiti _ _) (idA_one _) (idA ((lin (kc s) s l).getD i 0)) (splice_whole _ _ (idA_szi _ _)) ?_
    intro w5 St
    replace kg1 := St.has (by omega) kg1
    replace HR2 := HR2.st St dHR2g2
    replace HO := HO.st St (fun ad ha _ => dHOg2 ad ha) (.inr dHOg2)
    replace hBw := Nat.le_trans hBw (Nat.le_of_eq St.size.symm)
    replace GG := GG.store St bg2
    replace kg2 := St.new
    clear St
    refine wpList_nil ?_
    refine then_n ?_
    refine wp_seq ?_
    refine wp_region_lit ?_
    refine s_val 24 rfl rfl (.slice ao2 ((lin (kc s) s l).length) cap2) (rfl) ?_
    refine nr ?_; intro U h; simp only [z0, z1] at h; subst h
    refine s_val 25 rfl rfl (.int .i64 (((lin (kc s) s l).length : Nat) : Int)) (run_len Try.underlying24 _ rfl _ _ _ rfl _) ?_
    refine nr ?_; intro U h; simp only [z0, z1] at h; subst h
    refine s_val 26 rfl rfl (.int .i64 ((((lin (kc s) s l).length : Nat) : Int) - 1)) (run_subIi 3 _ _ _ rfl (((lin (kc s) s l).length : Nat) : Int) 1 ((((lin (kc s) s l).length : Nat) : Int) - 1) rfl rfl (by omega) (by omega) (by omega) _) ?_
    refine nr ?_; intro U h; simp only [z0, z1] at h; subst h
    refine s_val 27 rfl rfl (.int .i64 ((i : Nat) : Int)) (rfl) ?_
    refine nr ?_; intro U h; simp only [z0, z1] at h; subst h
    refine s_val 28 rfl rfl (.int .i64 ((((lin (kc s) s l).length : Nat) : Int) - 1 - ((i : Nat) : Int))) (run_subIi 3 _ _ _ rfl ((((lin (kc s) s l).length : Nat) : Int) - 1) ((i : Nat) : Int) ((((lin (kc s) s l).length : Nat) : Int) - 1 - ((i : Nat) : Int)) rfl rfl (by omega) (by omega) (by omega) _) ?_
    refine nr ?_; intro U h; simp only [z0, z1] at h; subst h
    refine s_val 11 rfl rfl (.int .i64 ((((lin (kc s) s l).length : Nat) : Int) - 1 - ((i : Nat) : Int))) (rfl) ?_
    refine nr ?_; intro U h; simp only [z0, z1] at h; subst h
    refine wpList_nil ?_
    refine then_n ?_
    refine wp_seq ?_
    refine wp_region_lit ?_
    refine s_val 29 rfl rfl (.int .i64 ((i : Nat) : Int)) (rfl) ?_
    refine nr ?_; intro U h; simp only [z0, z1] at h; subst h
    refine s_val 30 rfl rfl (.int .i64 ((((lin (kc s) s l).length : Nat) : Int) - 1 - ((i : Nat) : Int))) (rfl) ?_
    refine nr ?_; intro U h; simp only [z0, z1] at h; subst h
    refine s_val 31 rfl rfl (.int .i64 (min ((i : Nat) : Int) ((((lin (kc s) s l).length : Nat) : Int) - 1 - ((i : Nat) : Int)))) (run_minIi _ _ _ rfl _ _ rfl rfl _) ?_
    refine nr ?_; intro U h; simp only [z0, z1] at h; subst h
    refine s_val 32 rfl rfl (.int .i64 half) (rfl) ?_
    refine nr ?_; intro U h; simp only [z0, z1] at h; subst h
    cases hc : decide ((min ((i : Nat) : Int) ((((lin (kc s) s l).length : Nat) : Int) - 1 - ((i : Nat) : Int))) < half)
    · refine s_val 33 rfl rfl (.bool false) (run_lssT 3 _ _ _ rfl (min ((i : Nat) : Int) ((((lin (kc s) s l).length : Nat) : Int) - 1 - ((i : Nat) : Int))) half rfl rfl false hc _) ?_
      refine nr ?_; intro U h; simp only [z0, z1] at h; subst h
      refine wpList_nil ?_
      refine then_n ?_
      refine wp_cond_false rfl ?_
      refine wp_skip ?_
      refine blk_n ?_
      refine then_n ?_
      refine wp_region_lit ?_
      refine s_val 38 rfl rfl (.int .i64 ((i + 1 : Nat) : Int)) (run_addIi 3 _ _ _ rfl ((i : Nat) : Int) 1 ((i + 1 : Nat) : Int) rfl rfl (by omega) (by omega) (by omega) _) ?_
      refine nr ?_; intro U h; simp only [z0, z1] at h; subst h
      refine s_val 19 rfl rfl (.int .i64 ((i + 1 : Nat) : Int)) (rfl) ?_
      refine nr ?_; intro U h; simp only [z0, z1] at h; subst h
      refine wpList_nil ?_
      refine then_n ?_
      have hn : nearK (lin (kc s) s l) half (i + 1) = nearK (lin (kc s) s l) half i := by rw [nearK, if_neg (of_decide_eq_false hc), List.append_nil]
      exact ⟨_, (by omega : (lin (kc s) s l).length - (i + 1) < (lin (kc s) s l).length - i), i + 1, no, nc, (fun kz => ([.int .i64 ((i : Nat) : Int), .pointer (some ⟨g2, 0, none⟩), .int .i64 ((((lin (kc s) s l).length : Nat) : Int) - 1 - ((i : Nat) : Int)), .bool true, .int .i64 ((i : Nat) : Int), .pointer (pA ao2 i), .agg (idA ((lin (kc s) s l).getD i 0)), .slice ao2 ((lin (kc s) s l).length) cap2, .int .i64 (((lin (kc s) s l).length : Nat) : Int), .int .i64 ((((lin (kc s) s l).length : Nat) : Int) - 1), .int .i64 ((i : Nat) : Int), .int .i64 ((((lin (kc s) s l).length : Nat) : Int) - 1 - ((i : Nat) : Int)), .int .i64 ((i : Nat) : Int), .int .i64 ((((lin (kc s) s l).length : Nat) : Int) - 1 - ((i : Nat) : Int)), .int .i64 (min ((i : Nat) : Int) ((((lin (kc s) s l).length : Nat) : Int) - 1 - ((i : Nat) : Int))), .int .i64 half, .bool false, us1 17, us1 18, us1 19, us1 20, .int .i64 ((i + 1 : Nat) : Int)] : List Value).getD kz undef), rfl, (by rw [hn]; first | done | rfl), hil, GG, kg1, HR2, (by rw [hn]; exact HO), (Nat.le_trans hBw (Nat.le_refl _))⟩
    · refine s_val 33 rfl rfl (.bool true) (run_lssT 3 _ _ _ rfl (min ((i : Nat) : Int) ((((lin (kc s) s l).length : Nat) : Int) - 1 - ((i : Nat) : Int))) half rfl rfl true hc _) ?_
      refine nr ?_; intro U h; simp only [z0, z1] at h; subst h
      refine wpList_nil ?_
      refine then_n ?_
      refine wp_cond_true rfl ?_
      refine wp_region_lit ?_
      refine s_val 34 rfl rfl (.slice no ((nearK (lin (kc s) s l) half i).length) nc) (rfl) ?_
      refine nr ?_; intro U h; simp only [z0, z1] at h; subst h
      refine s_val 35 rfl rfl (.agg (idA ((lin (kc s) s l).getD i 0))) (run_ldB _ rfl g2 _ rfl (kg2)) ?_
      refine nr ?_; intro U h; simp only [z0, z1] at h; subst h
      refine s_bsl 36 rfl rfl 24 1 _ rfl [(0, .agg (idA ((lin (kc s) s l).getD i 0)))] rfl (fl [((lin (kc s) s l).getD i 0)]).toArray 23 (bs1i ((lin (kc s) s l).getD i 0) _) ?_
      intro w6 q9 G eq9 kq9
      replace hBw := Nat.le_trans hBw G.size
      replace kg1 := G.has kg1
      replace kg2 := G.has kg2
      replace HR2 := HR2.gro G
      replace HO := HO.gro G
      replace GG := GG.trans G
      clear G
      have HQ : RC _ (some ⟨q9, 0, none⟩) 1 [((lin (kc s) s l).getD i 0)] := RC.all_blk kq9 (all_of [((lin (kc s) s l).getD i 0)] ⟨(HR2.at hil), trivial⟩) (Nat.le_refl _)
      clear eq9
      refine nr ?_; intro U h; simp only [z0, z1] at h; subst h
      refine s_appI 37 rfl rfl _ _ rfl rfl HO rfl HQ (by have : [((lin (kc s) s l).getD i 0)].length = 1 := rfl; omega) hBw ?_
      intro ao9 cap9 w7 HO9 HB
      have hB9 := Nat.le_trans hBw HB.size
      replace kg1 := (HB.block g1 hgB).trans kg1
      replace HR2 := HR2.below HB hmB
      replace GG := below_gro GG HB hwB
      clear HB
      refine nr ?_; intro U h; simp only [z0, z1] at h; subst h
      refine s_val 8 rfl rfl (.slice ao9 (((nearK (lin (kc s) s l) half i) ++ [((lin (kc s) s l).getD i 0)]).length) cap9) (rfl) ?_
      refine nr ?_; intro U h; simp only [z0, z1] at h; subst h
      refine wpList_nil ?_
      refine blk_n ?_
      refine then_n ?_
      refine wp_region_lit ?_
      refine s_val 38 rfl rfl (.int .i64 ((i + 1 : Nat) : Int)) (run_addIi 3 _ _ _ rfl ((i : Nat) : Int) 1 ((i + 1 : Nat) : Int) rfl rfl (by omega) (by omega) (by omega) _) ?_
      refine nr ?_; intro U h; simp only [z0, z1] at h; subst h
      refine s_val 19 rfl rfl (.int .i64 ((i + 1 : Nat) : Int)) (rfl) ?_
      refine nr ?_; intro U h; simp only [z0, z1] at h; subst h
      refine wpList_nil ?_
      refine then_n ?_
      have hn : nearK (lin (kc s) s l) half (i + 1) = nearK (lin (kc s) s l) half i ++ [(lin (kc s) s l).getD i 0] := by rw [nearK, if_pos (of_decide_eq_true hc)]
      exact ⟨_, (by omega : (lin (kc s) s l).length - (i + 1) < (lin (kc s) s l).length - i), i + 1, ao9, cap9, (fun kz => ([.int .i64 ((i : Nat) : Int), .pointer (some ⟨g2, 0, none⟩), .int .i64 ((((lin (kc s) s l).length : Nat) : Int) - 1 - ((i : Nat) : Int)), .bool true, .int .i64 ((i : Nat) : Int), .pointer (pA ao2 i), .agg (idA ((lin (kc s) s l).getD i 0)), .slice ao2 ((lin (kc s) s l).length) cap2, .int .i64 (((lin (kc s) s l).length : Nat) : Int), .int .i64 ((((lin (kc s) s l).length : Nat) : Int) - 1), .int .i64 ((i : Nat) : Int), .int .i64 ((((lin (kc s) s l).length : Nat) : Int) - 1 - ((i : Nat) : Int)), .int .i64 ((i : Nat) : Int), .int .i64 ((((lin (kc s) s l).length : Nat) : Int) - 1 - ((i : Nat) : Int)), .int .i64 (min ((i : Nat) : Int) ((((lin (kc s) s l).length : Nat) : Int) - 1 - ((i : Nat) : Int))), .int .i64 half, .bool true, .slice no ((nearK (lin (kc s) s l) half i).length) nc, .agg (idA ((lin (kc s) s l).getD i 0)), .slice (some ⟨q9, 0, none⟩) 1 1, .slice ao9 (((nearK (lin (kc s) s l) half i) ++ [((lin (kc s) s l).getD i 0)]).length) cap9, .int .i64 ((i + 1 : Nat) : Int)] : List Value).getD kz undef), rfl, (by rw [hn]; first | done | rfl), hil, GG, kg1, HR2, (by rw [hn]; exact HO9), hB9⟩
end Go.Proofs.Ytfabgonoonanfaa
