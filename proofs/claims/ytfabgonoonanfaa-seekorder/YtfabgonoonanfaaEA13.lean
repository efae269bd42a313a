/- The law that in whichever order candidates come the same identities are asked for. -/
import Derived.Test.YtfabgonoonanfaaEA10
namespace Go.Proofs.Ytfabgonoonanfaa
open Go.RowKit
theorem ask_back {s : Nat} {fr : List Nat} {l : List Cd} {half : Int} (hf : All fr) (hl : ∀ c ∈ l, c.ok) : (askC s fr l.reverse half).length = (askC s fr l half).length ∧ ∀ i, i < (askC s fr l half).length → ((askC s fr l half).getD i zC).id = ((askC s fr l.reverse half).getD i zC).id ∧ ((askC s fr l half).getD i zC).leg = ((askC s fr l.reverse half).getD i zC).leg := by
  have hm : ∀ c, c ∈ l ↔ c ∈ l.reverse := fun c => List.mem_reverse.symm
  have e := askI_perm (s := s) (half := half) hf hl hm
  have h1 : (askC s fr l.reverse half).length = (askC s fr l half).length := by unfold askC; rw [List.length_map, List.length_map, e]
  refine ⟨h1, fun i hi => ?_⟩
  have hI : i < (askI s fr l half).length := by unfold askC at hi; rwa [List.length_map] at hi
  have ha : (askC s fr l half).getD i zC = (bstC ((askI s fr l half).getD i 0) l).getD zC := by
    unfold askC
    rw [List.getD_eq_getElem?_getD, List.getElem?_map, List.getD_eq_getElem?_getD, List.getElem?_eq_getElem hI]
    rfl
  have hb : (askC s fr l.reverse half).getD i zC = (bstC ((askI s fr l half).getD i 0) l.reverse).getD zC := by
    unfold askC
    rw [e, List.getD_eq_getElem?_getD, List.getElem?_map, List.getD_eq_getElem?_getD, List.getElem?_eq_getElem hI]
    rfl
  have := bstC_perm (l := l) (m := l.reverse) hm (x := (askI s fr l half).getD i 0) (askI_mem hf hl (getD_in 0 hI)).2.2.2
  rw [ha, hb]
  exact ⟨this.1.symm, this.2.symm⟩
theorem back_step {l : List Cd} {k : Nat} (h0 : 0 < k) (hk : k ≤ l.length) : (l.drop k).reverse ++ [l.getD (k - 1) zC] = (l.drop (k - 1)).reverse := by
  have hg : l.getD (k - 1) zC = l[k - 1] := by simp [List.getD_eq_getElem?_getD, show k - 1 < l.length by omega]
  rw [List.drop_eq_getElem_cons (show k - 1 < l.length by omega), List.reverse_cons, hg, show k - 1 + 1 = k by omega]
set_option maxRecDepth 100000 in
set_option maxHeartbeats 4000000 in
theorem seekOrder_any (w : World) (s : Nat) (hs : s < top) (fo : Option Addr) (fc : Nat) (fr : List Nat) (HF : RK kI w fo fc fr) (ao : Option Addr) (cap : Nat) (l : List Cd) (HC : RK kC w ao cap l) (half : Int) : Calls Try.prog 6 #[.agg (knA s fo fr.length fc ao l.length cap half)] w (fun e w' => e = .returned (.bool true) ∧ Gro w w') := by
  refine s_enter Try.func6 rfl Try.ntmps6 [.agg (knA s fo fr.length fc ao l.length cap half)] [.agg (knA s fo fr.length fc ao l.length cap half), undef, undef, undef, undef, undef, undef, undef, undef, undef, undef, undef, undef, undef, undef, undef, undef, undef, undef, undef, undef, undef, undef, undef, undef, undef, undef, undef, undef, undef, undef, undef, undef, undef, undef, undef, undef, undef, undef, undef, undef, undef, undef, undef, undef, undef, undef, undef, undef, undef, undef, undef, undef, undef, undef, undef, undef, undef, undef, undef, undef, undef, undef, undef, undef, undef, undef, undef, undef, undef, undef, undef, undef, undef, undef, undef, undef, undef, undef, undef] rfl ?_
  have GG := Gro.refl w
  have HF3 := HF.take 30
  have HC4 := HC.take 40
  have hf3 : (fr.take 30).length ≤ 30 := by rw [List.length_take]; omega
  have hl4 : (l.take 40).length ≤ 40 := by rw [List.length_take]; omega
  have hal := @askC_len s (fr.take 30) (l.take 40) half
  refine wp_seq ?_
  refine wp_region_lit ?_
  refine s_box 1 rfl rfl 27 _ rfl _ rfl (knA s fo fr.length fc ao l.length cap half) rfl ?_
  intro w1 g1 G eg1 kg1
  have bg1 := size_base GG eg1
  replace GG := GG.trans G
  clear G
  clear eg1
  refine nr ?_; intro U h; simp only [z0, z1] at h; subst h
  refine s_val 2 rfl rfl (.bool false) (rfl) ?_
  refine nr ?_; intro U h; simp only [z0, z1] at h; subst h
  refine wpList_nil ?_
  refine then_n ?_
  refine wp_seq ?_
  refine wp_region_exA (A := ?Ax2) 5 [(0, 10), (1, 11), (2, 12), (3, 13), (4, 14)] [.val (.pointer (some ⟨g1, 16, none⟩)), .val (.slice fo fr.length fc), .val (.slice fo (fr.take 30).length (fr.take 30).length), .val (.pointer (some ⟨g1, 17, none⟩)), .val (.slice ao l.length cap)] follows (by kernel_rfl) rfl ?hAx2 (opsA_cons ?o0x2 (opsA_cons ?o1x2 (opsA_cons ?o2x2 (opsA_cons ?o3x2 (opsA_cons ?o4x2 opsA_nil))))) ?restx2
  case hAx2 =>
    intro ptrs
    simp only [full, foldSlots, filledE, postE, List.foldl_cons, List.foldl_nil, List.getD_cons_zero, List.getD_cons_succ, fill_val, List.set_cons_zero, List.set_cons_succ]
    exact rfl
  case o0x2 => exact fun _ _ _ _ => opE_value (v := .pointer (some ⟨g1, 16, none⟩)) rfl (run_fld 27 _ 1 rfl g1 0 rfl 16 (by kernel_rfl))
  case o1x2 => exact fun _ _ hw _ => opE_value (v := .slice fo fr.length fc) rfl (ldK16 _ rfl g1 rfl (hw.has kg1))
  case o2x2 =>
    intro ptrs w' hw hE
    exact opE_call (.val (.slice fo (fr.take 30).length (fr.take 30).length)) rfl _ 7 Try.call7 rfl rfl _ rfl [.slice fo fr.length fc, .int .i64 30] rfl ((cutI_any _ fo fc fr (HF.gro (GG.drew.trans hw)) 30).mono fun e w' ⟨he, hg⟩ => ⟨_, he, hg, rfl⟩)
  case o3x2 => exact fun _ _ _ _ => opE_value (v := .pointer (some ⟨g1, 17, none⟩)) rfl (run_fld 27 _ 2 rfl g1 0 rfl 17 (by kernel_rfl))
  case o4x2 => exact fun _ _ hw _ => opE_value (v := .slice ao l.length cap) rfl (ldK17 _ rfl g1 rfl (hw.has kg1))
  intro ptrs w2 GD hxE
  simp only [List.drop_succ_cons, List.drop_zero]
  replace kg1 := GD.has kg1
  replace GG := GG.drew.trans GD
  clear GD
  refine s_callv 15 rfl rfl _ 8 Try.call8 rfl rfl _ rfl [.slice ao l.length cap, .int .i64 40] rfl (cutC_any _ ao cap l (HC.gro GG) 40) ?_
  intro w3 G
  replace kg1 := G.has kg1
  replace GG := GG.trans G
  clear G
  refine nr ?_; intro U h; simp only [z0, z1] at h; subst h
  refine s_val 3 rfl rfl (.slice fo (fr.take 30).length (fr.take 30).length) (rfl) ?_
  refine nr ?_; intro U h; simp only [z0, z1] at h; subst h
  refine s_val 4 rfl rfl (.slice ao (l.take 40).length (l.take 40).length) (rfl) ?_
  refine nr ?_; intro U h; simp only [z0, z1] at h; subst h
  refine wpList_nil ?_
  refine then_n ?_
  refine wp_seq ?_
  refine wp_region_lit ?_
  refine s_val 5 rfl rfl (.slice none 0 0) (rfl) ?_
  refine nr ?_; intro U h; simp only [z0, z1] at h; subst h
  refine wpList_nil ?_
  refine then_n ?_
  refine wp_seq ?_
  refine wp_seq ?_
  refine wp_region_lit ?_
  refine s_val 16 rfl rfl (.slice ao (l.take 40).length (l.take 40).length) (rfl) ?_
  refine nr ?_; intro U h; simp only [z0, z1] at h; subst h
  refine s_val 17 rfl rfl (.int .i64 (((l.take 40).length : Nat) : Int)) (run_len Try.underlying25 _ rfl _ _ _ rfl _) ?_
  refine nr ?_; intro U h; simp only [z0, z1] at h; subst h
  refine s_val 18 rfl rfl (.int .i64 ((((l.take 40).length : Nat) : Int) - 1)) (run_subI 3 _ _ _ rfl (((l.take 40).length : Nat) : Int) 1 ((((l.take 40).length : Nat) : Int) - 1) rfl rfl (by omega) (by omega) (by omega) _) ?_
  refine nr ?_; intro U h; simp only [z0, z1] at h; subst h
  refine s_val 6 rfl rfl (.int .i64 ((((l.take 40).length : Nat) : Int) - 1)) (rfl) ?_
  refine nr ?_; intro U h; simp only [z0, z1] at h; subst h
  refine wpList_nil ?_
  refine then_n ?_
  refine wp_block ?_
  refine wp_loopN (fun mz az wv => ∃ (k : Nat) (m : Nat) (no : Option Addr) (nc : Nat) (us1 : Nat → Value), mz = k + 1 ∧ az = ⟨[.agg (knA s fo fr.length fc ao l.length cap half), .pointer (some ⟨g1, 0, none⟩), .bool false, .slice fo (fr.take 30).length (fr.take 30).length, .slice ao (l.take 40).length (l.take 40).length, .slice no m nc, .int .i64 (((k : Nat) : Int) - 1), undef, undef, undef, .pointer (some ⟨g1, 16, none⟩), .slice fo fr.length fc, .slice fo (fr.take 30).length (fr.take 30).length, .pointer (some ⟨g1, 17, none⟩), .slice ao l.length cap, .slice ao (l.take 40).length (l.take 40).length, .slice ao (l.take 40).length (l.take 40).length, .int .i64 (((l.take 40).length : Nat) : Int), .int .i64 ((((l.take 40).length : Nat) : Int) - 1), us1 0, us1 1, us1 2, us1 3, us1 4, us1 5, us1 6, us1 7, us1 8, us1 9, us1 10, undef, undef, undef, undef, undef, undef, undef, undef, undef, undef, undef, undef, undef, undef, undef, undef, undef, undef, undef, undef, undef, undef, undef, undef, undef, undef, undef, undef, undef, undef, undef, undef, undef, undef, undef, undef, undef, undef, undef, undef, undef, undef, undef, undef, undef, undef, undef, undef, undef, undef].toArray, []⟩ ∧ k ≤ (l.take 40).length ∧ m + k = (l.take 40).length ∧ Gro w wv ∧ wv.heap[g1]? = some (.cells (knA s fo fr.length fc ao l.length cap half) 27 (0, 0)) ∧ OW kC 33 wv w.heap.size no nc (((l.take 40).drop k).reverse)) ?_ _ ⟨(l.take 40).length, 0, none, 0, (fun kz => ([undef, undef, undef, undef, undef, undef, undef, undef, undef, undef, undef] : List Value).getD kz undef), rfl, rfl, Nat.le_refl _, by omega, GG, kg1, by rw [List.drop_length]; exact OW.nil _ _⟩
  clear GG kg1
  rintro mz az wv ⟨k, m, no, nc, us1, rfl, rfl, hk, hmk, GG, kg1, HO⟩
  refine wp_seq ?_
  refine wp_seq ?_
  refine wp_region_lit ?_
  refine s_val 19 rfl rfl (.int .i64 (((k : Nat) : Int) - 1)) (rfl) ?_
  refine nr ?_; intro U h; simp only [z0, z1] at h; subst h
  cases hk1 : decide ((0 : Int) ≤ (((k : Nat) : Int) - 1))
  · have hk0 : k = 0 := by have := of_decide_eq_false hk1; omega
    refine s_val 20 rfl rfl (.bool false) (run_geqT 3 _ _ _ rfl (((k : Nat) : Int) - 1) 0 rfl rfl false hk1 _) ?_
    refine nr ?_; intro U h; simp only [z0, z1] at h; subst h
    refine wpList_nil ?_
    refine then_n ?_
    refine wp_cond_false rfl ?_
    refine wp_exit ?_
    refine then_x ?_
    refine then_x ?_
    refine blk_x ?_
    refine then_n ?_
    refine wp_seq ?_
    rw [hk0, List.drop_zero] at HO
    have hbk := @ask_back s (fr.take 30) (l.take 40) half HF3.all HC4.all
    have hrl : (l.take 40).reverse.length = m := by rw [List.length_reverse]; omega
    refine wp_region_exA (A := ?Ax3) 13 [(0, 30), (1, 31), (2, 32), (3, 33), (4, 34), (5, 35), (6, 36), (7, 37), (8, 38), (9, 39), (10, 40), (11, 41), (12, 42)] [.val (.pointer (some ⟨g1, 0, none⟩)), .val (.agg (idA s)), .val (.slice fo (fr.take 30).length (fr.take 30).length), .val (.slice ao (l.take 40).length (l.take 40).length), .val (.pointer (some ⟨g1, 18, none⟩)), .val (.int .i64 half), rowK kC (askC s (fr.take 30) (l.take 40) half), .val (.pointer (some ⟨g1, 0, none⟩)), .val (.agg (idA s)), .val (.slice fo (fr.take 30).length (fr.take 30).length), .val (.slice no m nc), .val (.pointer (some ⟨g1, 18, none⟩)), .val (.int .i64 half)] follows (by kernel_rfl) rfl ?hAx3 (opsA_cons ?o0x3 (opsA_cons ?o1x3 (opsA_cons ?o2x3 (opsA_cons ?o3x3 (opsA_cons ?o4x3 (opsA_cons ?o5x3 (opsA_cons ?o6x3 (opsA_cons ?o7x3 (opsA_cons ?o8x3 (opsA_cons ?o9x3 (opsA_cons ?o10x3 (opsA_cons ?o11x3 (opsA_cons ?o12x3 opsA_nil))))))))))))) ?restx3
    case hAx3 =>
      intro ptrs
      simp only [full, foldSlots, filledE, postE, List.foldl_cons, List.foldl_nil, List.getD_cons_zero, List.getD_cons_succ, fill_val, fill_rowK, List.set_cons_zero, List.set_cons_succ]
      exact rfl
    case o0x3 => exact fun _ _ _ _ => opE_value (v := .pointer (some ⟨g1, 0, none⟩)) rfl (run_fld 27 _ 0 rfl g1 0 rfl 0 (by kernel_rfl))
    case o1x3 => exact fun _ _ hw _ => opE_value (v := .agg (idA s)) rfl (ldK0 _ rfl g1 rfl (hw.has kg1))
    case o2x3 => exact fun _ _ _ _ => opE_move (v := .slice fo (fr.take 30).length (fr.take 30).length) _ rfl rfl rfl
    case o3x3 => exact fun _ _ _ _ => opE_move (v := .slice ao (l.take 40).length (l.take 40).length) _ rfl rfl rfl
    case o4x3 => exact fun _ _ _ _ => opE_value (v := .pointer (some ⟨g1, 18, none⟩)) rfl (run_fld 27 _ 3 rfl g1 0 rfl 18 (by kernel_rfl))
    case o5x3 => exact fun _ _ hw _ => opE_value (v := .int .i64 half) rfl (ldK18 _ rfl g1 rfl (hw.has kg1))
    case o6x3 =>
      intro ptrs w' hw hE
      exact opE_call (rowK kC (askC s (fr.take 30) (l.take 40) half)) rfl _ 11 Try.call11 rfl rfl _ rfl [.agg (idA s), .slice fo (fr.take 30).length (fr.take 30).length, .slice ao (l.take 40).length (l.take 40).length, .int .i64 half] rfl ((asks_any _ s hs half fo _ (fr.take 30) (HF3.gro (GG.drew.trans hw)) (by omega) ao _ (l.take 40) (HC4.gro (GG.drew.trans hw)) (by omega)).mono fun e w' ⟨ao, cap, he, hg, hr⟩ => ⟨_, he, hg, ao, cap, rfl, hr.re⟩)
    case o7x3 => exact fun _ _ _ _ => opE_value (v := .pointer (some ⟨g1, 0, none⟩)) rfl (run_fld 27 _ 0 rfl g1 0 rfl 0 (by kernel_rfl))
    case o8x3 => exact fun _ _ hw _ => opE_value (v := .agg (idA s)) rfl (ldK0 _ rfl g1 rfl (hw.has kg1))
    case o9x3 => exact fun _ _ _ _ => opE_move (v := .slice fo (fr.take 30).length (fr.take 30).length) _ rfl rfl rfl
    case o10x3 => exact fun _ _ _ _ => opE_move (v := .slice no m nc) _ rfl rfl rfl
    case o11x3 => exact fun _ _ _ _ => opE_value (v := .pointer (some ⟨g1, 18, none⟩)) rfl (run_fld 27 _ 3 rfl g1 0 rfl 18 (by kernel_rfl))
    case o12x3 => exact fun _ _ hw _ => opE_value (v := .int .i64 half) rfl (ldK18 _ rfl g1 rfl (hw.has kg1))
    intro ptrs w4 GD hxE
    simp only [List.drop_succ_cons, List.drop_zero]
    replace kg1 := GD.has kg1
    replace HO := HO.gro ((Gro.refl _).drew.trans GD)
    replace GG := GG.drew.trans GD
    obtain ⟨⟨ao1, cap1, hx1, HR1⟩, _⟩ := hxE
    simp only [hx1]
    clear hx1
    clear GD
    refine s_callx 43 rfl rfl _ 11 Try.call11 rfl rfl _ rfl [.agg (idA s), .slice fo (fr.take 30).length (fr.take 30).length, .slice no m nc, .int .i64 half] rfl (by have h_ := asks_any _ s hs half fo _ (fr.take 30) (HF3.gro GG) (by omega) no nc (l.take 40).reverse HO.re (by rw [hrl]; omega); rw [hrl] at h_; exact h_) (by rintro _ _ ⟨_, _, he, _⟩; exact ⟨_, he⟩) ?_
    rintro v w5 ⟨yo, yc, he, G, HB⟩
    cases he
    clear HO
    replace kg1 := G.has kg1
    replace HR1 := HR1.gro G
    replace GG := GG.trans G
    clear G
    replace HB := HB.re
    refine nr ?_; intro U h; simp only [z0, z1] at h; subst h
    refine s_val 7 rfl rfl (.slice ao1 (askC s (fr.take 30) (l.take 40) half).length cap1) (rfl) ?_
    refine nr ?_; intro U h; simp only [z0, z1] at h; subst h
    refine s_val 8 rfl rfl (.slice yo (askC s (fr.take 30) (l.take 40).reverse half).length yc) (rfl) ?_
    refine nr ?_; intro U h; simp only [z0, z1] at h; subst h
    refine wpList_nil ?_
    refine then_n ?_
    refine wp_seq ?_
    refine wp_seq ?_
    have hle : decide ((((askC s (fr.take 30) (l.take 40) half).length : Nat) : Int) = (((askC s (fr.take 30) (l.take 40).reverse half).length : Nat) : Int)) = true := decide_eq_true (by rw [hbk.1])
    refine wp_region_lit ?_
    refine s_val 44 rfl rfl (.slice ao1 (askC s (fr.take 30) (l.take 40) half).length cap1) (rfl) ?_
    refine nr ?_; intro U h; simp only [z0, z1] at h; subst h
    refine s_val 45 rfl rfl (.int .i64 (((askC s (fr.take 30) (l.take 40) half).length : Nat) : Int)) (run_len Try.underlying25 _ rfl _ _ _ rfl _) ?_
    refine nr ?_; intro U h; simp only [z0, z1] at h; subst h
    refine s_val 46 rfl rfl (.slice yo (askC s (fr.take 30) (l.take 40).reverse half).length yc) (rfl) ?_
    refine nr ?_; intro U h; simp only [z0, z1] at h; subst h
    refine s_val 47 rfl rfl (.int .i64 (((askC s (fr.take 30) (l.take 40).reverse half).length : Nat) : Int)) (run_len Try.underlying25 _ rfl _ _ _ rfl _) ?_
    refine nr ?_; intro U h; simp only [z0, z1] at h; subst h
    refine s_val 48 rfl rfl (.bool false) (run_neq_k 3 .i64 _ _ _ rfl Try.underlying3 (((askC s (fr.take 30) (l.take 40) half).length : Nat) : Int) (((askC s (fr.take 30) (l.take 40).reverse half).length : Nat) : Int) rfl rfl false hle _) ?_
    refine nr ?_; intro U h; simp only [z0, z1] at h; subst h
    refine wpList_nil ?_
    refine then_n ?_
    refine wp_cond_false rfl ?_
    refine wp_skip ?_
    refine then_n ?_
    refine wp_seq ?_
    refine wp_seq ?_
    refine wp_region_lit ?_
    refine s_val 49 rfl rfl (.slice ao1 (askC s (fr.take 30) (l.take 40) half).length cap1) (rfl) ?_
    refine nr ?_; intro U h; simp only [z0, z1] at h; subst h
    refine s_val 50 rfl rfl (.int .i64 (((askC s (fr.take 30) (l.take 40) half).length : Nat) : Int)) (run_len Try.underlying25 _ rfl _ _ _ rfl _) ?_
    refine nr ?_; intro U h; simp only [z0, z1] at h; subst h
    refine s_val 51 rfl rfl (.int .i64 0) (rfl) ?_
    refine nr ?_; intro U h; simp only [z0, z1] at h; subst h
    refine wpList_nil ?_
    refine then_n ?_
    refine wp_block ?_
    refine wp_loopN (fun mz az wv => ∃ (i : Nat) (us2 : Nat → Value), mz = (askC s (fr.take 30) (l.take 40) half).length + 1 - i ∧ az = ⟨[.agg (knA s fo fr.length fc ao l.length cap half), .pointer (some ⟨g1, 0, none⟩), us2 0, .slice fo (fr.take 30).length (fr.take 30).length, .slice ao (l.take 40).length (l.take 40).length, .slice no m nc, .int .i64 (((k : Nat) : Int) - 1), .slice ao1 (askC s (fr.take 30) (l.take 40) half).length cap1, .slice yo (askC s (fr.take 30) (l.take 40).reverse half).length yc, us2 1, .pointer (some ⟨g1, 16, none⟩), .slice fo fr.length fc, .slice fo (fr.take 30).length (fr.take 30).length, .pointer (some ⟨g1, 17, none⟩), .slice ao l.length cap, .slice ao (l.take 40).length (l.take 40).length, .slice ao (l.take 40).length (l.take 40).length, .int .i64 (((l.take 40).length : Nat) : Int), .int .i64 ((((l.take 40).length : Nat) : Int) - 1), .int .i64 (((k : Nat) : Int) - 1), .bool false, us1 2, us1 3, us1 4, us1 5, us1 6, us1 7, us1 8, us1 9, us1 10, .pointer (some ⟨g1, 0, none⟩), .agg (idA s), .slice fo (fr.take 30).length (fr.take 30).length, .slice ao (l.take 40).length (l.take 40).length, .pointer (some ⟨g1, 18, none⟩), .int .i64 half, .slice ao1 (askC s (fr.take 30) (l.take 40) half).length cap1, .pointer (some ⟨g1, 0, none⟩), .agg (idA s), .slice fo (fr.take 30).length (fr.take 30).length, .slice no m nc, .pointer (some ⟨g1, 18, none⟩), .int .i64 half, .slice yo (askC s (fr.take 30) (l.take 40).reverse half).length yc, .slice ao1 (askC s (fr.take 30) (l.take 40) half).length cap1, .int .i64 (((askC s (fr.take 30) (l.take 40) half).length : Nat) : Int), .slice yo (askC s (fr.take 30) (l.take 40).reverse half).length yc, .int .i64 (((askC s (fr.take 30) (l.take 40).reverse half).length : Nat) : Int), .bool false, .slice ao1 (askC s (fr.take 30) (l.take 40) half).length cap1, .int .i64 (((askC s (fr.take 30) (l.take 40) half).length : Nat) : Int), .int .i64 ((i : Nat) : Int), us2 2, us2 3, us2 4, us2 5, us2 6, us2 7, us2 8, us2 9, us2 10, us2 11, us2 12, us2 13, us2 14, us2 15, us2 16, us2 17, us2 18, us2 19, us2 20, us2 21, us2 22, us2 23, us2 24, us2 25, us2 26, us2 27, us2 28, undef].toArray, []⟩ ∧ i ≤ (askC s (fr.take 30) (l.take 40) half).length ∧ Gro w wv ∧ RK kC wv ao1 cap1 (askC s (fr.take 30) (l.take 40) half) ∧ RK kC wv yo yc (askC s (fr.take 30) (l.take 40).reverse half)) ?_ _ ⟨0, (fun kz => ([.bool false, undef, undef, undef, undef, undef, undef, undef, undef, undef, undef, undef, undef, undef, undef, undef, undef, undef, undef, undef, undef, undef, undef, undef, undef, undef, undef, undef, undef] : List Value).getD kz undef), rfl, rfl, Nat.zero_le _, GG, HR1, HB⟩
    clear GG HR1 HB
    rintro mz az wv ⟨i, us2, rfl, rfl, hi, GG, HR1, HB⟩
    refine wp_seq ?_
    refine wp_region_lit ?_
    cases hi1 : decide (((i : Nat) : Int) < (((askC s (fr.take 30) (l.take 40) half).length : Nat) : Int))
    · have hie : i = (askC s (fr.take 30) (l.take 40) half).length := by have := of_decide_eq_false hi1; omega
      refine s_val 52 rfl rfl (.bool false) (run_lssT 3 _ _ _ rfl ((i : Nat) : Int) (((askC s (fr.take 30) (l.take 40) half).length : Nat) : Int) rfl rfl false hi1 _) ?_
      refine nr ?_; intro U h; simp only [z0, z1] at h; subst h
      refine wpList_nil ?_
      refine then_n ?_
      refine wp_seq ?_
      refine wp_cond_false rfl ?_
      refine wp_exit ?_
      refine then_x ?_
      refine then_x ?_
      refine blk_x ?_
      refine then_n ?_
      refine wp_seq ?_
      refine wp_region_lit ?_
      refine s_callv 79 rfl rfl _ 14 Try.call14 rfl rfl _ rfl [] rfl (fixed_any _) ?_
      intro w6 G
      replace HR1 := HR1.gro G
      replace HB := HB.gro G
      replace GG := GG.trans G
      clear G
      refine nr ?_; intro U h; simp only [z0, z1] at h; subst h
      refine s_val 2 rfl rfl (.bool true) (rfl) ?_
      refine nr ?_; intro U h; simp only [z0, z1] at h; subst h
      refine wpList_nil ?_
      refine then_n ?_
      refine wp_ret ?_
      refine bodyPost_ret (results_tmp Try.results6 _ _ _) rfl ?_
      exact ⟨rfl, GG⟩
    · have hil : i < (askC s (fr.take 30) (l.take 40) half).length := by have := of_decide_eq_true hi1; omega
      refine s_val 52 rfl rfl (.bool true) (run_lssT 3 _ _ _ rfl ((i : Nat) : Int) (((askC s (fr.take 30) (l.take 40) half).length : Nat) : Int) rfl rfl true hi1 _) ?_
      refine nr ?_; intro U h; simp only [z0, z1] at h; subst h
      refine wpList_nil ?_
      refine then_n ?_
      refine wp_seq ?_
      refine wp_cond_true rfl ?_
      refine wp_skip ?_
      refine then_n ?_
      refine wp_seq ?_
      refine wp_block ?_
      refine wp_seq ?_
      refine wp_region_lit ?_
      refine s_val 53 rfl rfl (.int .i64 ((i : Nat) : Int)) (rfl) ?_
      refine nr ?_; intro U h; simp only [z0, z1] at h; subst h
      refine s_val 9 rfl rfl (.int .i64 ((i : Nat) : Int)) (rfl) ?_
      refine nr ?_; intro U h; simp only [z0, z1] at h; subst h
      refine wpList_nil ?_
      refine then_n ?_
      refine wp_seq ?_
      have hq1 : decide (((askC s (fr.take 30) (l.take 40) half).getD i zC).id = ((askC s (fr.take 30) (l.take 40).reverse half).getD i zC).id) = true := decide_eq_true (hbk.2 i hil).1
      have hq2 : decide (((askC s (fr.take 30) (l.take 40) half).getD i zC).leg = ((askC s (fr.take 30) (l.take 40).reverse half).getD i zC).leg) = true := decide_eq_true (hbk.2 i hil).2
      refine wp_region_exA (A := ?Ax4) 23 [(0, 54), (1, 55), (2, 56), (3, 57), (4, 58), (5, 59), (6, 60), (7, 61), (8, 62), (9, 63), (10, 64), (11, 65), (12, 66), (13, 67), (14, 68), (15, 69), (16, 70), (17, 71), (18, 72), (19, 73), (20, 74), (21, 75), (22, 76)] [.val (.slice ao1 (askC s (fr.take 30) (l.take 40) half).length cap1), .val (.int .i64 ((i : Nat) : Int)), .val (.pointer (pK kC ao1 i 0)), .val (.pointer (pK kC ao1 i 0)), .val (.agg (idA ((askC s (fr.take 30) (l.take 40) half).getD i zC).id)), .val (.slice yo (askC s (fr.take 30) (l.take 40).reverse half).length yc), .val (.int .i64 ((i : Nat) : Int)), .val (.pointer (pK kC yo i 0)), .val (.pointer (pK kC yo i 0)), .val (.agg (idA ((askC s (fr.take 30) (l.take 40).reverse half).getD i zC).id)), .val (.bool false), .val (.bool false), .val (.slice ao1 (askC s (fr.take 30) (l.take 40) half).length cap1), .val (.int .i64 ((i : Nat) : Int)), .val (.pointer (pK kC ao1 i 0)), .val (.pointer (pK kC ao1 i 16)), .val (.int .i64 ((askC s (fr.take 30) (l.take 40) half).getD i zC).leg), .val (.slice yo (askC s (fr.take 30) (l.take 40).reverse half).length yc), .val (.int .i64 ((i : Nat) : Int)), .val (.pointer (pK kC yo i 0)), .val (.pointer (pK kC yo i 16)), .val (.int .i64 ((askC s (fr.take 30) (l.take 40).reverse half).getD i zC).leg), .val (.bool false)] follows (by kernel_rfl) rfl ?hAx4 (opsA_cons ?o0x4 (opsA_cons ?o1x4 (opsA_cons ?o2x4 (opsA_cons ?o3x4 (opsA_cons ?o4x4 (opsA_cons ?o5x4 (opsA_cons ?o6x4 (opsA_cons ?o7x4 (opsA_cons ?o8x4 (opsA_cons ?o9x4 (opsA_cons ?o10x4 (opsA_cons ?o11x4 (opsA_cons ?o12x4 (opsA_cons ?o13x4 (opsA_cons ?o14x4 (opsA_cons ?o15x4 (opsA_cons ?o16x4 (opsA_cons ?o17x4 (opsA_cons ?o18x4 (opsA_cons ?o19x4 (opsA_cons ?o20x4 (opsA_cons ?o21x4 (opsA_cons ?o22x4 opsA_nil))))))))))))))))))))))) ?restx4
      case hAx4 =>
        intro ptrs
        simp only [full, foldSlots, filledE, postE, List.foldl_cons, List.foldl_nil, List.getD_cons_zero, List.getD_cons_succ, fill_val, List.set_cons_zero, List.set_cons_succ]
        exact rfl
      case o0x4 => exact fun _ _ _ _ => opE_move (v := .slice ao1 (askC s (fr.take 30) (l.take 40) half).length cap1) _ rfl rfl rfl
      case o1x4 => exact fun _ _ _ _ => opE_move (v := .int .i64 ((i : Nat) : Int)) _ rfl rfl rfl
      case o2x4 => exact fun _ _ hw _ => opE_value (v := .pointer (pK kC ao1 i 0)) rfl (run_ixK rC (HR1.gro ((Gro.refl _).drew.trans hw)) _ _ rfl rfl i rfl hil)
      case o3x4 => exact fun _ _ hw _ => opE_value (v := .pointer (pK kC ao1 i 0)) rfl (run_fdK (HR1.gro ((Gro.refl _).drew.trans hw)) 33 _ 0 0 (fdC_0 _) rfl i rfl hil)
      case o4x4 => exact fun _ _ hw _ => opE_value (v := .agg (idA ((askC s (fr.take 30) (l.take 40) half).getD i zC).id)) rfl (run_ldKCi (HR1.gro ((Gro.refl _).drew.trans hw)) _ rfl i rfl hil)
      case o5x4 => exact fun _ _ _ _ => opE_move (v := .slice yo (askC s (fr.take 30) (l.take 40).reverse half).length yc) _ rfl rfl rfl
      case o6x4 => exact fun _ _ _ _ => opE_move (v := .int .i64 ((i : Nat) : Int)) _ rfl rfl rfl
      case o7x4 => exact fun _ _ hw _ => opE_value (v := .pointer (pK kC yo i 0)) rfl (run_ixK rC (HB.gro ((Gro.refl _).drew.trans hw)) _ _ rfl rfl i rfl (by rw [hbk.1]; exact hil))
      case o8x4 => exact fun _ _ hw _ => opE_value (v := .pointer (pK kC yo i 0)) rfl (run_fdK (HB.gro ((Gro.refl _).drew.trans hw)) 33 _ 0 0 (fdC_0 _) rfl i rfl (by rw [hbk.1]; exact hil))
      case o9x4 => exact fun _ _ hw _ => opE_value (v := .agg (idA ((askC s (fr.take 30) (l.take 40).reverse half).getD i zC).id)) rfl (run_ldKCi (HB.gro ((Gro.refl _).drew.trans hw)) _ rfl i rfl (by rw [hbk.1]; exact hil))
      case o10x4 => exact fun _ _ _ _ => opE_value (v := .bool false) rfl (run_neI _ _ _ rfl _ _ rfl rfl (atC HR1 hil).id (atC HB (by rw [hbk.1]; exact hil)).id false hq1)
      case o11x4 => exact fun _ _ _ _ => opE_move (v := .bool false) _ rfl rfl rfl
      case o12x4 => exact fun _ _ _ _ => opE_move (v := .slice ao1 (askC s (fr.take 30) (l.take 40) half).length cap1) _ rfl rfl rfl
      case o13x4 => exact fun _ _ _ _ => opE_move (v := .int .i64 ((i : Nat) : Int)) _ rfl rfl rfl
      case o14x4 => exact fun _ _ hw _ => opE_value (v := .pointer (pK kC ao1 i 0)) rfl (run_ixK rC (HR1.gro ((Gro.refl _).drew.trans hw)) _ _ rfl rfl i rfl hil)
      case o15x4 => exact fun _ _ hw _ => opE_value (v := .pointer (pK kC ao1 i 16)) rfl (run_fdK (HR1.gro ((Gro.refl _).drew.trans hw)) 33 _ 1 16 (fdC_1 _) rfl i rfl hil)
      case o16x4 => exact fun _ _ hw _ => opE_value (v := .int .i64 ((askC s (fr.take 30) (l.take 40) half).getD i zC).leg) rfl (run_ldKCl (HR1.gro ((Gro.refl _).drew.trans hw)) _ rfl i rfl hil)
      case o17x4 => exact fun _ _ _ _ => opE_move (v := .slice yo (askC s (fr.take 30) (l.take 40).reverse half).length yc) _ rfl rfl rfl
      case o18x4 => exact fun _ _ _ _ => opE_move (v := .int .i64 ((i : Nat) : Int)) _ rfl rfl rfl
      case o19x4 => exact fun _ _ hw _ => opE_value (v := .pointer (pK kC yo i 0)) rfl (run_ixK rC (HB.gro ((Gro.refl _).drew.trans hw)) _ _ rfl rfl i rfl (by rw [hbk.1]; exact hil))
      case o20x4 => exact fun _ _ hw _ => opE_value (v := .pointer (pK kC yo i 16)) rfl (run_fdK (HB.gro ((Gro.refl _).drew.trans hw)) 33 _ 1 16 (fdC_1 _) rfl i rfl (by rw [hbk.1]; exact hil))
      case o21x4 => exact fun _ _ hw _ => opE_value (v := .int .i64 ((askC s (fr.take 30) (l.take 40).reverse half).getD i zC).leg) rfl (run_ldKCl (HB.gro ((Gro.refl _).drew.trans hw)) _ rfl i rfl (by rw [hbk.1]; exact hil))
      case o22x4 => exact fun _ _ _ _ => opE_value (v := .bool false) rfl (run_neq_k 3 .i64 _ _ _ rfl Try.underlying3 ((askC s (fr.take 30) (l.take 40) half).getD i zC).leg ((askC s (fr.take 30) (l.take 40).reverse half).getD i zC).leg rfl rfl false hq2 _)
      intro ptrs w6 GD hxE
      simp only [List.drop_succ_cons, List.drop_zero]
      replace HR1 := HR1.gro ((Gro.refl _).drew.trans GD)
      replace HB := HB.gro ((Gro.refl _).drew.trans GD)
      replace GG := GG.drew.trans GD
      clear GD
      refine s_val 77 rfl rfl (.bool false) (rfl) ?_
      refine nr ?_; intro U h; simp only [z0, z1] at h; subst h
      refine wpList_nil ?_
      refine then_n ?_
      refine wp_cond_false rfl ?_
      refine wp_skip ?_
      refine blk_n ?_
      refine then_n ?_
      refine wp_region_lit ?_
      refine s_val 78 rfl rfl (.int .i64 ((i + 1 : Nat) : Int)) (run_addI 3 _ _ _ rfl ((i : Nat) : Int) 1 ((i + 1 : Nat) : Int) rfl rfl (by omega) (by omega) (by omega) _) ?_
      refine nr ?_; intro U h; simp only [z0, z1] at h; subst h
      refine s_val 51 rfl rfl (.int .i64 ((i + 1 : Nat) : Int)) (rfl) ?_
      refine nr ?_; intro U h; simp only [z0, z1] at h; subst h
      refine wpList_nil ?_
      refine then_n ?_
      exact ⟨(askC s (fr.take 30) (l.take 40) half).length + 1 - (i + 1), by omega, i + 1, (fun kz => ([us2 0, .int .i64 ((i : Nat) : Int), .bool true, .int .i64 ((i : Nat) : Int), .slice ao1 (askC s (fr.take 30) (l.take 40) half).length cap1, .int .i64 ((i : Nat) : Int), .pointer (pK kC ao1 i 0), .pointer (pK kC ao1 i 0), .agg (idA ((askC s (fr.take 30) (l.take 40) half).getD i zC).id), .slice yo (askC s (fr.take 30) (l.take 40).reverse half).length yc, .int .i64 ((i : Nat) : Int), .pointer (pK kC yo i 0), .pointer (pK kC yo i 0), .agg (idA ((askC s (fr.take 30) (l.take 40).reverse half).getD i zC).id), .bool false, .bool false, .slice ao1 (askC s (fr.take 30) (l.take 40) half).length cap1, .int .i64 ((i : Nat) : Int), .pointer (pK kC ao1 i 0), .pointer (pK kC ao1 i 16), .int .i64 ((askC s (fr.take 30) (l.take 40) half).getD i zC).leg, .slice yo (askC s (fr.take 30) (l.take 40).reverse half).length yc, .int .i64 ((i : Nat) : Int), .pointer (pK kC yo i 0), .pointer (pK kC yo i 16), .int .i64 ((askC s (fr.take 30) (l.take 40).reverse half).getD i zC).leg, .bool false, .bool false, .int .i64 ((i + 1 : Nat) : Int)] : List Value).getD kz undef), rfl, rfl, by omega, GG, HR1, HB⟩
  · have hkp : 0 < k := by have := of_decide_eq_true hk1; omega
    refine s_val 20 rfl rfl (.bool true) (run_geqT 3 _ _ _ rfl (((k : Nat) : Int) - 1) 0 rfl rfl true hk1 _) ?_
    refine nr ?_; intro U h; simp only [z0, z1] at h; subst h
    refine wpList_nil ?_
    refine then_n ?_
    refine wp_cond_true rfl ?_
    refine wp_skip ?_
    refine then_n ?_
    refine wp_seq ?_
    refine wp_block ?_
    refine wp_region_lit ?_
    refine s_val 23 rfl rfl (.slice no m nc) (rfl) ?_
    refine nr ?_; intro U h; simp only [z0, z1] at h; subst h
    refine s_val 24 rfl rfl (.slice ao (l.take 40).length (l.take 40).length) (rfl) ?_
    refine nr ?_; intro U h; simp only [z0, z1] at h; subst h
    refine s_val 25 rfl rfl (.int .i64 (((k : Nat) : Int) - 1)) (rfl) ?_
    refine nr ?_; intro U h; simp only [z0, z1] at h; subst h
    refine s_val 26 rfl rfl (.pointer (pK kC ao (k - 1) 0)) (run_ixK rC (HC4.gro GG) _ _ rfl rfl (k - 1) (by exact congrArg (Value.int .i64) (show (((k : Nat) : Int) - 1) = ((k - 1 : Nat) : Int) by omega)) (by omega)) ?_
    refine nr ?_; intro U h; simp only [z0, z1] at h; subst h
    refine s_val 27 rfl rfl (.agg (cdA ((l.take 40).getD (k - 1) zC))) (run_ldKC (HC4.gro GG) _ rfl (k - 1) rfl (by omega)) ?_
    refine nr ?_; intro U h; simp only [z0, z1] at h; subst h
    refine s_bsl 28 rfl rfl 25 1 _ rfl [(0, .agg (cdA ((l.take 40).getD (k - 1) zC)))] rfl ([((l.take 40).getD (k - 1) zC)].flatMap kC.E).toArray 33 (bsC ((l.take 40).getD (k - 1) zC) _) ?_
    intro w4 q1 G eq1 kq1
    have bq1 := size_base GG eq1
    replace kg1 := G.has kg1
    replace HO := HO.gro G
    replace GG := GG.trans G
    clear G
    have HR1 : RK kC _ (some ⟨q1, 0, none⟩) 1 [((l.take 40).getD (k - 1) zC)] := RK.blk kq1 (one_all (atC HC4 (by omega))) (Nat.le_refl _)
    clear eq1
    refine nr ?_; intro U h; simp only [z0, z1] at h; subst h
    have hDK : (((l.take 40).drop k).reverse).length = m := by rw [List.length_reverse, List.length_drop]; omega
    have hDK2 : ((((l.take 40).drop k).reverse) ++ [((l.take 40).getD (k - 1) zC)]).length = m + 1 := by rw [List.length_append, hDK]; rfl
    refine s_appK rC (by decide) 29 rfl rfl _ _ rfl (by rw [hDK]; rfl) HO rfl HR1 (by rw [hDK]; simp only [List.length_cons, List.length_nil]; omega) GG.size ?_
    intro no2 nc2 w5 HO9 G2 _
    replace kg1 := G2.has kg1 (HO.own.ne kg1 (by decide))
    replace GG := G2.gro GG (fun k hk => HO.own.base k hk)
    clear G2 HO
    have HO := HO9
    clear HO9
    refine nr ?_; intro U h; simp only [z0, z1] at h; subst h
    refine s_val 5 rfl rfl (.slice no2 ((((l.take 40).drop k).reverse) ++ [((l.take 40).getD (k - 1) zC)]).length nc2) (rfl) ?_
    refine nr ?_; intro U h; simp only [z0, z1] at h; subst h
    refine wpList_nil ?_
    refine blk_n ?_
    refine then_n ?_
    refine wp_region_lit ?_
    refine s_val 21 rfl rfl (.int .i64 (((k : Nat) : Int) - 1)) (rfl) ?_
    refine nr ?_; intro U h; simp only [z0, z1] at h; subst h
    refine s_val 22 rfl rfl (.int .i64 (((k - 1 : Nat) : Int) - 1)) (run_subI 3 _ _ _ rfl (((k : Nat) : Int) - 1) 1 (((k - 1 : Nat) : Int) - 1) rfl rfl (by omega) (by omega) (by omega) _) ?_
    refine nr ?_; intro U h; simp only [z0, z1] at h; subst h
    refine s_val 6 rfl rfl (.int .i64 (((k - 1 : Nat) : Int) - 1)) (rfl) ?_
    refine nr ?_; intro U h; simp only [z0, z1] at h; subst h
    refine wpList_nil ?_
    refine then_n ?_
    exact ⟨k - 1 + 1, by omega, k - 1, m + 1, no2, nc2, (fun kz => ([.int .i64 (((k : Nat) : Int) - 1), .bool true, .int .i64 (((k : Nat) : Int) - 1), .int .i64 (((k - 1 : Nat) : Int) - 1), .slice no m nc, .slice ao (l.take 40).length (l.take 40).length, .int .i64 (((k : Nat) : Int) - 1), .pointer (pK kC ao (k - 1) 0), .agg (cdA ((l.take 40).getD (k - 1) zC)), .slice (some ⟨q1, 0, none⟩) 1 1, .slice no2 ((((l.take 40).drop k).reverse) ++ [((l.take 40).getD (k - 1) zC)]).length nc2] : List Value).getD kz undef), rfl, by rw [hDK2]; rfl, by omega, by omega, GG, kg1, by rw [← back_step (by omega) hk]; exact HO⟩
end Go.Proofs.Ytfabgonoonanfaa
