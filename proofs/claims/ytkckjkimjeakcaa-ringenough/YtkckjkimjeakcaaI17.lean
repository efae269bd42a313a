/- The laws that what is wanted is enough, and that the next ones lead all around. -/
import Derived.Test.YtkckjkimjeakcaaI15
namespace Go.Proofs.Ytkckjkimjeakcaa
open Go.RowKit

theorem OI.mono {w : World} {B B' : Nat} {ao : Option Addr} {cap : Nat} {l : List Nat} (h : OI w B ao cap l) (hB : B' ≤ B) : OI w B' ao cap l := ⟨h.own.mono hB, h.all⟩
def ownI (B : Nat) (L : List Nat) : PostE := PostE.ex (fun v x => ∃ ao cap, v = .slice ao L.length cap ∧ OI x B ao cap L) (fun _ _ _ G ⟨a, c, h1, h2⟩ => ⟨a, c, h1, h2.gro G⟩)
theorem fill_ownI (B : Nat) (L : List Nat) (v : Value) : (ownI B L).fill v = v := rfl
theorem round_all {t : List Nat} (ht : All t) (h0 : 0 < t.length) : ∃ C : List Nat, C.length = (lin (kc 0) (t.getD 0 0) t).length + 1 ∧ C.getD 0 0 = t.getD 0 0 ∧ (∀ j, j < C.length → C.getD j 0 < top) ∧ (∀ j, j + 1 < C.length → nxt (C.getD j 0) t = some (C.getD (j + 1) 0)) ∧ (1 < C.length → nxt (C.getD (C.length - 1) 0) t = some (t.getD 0 0)) ∧ (∀ j, 0 < j → j < C.length → C.getD j 0 ≠ t.getD 0 0 ∧ C.getD j 0 ∈ lin (kc 0) (t.getD 0 0) t) ∧ (C.length = 1 → nxt (t.getD 0 0) t = none) := by
  have hf := getD_mem h0
  generalize t.getD 0 0 = f at *
  have htf := ht f hf
  have hr := round_ris htf ht
  have hm := round_mem hf ht
  have hp := key_perm (wo := f) (kc_inj htf) (kc_inj top_0) ht
  have hg : ∀ j (hj : j < (f :: lin (kc f) f t).length), (f :: lin (kc f) f t).getD j 0 = (f :: lin (kc f) f t)[j] := fun j hj => by rw [List.getD_eq_getElem?_getD, List.getElem?_eq_getElem hj]; rfl
  refine ⟨f :: lin (kc f) f t, by rw [List.length_cons, hp.length_eq], rfl, fun j hj => ?_, fun j hj => ?_, fun h1 => ?_, fun j hj0 hj => ?_, fun h1 => ?_⟩
  · exact ht _ ((hm _).1 (getD_mem hj))
  · rw [hg j (by omega), hg (j + 1) hj]
    exact round_step htf ht hr hm j hj
  · have e : (f :: lin (kc f) f t).length - 1 = (lin (kc f) f t).length := by simp
    rw [e, hg _ (by simp)]
    exact round_back htf ht hr hm (by simpa using h1)
  · obtain ⟨i, rfl⟩ : ∃ i, j = i + 1 := ⟨j - 1, by omega⟩
    have hi : i < (lin (kc f) f t).length := by simpa using hj
    have hmem : (lin (kc f) f t).getD i 0 ∈ lin (kc f) f t := getD_mem hi
    rw [List.getD_cons_succ]
    exact ⟨((lin_mem (kc_inj htf) ht _).1 hmem).2, hp.mem_iff.1 hmem⟩
  · have e : lin (kc f) f t = [] := List.eq_nil_of_length_eq_zero (by simpa using h1)
    unfold nxt
    rw [e]
    rfl
set_option maxRecDepth 100000 in
set_option maxHeartbeats 4000000 in
theorem copy_own (w : World) (ao : Option Addr) (cap : Nat) (l : List Nat) (H : RC w ao cap l) (hl : l.length ≤ 1000000) : Calls Try.prog 10 #[.slice ao l.length cap] w (fun e w' => ∃ ao cap, e = .returned (.slice ao l.length cap) ∧ Gro w w' ∧ OI w' w.heap.size ao cap l) := by
  refine s_enter Try.func10 rfl Try.ntmps10 [.slice ao l.length cap] [.slice ao l.length cap, undef, undef, undef, undef, undef] rfl ?_
  have GG := Gro.refl w
  refine wp_seq ?_
  refine wp_region_lit ?_
  refine s_val 2 rfl rfl (.slice none 0 0) (rfl) ?_
  refine nr ?_; intro U h; simp only [z0, z1] at h; subst h
  refine wpList_nil ?_
  refine then_n ?_
  refine wp_seq ?_
  refine wp_region_lit ?_
  refine s_bsl 3 rfl rfl 24 0 _ rfl [] rfl (fl []).toArray 23 (bs0 _) ?_
  intro w1 q1 G eq1 kq1
  have bq1 := size_base GG eq1
  replace GG := GG.trans G
  clear G
  clear eq1
  refine nr ?_; intro U h; simp only [z0, z1] at h; subst h
  refine s_val 4 rfl rfl (.slice ao l.length cap) (rfl) ?_
  refine nr ?_; intro U h; simp only [z0, z1] at h; subst h
  have HO : OI _ w.heap.size (some ⟨q1, 0, none⟩) 0 [] := ⟨OX.made kq1 bq1 (Nat.le_refl _) (by decide) rfl rfl rfl (fun _ h => by cases h), fun _ h => by cases h⟩
  refine s_appI 5 rfl rfl _ _ rfl (l := []) rfl HO rfl (H.gro GG) (by simpa using hl) GG.size ?_
  intro ao2 cap2 w2 HO2 HB
  have GG2 : Gro w _ := below_gro GG HB (Nat.le_refl _)
  rw [List.nil_append] at HO2
  simp only [List.nil_append]
  refine nr ?_; intro U h; simp only [z0, z1] at h; subst h
  refine s_val 2 rfl rfl (.slice ao2 l.length cap2) (rfl) ?_
  refine nr ?_; intro U h; simp only [z0, z1] at h; subst h
  refine wpList_nil ?_
  refine then_n ?_
  refine wp_ret ?_
  refine bodyPost_ret (results_tmp Try.results10 _ _ _) rfl ?_
  exact ⟨ao2, cap2, rfl, GG2, HO2⟩
set_option maxRecDepth 100000 in
set_option maxHeartbeats 4000000 in
theorem ringEnough_any (w : World) (ao : Option Addr) (cap : Nat) (l : List Nat) (H : RC w ao cap l) (x : Nat) (hx : x < top) (half : Int) : Calls Try.prog 7 #[.slice ao l.length cap, .agg (idA x), .int .i64 half] w (fun e w' => e = .returned (.bool true) ∧ Gro w w') := by
  refine s_enter Try.func7 rfl Try.ntmps7 [.slice ao l.length cap, .agg (idA x), .int .i64 half] [.slice ao l.length cap, .agg (idA x), .int .i64 half, undef, undef, undef, undef, undef, undef, undef, undef, undef, undef, undef, undef, undef, undef, undef, undef, undef, undef, undef, undef, undef, undef, undef, undef, undef, undef, undef, undef, undef, undef, undef, undef, undef, undef, undef, undef, undef, undef, undef, undef, undef, undef, undef, undef, undef, undef, undef, undef, undef, undef, undef, undef, undef, undef, undef, undef, undef, undef, undef, undef, undef, undef, undef, undef] rfl ?_
  have GG := Gro.refl w
  obtain ⟨t, ht⟩ : ∃ t, l.take 24 = t := ⟨_, rfl⟩
  have HT : RC w ao t.length t := ht ▸ H.takeN 24
  have htl : t.length ≤ 24 := by rw [← ht, List.length_take]; omega
  refine wp_seq ?_
  refine wp_region_lit ?_
  refine s_box 4 rfl rfl 23 _ rfl _ rfl (idA x) rfl ?_
  intro w1 g1 G eg1 kg1
  have bg1 := size_base GG eg1
  replace GG := GG.trans G
  clear G
  clear eg1
  refine nr ?_; intro U h; simp only [z0, z1] at h; subst h
  refine s_val 6 rfl rfl (.bool false) (rfl) ?_
  refine nr ?_; intro U h; simp only [z0, z1] at h; subst h
  refine wpList_nil ?_
  refine then_n ?_
  refine wp_seq ?_
  refine wp_region_lit ?_
  refine s_val 13 rfl rfl (.slice ao l.length cap) (rfl) ?_
  refine nr ?_; intro U h; simp only [z0, z1] at h; subst h
  refine s_callv 14 rfl rfl _ 9 Try.call9 rfl rfl _ rfl [.slice ao l.length cap, .int .i64 24] rfl (Calls.valV (cut_any _ ao cap l (H.gro GG) 24) (by rw [ht])) ?_
  intro w2 G
  replace kg1 := G.has kg1
  replace GG := GG.trans G
  clear G
  refine nr ?_; intro U h; simp only [z0, z1] at h; subst h
  refine s_val 0 rfl rfl (.slice ao t.length t.length) (rfl) ?_
  refine nr ?_; intro U h; simp only [z0] at h; subst h
  refine wpList_nil ?_
  refine then_n ?_
  refine wp_seq ?_
  refine wp_seq ?_
  refine wp_region_lit ?_
  refine s_val 15 rfl rfl (.slice ao t.length t.length) (rfl) ?_
  refine nr ?_; intro U h; simp only [z0, z1] at h; subst h
  refine s_val 16 rfl rfl (.int .i64 ((t.length : Nat) : Int)) (run_len Try.underlying24 _ rfl _ _ _ rfl _) ?_
  refine nr ?_; intro U h; simp only [z0, z1] at h; subst h
  refine s_val 17 rfl rfl (.int .i64 0) (rfl) ?_
  refine nr ?_; intro U h; simp only [z0, z1] at h; subst h
  refine wpList_nil ?_
  refine then_n ?_
  refine wp_block ?_
  refine wp_loopN (fun mz az wv => ∃ (i : Nat) (us1 : Nat → Value), mz = t.length - i ∧ az = ⟨[.slice ao t.length t.length, .agg (idA x), .int .i64 half, undef, .pointer (some ⟨g1, 0, none⟩), undef, us1 0, undef, us1 1, us1 2, undef, undef, undef, .slice ao l.length cap, .slice ao t.length t.length, .slice ao t.length t.length, .int .i64 ((t.length : Nat) : Int), .int .i64 ((i : Nat) : Int), us1 3, us1 4, us1 5, us1 6, us1 7, us1 8, us1 9, us1 10, us1 11, us1 12, us1 13, us1 14, us1 15, us1 16, us1 17, undef, undef, undef, undef, undef, undef, undef, undef, undef, undef, undef, undef, undef, undef, undef, undef, undef, undef, undef, undef, undef, undef, undef, undef, undef, undef, undef, undef, undef, undef, undef, undef, undef, undef].toArray, []⟩ ∧ i ≤ t.length ∧ Gro w wv ∧ wv.heap[g1]? = some (.cells (idA x) 23 (0, 0))) ?_ _ ⟨0, (fun kz => ([.bool false, undef, undef, undef, undef, undef, undef, undef, undef, undef, undef, undef, undef, undef, undef, undef, undef, undef] : List Value).getD kz undef), rfl, rfl, Nat.zero_le _, GG, kg1⟩
  clear GG kg1
  rintro mz az wv ⟨i, us1, rfl, rfl, hi, GG, kg1⟩
  refine wp_seq ?_
  refine wp_region_lit ?_
  cases hi1 : decide (((i : Nat) : Int) < ((t.length : Nat) : Int))
  · refine s_val 18 rfl rfl (.bool false) (run_lssT 3 _ _ _ rfl ((i : Nat) : Int) ((t.length : Nat) : Int) rfl rfl false hi1 _) ?_
    refine nr ?_; intro U h; simp only [z0, z1] at h; subst h
    refine wpList_nil ?_
    refine then_n ?_
    refine wp_seq ?_
    refine wp_cond_false rfl ?_
    refine wp_exit ?_
    refine then_x ?_
    refine then_x ?_
    refine blk_x ?_
    refine then_n ?_
    refine wp_seq ?_
    rcases hn : nxt x t with _ | b
    · refine wp_region_lit ?_
      refine s_val 34 rfl rfl (.agg (idA x)) (run_ldB _ rfl g1 _ rfl (kg1)) ?_
      refine nr ?_; intro U h; simp only [z0, z1] at h; subst h
      refine s_val 35 rfl rfl (.slice ao t.length t.length) (rfl) ?_
      refine nr ?_; intro U h; simp only [z0, z1] at h; subst h
      refine s_callv 36 rfl rfl _ 17 Try.call17 rfl rfl _ rfl [.agg (idA x), .slice ao t.length t.length] rfl (Calls.valV (next_any _ ao t.length t (HT.gro GG) (by omega) x hx) (by rw [hn]; first | done | rfl)) ?_
      intro w3 G
      replace kg1 := G.has kg1
      replace GG := GG.trans G
      clear G
      refine nr ?_; intro U h; simp only [z0, z1] at h; subst h
      refine s_val 33 rfl rfl (.tuple #[.agg (idA 0), .bool false]) (rfl) ?_
      refine nr ?_; intro U h; simp only [z0, z1] at h; subst h
      refine s_val 37 rfl rfl (.agg (idA 0)) (rfl) ?_
      refine nr ?_; intro U h; simp only [z0, z1] at h; subst h
      refine s_val 38 rfl rfl (.bool false) (rfl) ?_
      refine nr ?_; intro U h; simp only [z0, z1] at h; subst h
      refine s_alloc 10 rfl rfl 23 rfl _ zero23 (idA 0) rfl ?_
      intro w4 g3 G eg3 kg3
      have bg3 := size_base GG eg3
      have dg1g3 := lt_new kg1 eg3
      replace kg1 := G.has kg1
      replace GG := GG.trans G
      clear G
      clear eg3
      refine nr ?_; intro U h; simp only [z0, z1] at h; subst h
      refine s_store rfl rfl 23 _ _ rfl g3 0 rfl (.agg (idA 0)) rfl 23 _ kg3 (idA 0) rfl (size23' _) (idA_fit _ _) (idA_one _) (idA 0) (splice_whole _ _ (idA_sz _ _)) ?_
      intro w5 St
      replace kg1 := St.has (by omega) kg1
      replace GG := GG.store St bg3
      replace kg3 := St.new
      clear St
      refine s_val 11 rfl rfl (.bool false) (rfl) ?_
      refine nr ?_; intro U h; simp only [z0, z1] at h; subst h
      refine wpList_nil ?_
      refine then_n ?_
      refine wp_seq ?_
      refine wp_seq ?_
      refine wp_region_opq ?_
      intro OPS hY
      have y2 := hY 2 41 rfl
      clear hY
      refine s_val 39 rfl rfl (.bool false) (rfl) ?_
      refine nr ?_; intro U h; simp only [z0, z1] at h; subst h
      refine s_val 40 rfl rfl (.bool true) (run_nt _ _ rfl false rfl) ?_
      refine nr ?_; intro U h; simp only [z0, z1] at h; subst h
      refine s_val 41 rfl rfl (.bool true) (rfl) ?_
      refine nr ?_; intro U h; simp only [z0, z1] at h; subst h
      refine s_skipY 42 rfl rfl y2 rfl ?_
      refine nr ?_; intro U h; simp only [z0, z1] at h; subst h
      refine s_skipY 43 rfl rfl y2 rfl ?_
      refine nr ?_; intro U h; simp only [z0, z1] at h; subst h
      refine s_skipY 44 rfl rfl y2 rfl ?_
      refine nr ?_; intro U h; simp only [z0, z1] at h; subst h
      refine s_val 45 rfl rfl (.bool true) (rfl) ?_
      refine nr ?_; intro U h; simp only [z0, z1] at h; subst h
      refine wpList_nil ?_
      refine then_n ?_
      refine wp_cond_true rfl ?_
      refine wp_seq ?_
      refine wp_region_lit ?_
      refine s_callv 46 rfl rfl _ 13 Try.call13 rfl rfl _ rfl [] rfl (fixed_any _) ?_
      intro w6 G
      replace kg1 := G.has kg1
      replace kg3 := G.has kg3
      replace GG := GG.trans G
      clear G
      refine nr ?_; intro U h; simp only [z0, z1] at h; subst h
      refine s_val 6 rfl rfl (.bool true) (rfl) ?_
      refine nr ?_; intro U h; simp only [z0, z1] at h; subst h
      refine wpList_nil ?_
      refine then_n ?_
      refine wp_ret ?_
      refine then_r ?_
      refine bodyPost_ret (results_tmp Try.results7 _ _ _) rfl ?_
      exact ⟨rfl, GG⟩
    · have hbs := nxt_spec hx HT.all hn
      have hbt : b < top := HT.all b hbs.1.1
      refine wp_region_lit ?_
      refine s_val 34 rfl rfl (.agg (idA x)) (run_ldB _ rfl g1 _ rfl (kg1)) ?_
      refine nr ?_; intro U h; simp only [z0, z1] at h; subst h
      refine s_val 35 rfl rfl (.slice ao t.length t.length) (rfl) ?_
      refine nr ?_; intro U h; simp only [z0, z1] at h; subst h
      refine s_callv 36 rfl rfl _ 17 Try.call17 rfl rfl _ rfl [.agg (idA x), .slice ao t.length t.length] rfl (Calls.valV (next_any _ ao t.length t (HT.gro GG) (by omega) x hx) (by rw [hn]; first | done | rfl)) ?_
      intro w3 G
      replace kg1 := G.has kg1
      replace GG := GG.trans G
      clear G
      refine nr ?_; intro U h; simp only [z0, z1] at h; subst h
      refine s_val 33 rfl rfl (.tuple #[.agg (idA b), .bool true]) (rfl) ?_
      refine nr ?_; intro U h; simp only [z0, z1] at h; subst h
      refine s_val 37 rfl rfl (.agg (idA b)) (rfl) ?_
      refine nr ?_; intro U h; simp only [z0, z1] at h; subst h
      refine s_val 38 rfl rfl (.bool true) (rfl) ?_
      refine nr ?_; intro U h; simp only [z0, z1] at h; subst h
      refine s_alloc 10 rfl rfl 23 rfl _ zero23 (idA 0) rfl ?_
      intro w4 g3 G eg3 kg3
      have bg3 := size_base GG eg3
      have dg1g3 := lt_new kg1 eg3
      replace kg1 := G.has kg1
      replace GG := GG.trans G
      clear G
      clear eg3
      refine nr ?_; intro U h; simp only [z0, z1] at h; subst h
      refine s_store rfl rfl 23 _ _ rfl g3 0 rfl (.agg (idA b)) rfl 23 _ kg3 (idA b) rfl (size23' _) (idA_fit _ _) (idA_one _) (idA b) (splice_whole _ _ (idA_sz _ _)) ?_
      intro w5 St
      replace kg1 := St.has (by omega) kg1
      replace GG := GG.store St bg3
      replace kg3 := St.new
      clear St
      refine s_val 11 rfl rfl (.bool true) (rfl) ?_
      refine nr ?_; intro U h; simp only [z0, z1] at h; subst h
      refine wpList_nil ?_
      refine then_n ?_
      refine wp_seq ?_
      refine wp_seq ?_
      cases hin : decide (x ∈ t)
      · refine wp_region_opq ?_
        intro OPS hY
        have y2 := hY 2 41 rfl
        clear hY
        refine s_val 39 rfl rfl (.bool true) (rfl) ?_
        refine nr ?_; intro U h; simp only [z0, z1] at h; subst h
        refine s_val 40 rfl rfl (.bool false) (run_nt _ _ rfl true rfl) ?_
        refine nr ?_; intro U h; simp only [z0, z1] at h; subst h
        refine s_val 41 rfl rfl (.bool false) (rfl) ?_
        refine nr ?_; intro U h; simp only [z0, z1] at h; subst h
        refine s_gvalY 42 rfl rfl y2 rfl (.slice ao t.length t.length) (rfl) ?_
        refine nr ?_; intro U h; simp only [z0, z1] at h; subst h
        refine s_gvalY 43 rfl rfl y2 rfl (.agg (idA x)) (run_ldB _ rfl g1 _ rfl (kg1)) ?_
        refine nr ?_; intro U h; simp only [z0, z1] at h; subst h
        refine s_gcallvY 44 rfl rfl y2 rfl _ 20 Try.call20 rfl rfl _ rfl [.slice ao t.length t.length, .agg (idA x)] rfl (Calls.bool (refhas_any _ ao t.length t (HT.gro GG) (by omega) x hx) hin) ?_
        intro w6 G
        replace kg1 := G.has kg1
        replace kg3 := G.has kg3
        replace GG := GG.trans G
        clear G
        refine nr ?_; intro U h; simp only [z0, z1] at h; subst h
        refine s_val 45 rfl rfl (.bool false) (rfl) ?_
        refine nr ?_; intro U h; simp only [z0, z1] at h; subst h
        refine wpList_nil ?_
        refine then_n ?_
        refine wp_cond_false rfl ?_
        refine wp_skip ?_
        refine then_n ?_
        refine wp_seq ?_
        obtain ⟨B, hB, hg3B, hmB, hwB⟩ := base_of kg3 (HT.gro GG) GG
        have hg1B : g1 < B := hB ▸ lt_of_heap kg1
        have hBw : SZ B _ := Nat.le_of_eq hB.symm
        refine wp_region_exA (A := ?Ax29) 7 [(0, 47), (1, 48), (2, 49), (3, 50), (4, 51), (5, 52), (6, 53)] [.val (.agg (idA b)), .val (.slice ao t.length t.length), .val (.int .i64 half), rowI (want b t half), ownI B (want b t half), .val (.agg (idA b)), rowI [b]] follows (by kernel_rfl) rfl ?hAx29 (opsA_cons ?o0x29 (opsA_cons ?o1x29 (opsA_cons ?o2x29 (opsA_cons ?o3x29 (opsA_cons ?o4x29 (opsA_cons ?o5x29 (opsA_cons ?o6x29 opsA_nil))))))) ?restx29
        case hAx29 =>
          intro ptrs
          simp only [full, foldSlots, filledE, postE, List.foldl_cons, List.foldl_nil, List.getD_cons_zero, List.getD_cons_succ, fill_val, fill_rowI, fill_ownI, List.set_cons_zero, List.set_cons_succ]
          exact rfl
        case o0x29 => exact fun _ _ hw _ => opE_value (v := .agg (idA b)) rfl (run_ldB _ rfl g3 _ rfl (hw.has kg3))
        case o1x29 => exact fun _ _ _ _ => opE_move (v := .slice ao t.length t.length) _ rfl rfl rfl
        case o2x29 => exact fun _ _ _ _ => opE_move (v := .int .i64 half) _ rfl rfl rfl
        case o3x29 =>
          intro ptrs w' hw hE
          exact opE_call (rowI (want b t half)) rfl _ 11 Try.call11 rfl rfl _ rfl [.agg (idA b), .slice ao t.length t.length, .int .i64 half] rfl ((want_any _ ao t.length t (HT.gro (GG.drew.trans hw)) (by omega) b hbt half).mono fun e w' ⟨ao, cap, he, hg, hr⟩ => ⟨_, he, hg, ao, cap, rfl, hr⟩)
        case o4x29 =>
          intro ptrs w' hw hE
          obtain ⟨⟨ao3, cap3, h3, o3⟩, _, _⟩ := hE
          exact opE_call (ownI B (want b t half)) rfl _ 10 Try.call10 rfl rfl _ rfl [.slice ao3 (want b t half).length cap3] (by show [ptrs 3] = _; rw [h3]) ((copy_own _ ao3 cap3 (want b t half) (o3) (by have := want_len b t half; omega)).mono fun e w' ⟨ao, cap, he, hg, hr⟩ => ⟨_, he, hg, ao, cap, rfl, hr.mono (Nat.le_trans (Nat.le_of_eq hB.symm) hw.size)⟩)
        case o5x29 => exact fun _ _ hw _ => opE_value (v := .agg (idA b)) rfl (run_ldB _ rfl g3 _ rfl (hw.has kg3))
        case o6x29 => exact fun _ _ _ _ => opE_new (rowI [b]) rfl (run_bsl 24 1 _ rfl [(0, .agg (idA b))] rfl (bs1 b _)) (gro_alloc _ _) ⟨_, _, rfl, RC.all_blk (heap_alloc_new _ _) (all_of [b] ⟨hbt, trivial⟩) (Nat.le_refl _)⟩
        intro ptrs w7 GD hxE
        simp only [List.drop_succ_cons, List.drop_zero]
        replace kg1 := GD.has kg1
        replace kg3 := GD.has kg3
        replace hBw := hBw.gro ((Gro.refl _).drew.trans GD)
        replace GG := GG.drew.trans GD
        obtain ⟨_, ⟨ao1, cap1, hx1, HR1⟩, ⟨ao2, cap2, hx2, HR2⟩, _⟩ := hxE
        simp only [hx1, hx2]
        clear hx1 hx2
        clear GD
        refine s_appI 54 rfl rfl _ _ rfl rfl HR1 rfl HR2 (by have := want_len b t half; have : [b].length = 1 := rfl; omega) hBw ?_
        intro ao9 cap9 w8 HO9 HB
        replace kg1 := (HB.block g1 hg1B).trans kg1
        replace kg3 := (HB.block g3 hg3B).trans kg3
        replace GG := below_gro GG HB hwB
        clear HB
        have HL := HO9.rc
        refine nr ?_; intro U h; simp only [z0, z1] at h; subst h
        refine s_val 12 rfl rfl (.slice ao9 (((want b t half) ++ [b]).length) cap9) (rfl) ?_
        refine nr ?_; intro U h; simp only [z0, z1] at h; subst h
        refine wpList_nil ?_
        refine then_n ?_
        refine wp_seq ?_
        refine wp_region_exA (A := ?Ax30) 11 [(0, 55), (1, 56), (2, 57), (3, 58), (4, 59), (5, 60), (6, 61), (7, 62), (8, 63), (9, 64), (10, 65)] [.val (.bool true), .val (.bool true), .val (.agg (idA x)), .val (.slice ao9 (((want b t half) ++ [b]).length) cap9), .val (.int .i64 half), rowI (want x ((want b t half) ++ [b]) half), .val (.agg (idA x)), .val (.slice ao t.length t.length), .val (.int .i64 half), rowI (want x t half), .val (.bool true)] follows (by kernel_rfl) rfl ?hAx30 (opsA_cons ?o0x30 (opsA_cons ?o1x30 (opsA_cons ?o2x30 (opsA_cons ?o3x30 (opsA_cons ?o4x30 (opsA_cons ?o5x30 (opsA_cons ?o6x30 (opsA_cons ?o7x30 (opsA_cons ?o8x30 (opsA_cons ?o9x30 (opsA_cons ?o10x30 opsA_nil))))))))))) ?restx30
        case hAx30 =>
          intro ptrs
          simp only [full, foldSlots, filledE, postE, List.foldl_cons, List.foldl_nil, List.getD_cons_zero, List.getD_cons_succ, fill_val, fill_rowI, List.set_cons_zero, List.set_cons_succ]
          exact rfl
        case o0x30 =>
          intro ptrs w' hw hE
          exact opE_call (.val (.bool true)) rfl _ 13 Try.call13 rfl rfl _ rfl [] rfl ((fixed_any _).mono fun e w' ⟨he, hg⟩ => ⟨_, he, hg, rfl⟩)
        case o1x30 => exact fun _ _ _ _ => opE_move (v := .bool true) _ rfl rfl rfl
        case o2x30 => exact fun _ _ hw _ => opE_value (v := .agg (idA x)) rfl (run_ldB _ rfl g1 _ rfl (hw.has kg1))
        case o3x30 => exact fun _ _ _ _ => opE_move (v := .slice ao9 (((want b t half) ++ [b]).length) cap9) _ rfl rfl rfl
        case o4x30 => exact fun _ _ _ _ => opE_move (v := .int .i64 half) _ rfl rfl rfl
        case o5x30 =>
          intro ptrs w' hw hE
          exact opE_call (rowI (want x ((want b t half) ++ [b]) half)) rfl _ 11 Try.call11 rfl rfl _ rfl [.agg (idA x), .slice ao9 (((want b t half) ++ [b]).length) cap9, .int .i64 half] rfl ((want_any _ ao9 cap9 ((want b t half) ++ [b]) (HL.gro ((Gro.refl _).drew.trans hw)) (by have := want_len b t half; rw [List.length_append]; simp only [List.length_cons, List.length_nil]; omega) x hx half).mono fun e w' ⟨ao, cap, he, hg, hr⟩ => ⟨_, he, hg, ao, cap, rfl, hr⟩)
        case o6x30 => exact fun _ _ hw _ => opE_value (v := .agg (idA x)) rfl (run_ldB _ rfl g1 _ rfl (hw.has kg1))
        case o7x30 => exact fun _ _ _ _ => opE_move (v := .slice ao t.length t.length) _ rfl rfl rfl
        case o8x30 => exact fun _ _ _ _ => opE_move (v := .int .i64 half) _ rfl rfl rfl
        case o9x30 =>
          intro ptrs w' hw hE
          obtain ⟨⟨ao5, cap5, h5, o5⟩, _⟩ := hE
          exact opE_call (rowI (want x t half)) rfl _ 11 Try.call11 rfl rfl _ rfl [.agg (idA x), .slice ao t.length t.length, .int .i64 half] rfl ((want_any _ ao t.length t (HT.gro (GG.drew.trans hw)) (by omega) x hx half).mono fun e w' ⟨ao, cap, he, hg, hr⟩ => ⟨_, he, hg, ao, cap, rfl, hr⟩)
        case o10x30 =>
          intro ptrs w' hw hE
          obtain ⟨⟨ao5, cap5, h5, o5⟩, ⟨ao9, cap9, h9, o9⟩, _, _⟩ := hE
          exact opE_call (.val (.bool true)) rfl _ 14 Try.call14 rfl rfl _ rfl [.slice ao5 (want x ((want b t half) ++ [b]) half).length cap5, .slice ao9 (want x t half).length cap9] (by show [ptrs 5, ptrs 9] = _; rw [h5, h9]) ((Calls.bool (same_ids _ ao5 cap5 (want x ((want b t half) ++ [b]) half) (o5) (by have h1 := want_len x ((want b t half) ++ [b]) half; have h2 := want_len b t half; rw [List.length_append] at h1; simp only [List.length_cons, List.length_nil] at h1; omega) ao9 cap9 (want x t half) (o9) (by have := want_len x t half; omega)) (decide_eq_true (enough_next hx HT.all (of_decide_eq_false hin) hn half))).mono fun e w' ⟨he, hg⟩ => ⟨_, he, hg, rfl⟩)
        intro ptrs w9 GD hxE
        simp only [List.drop_succ_cons, List.drop_zero]
        replace kg1 := GD.has kg1
        replace HL := HL.gro ((Gro.refl _).drew.trans GD)
        replace GG := GG.drew.trans GD
        obtain ⟨_, _, _⟩ := hxE
        clear GD
        refine s_val 66 rfl rfl (.bool true) (rfl) ?_
        refine nr ?_; intro U h; simp only [z0, z1] at h; subst h
        refine s_val 6 rfl rfl (.bool true) (rfl) ?_
        refine nr ?_; intro U h; simp only [z0, z1] at h; subst h
        refine wpList_nil ?_
        refine then_n ?_
        refine wp_ret ?_
        refine bodyPost_ret (results_tmp Try.results7 _ _ _) rfl ?_
        exact ⟨rfl, GG⟩
      · refine wp_region_opq ?_
        intro OPS hY
        have y2 := hY 2 41 rfl
        clear hY
        refine s_val 39 rfl rfl (.bool true) (rfl) ?_
        refine nr ?_; intro U h; simp only [z0, z1] at h; subst h
        refine s_val 40 rfl rfl (.bool false) (run_nt _ _ rfl true rfl) ?_
        refine nr ?_; intro U h; simp only [z0, z1] at h; subst h
        refine s_val 41 rfl rfl (.bool false) (rfl) ?_
        refine nr ?_; intro U h; simp only [z0, z1] at h; subst h
        refine s_gvalY 42 rfl rfl y2 rfl (.slice ao t.length t.length) (rfl) ?_
        refine nr ?_; intro U h; simp only [z0, z1] at h; subst h
        refine s_gvalY 43 rfl rfl y2 rfl (.agg (idA x)) (run_ldB _ rfl g1 _ rfl (kg1)) ?_
        refine nr ?_; intro U h; simp only [z0, z1] at h; subst h
        refine s_gcallvY 44 rfl rfl y2 rfl _ 20 Try.call20 rfl rfl _ rfl [.slice ao t.length t.length, .agg (idA x)] rfl (Calls.bool (refhas_any _ ao t.length t (HT.gro GG) (by omega) x hx) hin) ?_
        intro w6 G
        replace kg1 := G.has kg1
        replace kg3 := G.has kg3
        replace GG := GG.trans G
        clear G
        refine nr ?_; intro U h; simp only [z0, z1] at h; subst h
        refine s_val 45 rfl rfl (.bool true) (rfl) ?_
        refine nr ?_; intro U h; simp only [z0, z1] at h; subst h
        refine wpList_nil ?_
        refine then_n ?_
        refine wp_cond_true rfl ?_
        refine wp_seq ?_
        refine wp_region_lit ?_
        refine s_callv 46 rfl rfl _ 13 Try.call13 rfl rfl _ rfl [] rfl (fixed_any _) ?_
        intro w7 G
        replace kg1 := G.has kg1
        replace kg3 := G.has kg3
        replace GG := GG.trans G
        clear G
        refine nr ?_; intro U h; simp only [z0, z1] at h; subst h
        refine s_val 6 rfl rfl (.bool true) (rfl) ?_
        refine nr ?_; intro U h; simp only [z0, z1] at h; subst h
        refine wpList_nil ?_
        refine then_n ?_
        refine wp_ret ?_
        refine then_r ?_
        refine bodyPost_ret (results_tmp Try.results7 _ _ _) rfl ?_
        exact ⟨rfl, GG⟩
  · have hil : i < t.length := by have := of_decide_eq_true hi1; omega
    refine s_val 18 rfl rfl (.bool true) (run_lssT 3 _ _ _ rfl ((i : Nat) : Int) ((t.length : Nat) : Int) rfl rfl true hi1 _) ?_
    refine nr ?_; intro U h; simp only [z0, z1] at h; subst h
    refine wpList_nil ?_
    refine then_n ?_
    refine wp_seq ?_
    refine wp_cond_true rfl ?_
    refine wp_skip ?_
    refine then_n ?_
    refine wp_seq ?_
    refine wp_block ?_
    refine wp_seq ?_
    refine wp_region_lit ?_
    refine s_val 19 rfl rfl (.pointer (pA ao i)) (run_ixI (HT.gro GG) _ _ rfl rfl i rfl hil) ?_
    refine nr ?_; intro U h; simp only [z0, z1] at h; subst h
    refine s_val 20 rfl rfl (.agg (idA (t.getD i 0))) (run_ldI (HT.gro GG) _ rfl i rfl hil) ?_
    refine nr ?_; intro U h; simp only [z0, z1] at h; subst h
    refine s_alloc 8 rfl rfl 23 rfl _ zero23 (idA 0) rfl ?_
    intro w3 g2 G eg2 kg2
    have bg2 := size_base GG eg2
    have dg1g2 := lt_new kg1 eg2
    replace kg1 := G.has kg1
    replace GG := GG.trans G
    clear G
    clear eg2
    refine nr ?_; intro U h; simp only [z0, z1] at h; subst h
    refine s_store rfl rfl 23 _ _ rfl g2 0 rfl (.agg (idA (t.getD i 0))) rfl 23 _ kg2 (idA (t.getD i 0)) rfl (size23' _) (idA_fit _ _) (idA_one _) (idA (t.getD i 0)) (splice_whole _ _ (idA_sz _ _)) ?_
    intro w4 St
    replace kg1 := St.has (by omega) kg1
    replace GG := GG.store St bg2
    replace kg2 := St.new
    clear St
    refine wpList_nil ?_
    refine then_n ?_
    refine wp_seq ?_
    refine wp_region_lit ?_
    refine s_val 21 rfl rfl (.agg (idA (t.getD i 0))) (run_ldB _ rfl g2 _ rfl (kg2)) ?_
    refine nr ?_; intro U h; simp only [z0, z1] at h; subst h
    refine s_val 22 rfl rfl (.slice ao t.length t.length) (rfl) ?_
    refine nr ?_; intro U h; simp only [z0, z1] at h; subst h
    refine s_val 23 rfl rfl (.int .i64 half) (rfl) ?_
    refine nr ?_; intro U h; simp only [z0, z1] at h; subst h
    refine s_callx 24 rfl rfl _ 11 Try.call11 rfl rfl _ rfl [.agg (idA (t.getD i 0)), .slice ao t.length t.length, .int .i64 half] rfl (want_any _ ao t.length t (HT.gro GG) (by omega) (t.getD i 0) (HT.at hil) half) (by rintro _ _ ⟨_, _, he, _⟩; exact ⟨_, he⟩) ?_
    rintro v w5 ⟨ao1, cap1, he, G, HR1⟩
    cases he
    replace kg1 := G.has kg1
    replace kg2 := G.has kg2
    replace GG := GG.trans G
    clear G
    refine nr ?_; intro U h; simp only [z0, z1] at h; subst h
    refine s_val 9 rfl rfl (.slice ao1 ((want (t.getD i 0) t half).length) cap1) (rfl) ?_
    refine nr ?_; intro U h; simp only [z0, z1] at h; subst h
    refine wpList_nil ?_
    refine then_n ?_
    refine wp_seq ?_
    refine wp_region_lit ?_
    refine s_val 25 rfl rfl (.agg (idA (t.getD i 0))) (run_ldB _ rfl g2 _ rfl (kg2)) ?_
    refine nr ?_; intro U h; simp only [z0, z1] at h; subst h
    refine s_val 26 rfl rfl (.slice ao1 ((want (t.getD i 0) t half).length) cap1) (rfl) ?_
    refine nr ?_; intro U h; simp only [z0, z1] at h; subst h
    refine s_val 27 rfl rfl (.int .i64 half) (rfl) ?_
    refine nr ?_; intro U h; simp only [z0, z1] at h; subst h
    refine s_callx 28 rfl rfl _ 11 Try.call11 rfl rfl _ rfl [.agg (idA (t.getD i 0)), .slice ao1 ((want (t.getD i 0) t half).length) cap1, .int .i64 half] rfl (want_any _ ao1 cap1 (want (t.getD i 0) t half) (HR1) (by have := want_len (t.getD i 0) t half; omega) (t.getD i 0) (HT.at hil) half) (by rintro _ _ ⟨_, _, he, _⟩; exact ⟨_, he⟩) ?_
    rintro v w6 ⟨ao2, cap2, he, G, HR2⟩
    cases he
    replace kg1 := G.has kg1
    replace kg2 := G.has kg2
    replace HR1 := HR1.gro G
    replace GG := GG.trans G
    clear G
    refine nr ?_; intro U h; simp only [z0, z1] at h; subst h
    refine s_val 29 rfl rfl (.slice ao1 ((want (t.getD i 0) t half).length) cap1) (rfl) ?_
    refine nr ?_; intro U h; simp only [z0, z1] at h; subst h
    refine s_callv 30 rfl rfl _ 14 Try.call14 rfl rfl _ rfl [.slice ao2 ((want (t.getD i 0) (want (t.getD i 0) t half) half).length) cap2, .slice ao1 ((want (t.getD i 0) t half).length) cap1] rfl (Calls.bool (same_ids _ ao2 cap2 (want (t.getD i 0) (want (t.getD i 0) t half) half) (HR2) (by have := want_len (t.getD i 0) (want (t.getD i 0) t half) half; have := want_len (t.getD i 0) t half; omega) ao1 cap1 (want (t.getD i 0) t half) (HR1) (by have := want_len (t.getD i 0) t half; omega)) (decide_eq_true (enough_same HT.all half))) ?_
    intro w7 G
    replace kg1 := G.has kg1
    replace kg2 := G.has kg2
    replace HR1 := HR1.gro G
    replace HR2 := HR2.gro G
    replace GG := GG.trans G
    clear G
    refine nr ?_; intro U h; simp only [z0, z1] at h; subst h
    refine s_val 31 rfl rfl (.bool false) (run_nt _ _ rfl true rfl) ?_
    refine nr ?_; intro U h; simp only [z0, z1] at h; subst h
    refine wpList_nil ?_
    refine then_n ?_
    refine wp_cond_false rfl ?_
    refine wp_skip ?_
    refine blk_n ?_
    refine then_n ?_
    refine wp_region_lit ?_
    refine s_val 32 rfl rfl (.int .i64 ((i + 1 : Nat) : Int)) (run_addI 3 _ _ _ rfl ((i : Nat) : Int) 1 ((i + 1 : Nat) : Int) rfl rfl (by omega) (by omega) (by omega) _) ?_
    refine nr ?_; intro U h; simp only [z0, z1] at h; subst h
    refine s_val 17 rfl rfl (.int .i64 ((i + 1 : Nat) : Int)) (rfl) ?_
    refine nr ?_; intro U h; simp only [z0, z1] at h; subst h
    refine wpList_nil ?_
    refine then_n ?_
    exact ⟨_, (by omega : t.length - (i + 1) < t.length - i), i + 1, (fun kz => ([us1 0, .pointer (some ⟨g2, 0, none⟩), .slice ao1 ((want (t.getD i 0) t half).length) cap1, .bool true, .pointer (pA ao i), .agg (idA (t.getD i 0)), .agg (idA (t.getD i 0)), .slice ao t.length t.length, .int .i64 half, .slice ao1 ((want (t.getD i 0) t half).length) cap1, .agg (idA (t.getD i 0)), .slice ao1 ((want (t.getD i 0) t half).length) cap1, .int .i64 half, .slice ao2 ((want (t.getD i 0) (want (t.getD i 0) t half) half).length) cap2, .slice ao1 ((want (t.getD i 0) t half).length) cap1, .bool true, .bool false, .int .i64 ((i + 1 : Nat) : Int)] : List Value).getD kz undef), rfl, rfl, hil, GG, kg1⟩
set_option maxRecDepth 100000 in
set_option maxHeartbeats 4000000 in
theorem ringRound_any (w : World) (ao : Option Addr) (cap : Nat) (l : List Nat) (H : RC w ao cap l) : Calls Try.prog 8 #[.slice ao l.length cap] w (fun e w' => e = .returned (.bool true) ∧ Gro w w') := by
  refine s_enter Try.func8 rfl Try.ntmps8 [.slice ao l.length cap] [.slice ao l.length cap, undef, undef, undef, undef, undef, undef, undef, undef, undef, undef, undef, undef, undef, undef, undef, undef, undef, undef, undef, undef, undef, undef, undef, undef, undef, undef, undef, undef, undef, undef, undef, undef, undef, undef, undef, undef, undef, undef, undef, undef, undef, undef, undef, undef, undef, undef, undef, undef, undef, undef, undef, undef, undef, undef, undef, undef, undef, undef, undef, undef, undef, undef, undef, undef, undef, undef, undef, undef, undef, undef, undef, undef, undef, undef, undef, undef, undef, undef, undef, undef, undef, undef, undef, undef, undef, undef] rfl ?_
  have GG := Gro.refl w
  obtain ⟨t, ht⟩ : ∃ t, l.take 60 = t := ⟨_, rfl⟩
  have HT : RC w ao t.length t := ht ▸ H.takeN 60
  have htl : t.length ≤ 60 := by rw [← ht, List.length_take]; omega
  refine wp_seq ?_
  refine wp_region_lit ?_
  refine s_val 2 rfl rfl (.bool false) (rfl) ?_
  refine nr ?_; intro U h; simp only [z0, z1] at h; subst h
  refine wpList_nil ?_
  refine then_n ?_
  refine wp_seq ?_
  refine wp_region_lit ?_
  refine s_val 11 rfl rfl (.slice ao l.length cap) (rfl) ?_
  refine nr ?_; intro U h; simp only [z0, z1] at h; subst h
  refine s_callv 12 rfl rfl _ 9 Try.call9 rfl rfl _ rfl [.slice ao l.length cap, .int .i64 60] rfl (Calls.valV (cut_any _ ao cap l (H.gro GG) 60) (by rw [ht])) ?_
  intro w1 G
  replace GG := GG.trans G
  clear G
  refine nr ?_; intro U h; simp only [z0, z1] at h; subst h
  refine s_val 0 rfl rfl (.slice ao t.length t.length) (rfl) ?_
  refine nr ?_; intro U h; simp only [z0] at h; subst h
  refine wpList_nil ?_
  refine then_n ?_
  refine wp_seq ?_
  refine wp_seq ?_
  refine wp_region_lit ?_
  refine s_val 13 rfl rfl (.slice ao t.length t.length) (rfl) ?_
  refine nr ?_; intro U h; simp only [z0, z1] at h; subst h
  refine s_val 14 rfl rfl (.int .i64 ((t.length : Nat) : Int)) (run_len Try.underlying24 _ rfl _ _ _ rfl _) ?_
  refine nr ?_; intro U h; simp only [z0, z1] at h; subst h
  cases hz : decide (((t.length : Nat) : Int) = 0)
  · have hz1 : 0 < t.length := by have := of_decide_eq_false hz; omega
    obtain ⟨C, hCl, hC0, hCt, hCs, hCb, hCn, hCe⟩ := round_all HT.all hz1
    have hAl := lin_len (kc 0) (t.getD 0 0) t
    refine s_val 15 rfl rfl (.bool false) (run_eq_k 3 .i64 _ _ _ rfl Try.underlying3 ((t.length : Nat) : Int) 0 rfl rfl false hz _) ?_
    refine nr ?_; intro U h; simp only [z0, z1] at h; subst h
    refine wpList_nil ?_
    refine then_n ?_
    refine wp_cond_false rfl ?_
    refine wp_skip ?_
    refine then_n ?_
    refine wp_seq ?_
    refine wp_region_lit ?_
    refine s_val 27 rfl rfl (.slice ao t.length t.length) (rfl) ?_
    refine nr ?_; intro U h; simp only [z0, z1] at h; subst h
    refine s_val 28 rfl rfl (.pointer (pA ao 0)) (run_ixI (HT.gro GG) _ _ rfl rfl 0 rfl hz1) ?_
    refine nr ?_; intro U h; simp only [z0, z1] at h; subst h
    refine s_val 29 rfl rfl (.agg (idA (t.getD 0 0))) (run_ldI (HT.gro GG) _ rfl 0 rfl hz1) ?_
    refine nr ?_; intro U h; simp only [z0, z1] at h; subst h
    refine s_val 30 rfl rfl (.slice ao t.length t.length) (rfl) ?_
    refine nr ?_; intro U h; simp only [z0, z1] at h; subst h
    refine s_callx 31 rfl rfl _ 16 Try.call16 rfl rfl _ rfl [.agg (idA (t.getD 0 0)), .slice ao t.length t.length] rfl (refsorted_any _ ao t.length t (HT.gro GG) (by omega) (t.getD 0 0) (HT.at hz1)) (by rintro _ _ ⟨_, _, he, _⟩; exact ⟨_, he⟩) ?_
    rintro v w2 ⟨ao1, cap1, he, G, HR1⟩
    cases he
    replace GG := GG.trans G
    clear G
    refine nr ?_; intro U h; simp only [z0, z1] at h; subst h
    refine s_val 5 rfl rfl (.slice ao1 ((lin (kc 0) (t.getD 0 0) t).length) cap1) (rfl) ?_
    refine nr ?_; intro U h; simp only [z0, z1] at h; subst h
    refine wpList_nil ?_
    refine then_n ?_
    refine wp_seq ?_
    refine wp_region_lit ?_
    refine s_val 32 rfl rfl (.slice ao t.length t.length) (rfl) ?_
    refine nr ?_; intro U h; simp only [z0, z1] at h; subst h
    refine s_val 33 rfl rfl (.pointer (pA ao 0)) (run_ixI (HT.gro GG) _ _ rfl rfl 0 rfl hz1) ?_
    refine nr ?_; intro U h; simp only [z0, z1] at h; subst h
    refine s_val 34 rfl rfl (.agg (idA (t.getD 0 0))) (run_ldI (HT.gro GG) _ rfl 0 rfl hz1) ?_
    refine nr ?_; intro U h; simp only [z0, z1] at h; subst h
    refine s_alloc 6 rfl rfl 23 rfl _ zero23 (idA 0) rfl ?_
    intro w3 g1 G eg1 kg1
    have bg1 := size_base GG eg1
    have dHR1g1 := HR1.ne eg1
    replace HR1 := HR1.gro G
    replace GG := GG.trans G
    clear G
    clear eg1
    refine nr ?_; intro U h; simp only [z0, z1] at h; subst h
    refine s_store rfl rfl 23 _ _ rfl g1 0 rfl (.agg (idA (t.getD 0 0))) rfl 23 _ kg1 (idA (t.getD 0 0)) rfl (size23' _) (idA_fit _ _) (idA_one _) (idA (t.getD 0 0)) (splice_whole _ _ (idA_sz _ _)) ?_
    intro w4 St
    replace HR1 := HR1.st St dHR1g1
    replace GG := GG.store St bg1
    replace kg1 := St.new
    clear St
    refine wpList_nil ?_
    refine then_n ?_
    refine wp_seq ?_
    refine wp_seq ?_
    refine wp_region_lit ?_
    refine s_val 35 rfl rfl (.slice ao1 ((lin (kc 0) (t.getD 0 0) t).length) cap1) (rfl) ?_
    refine nr ?_; intro U h; simp only [z0, z1] at h; subst h
    refine s_val 36 rfl rfl (.int .i64 (((lin (kc 0) (t.getD 0 0) t).length : Nat) : Int)) (run_len Try.underlying24 _ rfl _ _ _ rfl _) ?_
    refine nr ?_; intro U h; simp only [z0, z1] at h; subst h
    refine s_val 37 rfl rfl (.int .i64 0) (rfl) ?_
    refine nr ?_; intro U h; simp only [z0, z1] at h; subst h
    refine wpList_nil ?_
    refine then_n ?_
    refine wp_block ?_
    refine wp_loopN (fun mz az wv => ∃ (j : Nat) (us1 : Nat → Value), mz = (lin (kc 0) (t.getD 0 0) t).length - j ∧ az = ⟨[.slice ao t.length t.length, undef, us1 0, undef, undef, .slice ao1 ((lin (kc 0) (t.getD 0 0) t).length) cap1, .pointer (some ⟨g1, 0, none⟩), us1 1, us1 2, undef, undef, .slice ao l.length cap, .slice ao t.length t.length, .slice ao t.length t.length, .int .i64 ((t.length : Nat) : Int), .bool false, undef, undef, undef, undef, undef, undef, undef, undef, undef, undef, undef, .slice ao t.length t.length, .pointer (pA ao 0), .agg (idA (t.getD 0 0)), .slice ao t.length t.length, .slice ao1 ((lin (kc 0) (t.getD 0 0) t).length) cap1, .slice ao t.length t.length, .pointer (pA ao 0), .agg (idA (t.getD 0 0)), .slice ao1 ((lin (kc 0) (t.getD 0 0) t).length) cap1, .int .i64 (((lin (kc 0) (t.getD 0 0) t).length : Nat) : Int), .int .i64 ((j : Nat) : Int), us1 3, us1 4, us1 5, us1 6, us1 7, us1 8, us1 9, us1 10, us1 11, us1 12, us1 13, us1 14, us1 15, us1 16, us1 17, us1 18, us1 19, us1 20, us1 21, us1 22, us1 23, us1 24, us1 25, us1 26, undef, undef, undef, undef, undef, undef, undef, undef, undef, undef, undef, undef, undef, undef, undef, undef, undef, undef, undef, undef, undef, undef, undef, undef, undef].toArray, []⟩ ∧ j ≤ (lin (kc 0) (t.getD 0 0) t).length ∧ Gro w wv ∧ wv.heap[g1]? = some (.cells (idA (C.getD j 0)) 23 (0, 0)) ∧ RC wv ao1 cap1 (lin (kc 0) (t.getD 0 0) t)) ?_ _ ⟨0, (fun kz => ([.bool false, undef, undef, undef, undef, undef, undef, undef, undef, undef, undef, undef, undef, undef, undef, undef, undef, undef, undef, undef, undef, undef, undef, undef, undef, undef, undef] : List Value).getD kz undef), rfl, rfl, Nat.zero_le _, GG, (by rw [hC0]; exact kg1), HR1⟩
    clear GG kg1 HR1
    rintro mz az wv ⟨j, us1, rfl, rfl, hj, GG, kg1, HR1⟩
    refine wp_seq ?_
    refine wp_region_lit ?_
    cases hj1 : decide (((j : Nat) : Int) < (((lin (kc 0) (t.getD 0 0) t).length : Nat) : Int))
    · have hje : j = (lin (kc 0) (t.getD 0 0) t).length := by have := of_decide_eq_false hj1; omega
      refine s_val 38 rfl rfl (.bool false) (run_lssT 3 _ _ _ rfl ((j : Nat) : Int) (((lin (kc 0) (t.getD 0 0) t).length : Nat) : Int) rfl rfl false hj1 _) ?_
      refine nr ?_; intro U h; simp only [z0, z1] at h; subst h
      refine wpList_nil ?_
      refine then_n ?_
      refine wp_seq ?_
      refine wp_cond_false rfl ?_
      refine wp_exit ?_
      refine then_x ?_
      refine then_x ?_
      refine blk_x ?_
      refine then_n ?_
      refine wp_seq ?_
      subst hje
      have hCl2 : C.length - 1 = (lin (kc 0) (t.getD 0 0) t).length := by omega
      cases hz2 : decide ((lin (kc 0) (t.getD 0 0) t).length = 0)
      · have hzz : (lin (kc 0) (t.getD 0 0) t).length ≠ 0 := of_decide_eq_false hz2
        have hE : nxt (C.getD (lin (kc 0) (t.getD 0 0) t).length 0) t = some (t.getD 0 0) := by rw [← hCl2]; exact hCb (by omega)
        refine wp_region_lit ?_
        refine s_val 63 rfl rfl (.agg (idA (C.getD (lin (kc 0) (t.getD 0 0) t).length 0))) (run_ldB _ rfl g1 _ rfl (kg1)) ?_
        refine nr ?_; intro U h; simp only [z0, z1] at h; subst h
        refine s_val 64 rfl rfl (.slice ao t.length t.length) (rfl) ?_
        refine nr ?_; intro U h; simp only [z0, z1] at h; subst h
        refine s_callv 65 rfl rfl _ 17 Try.call17 rfl rfl _ rfl [.agg (idA (C.getD (lin (kc 0) (t.getD 0 0) t).length 0)), .slice ao t.length t.length] rfl (Calls.valV (next_any _ ao t.length t (HT.gro GG) (by omega) (C.getD (lin (kc 0) (t.getD 0 0) t).length 0) (hCt (lin (kc 0) (t.getD 0 0) t).length (by omega))) (by rw [hE]; first | done | rfl)) ?_
        intro w5 G
        replace kg1 := G.has kg1
        replace HR1 := HR1.gro G
        replace GG := GG.trans G
        clear G
        refine nr ?_; intro U h; simp only [z0, z1] at h; subst h
        refine s_val 62 rfl rfl (.tuple #[.agg (idA (t.getD 0 0)), .bool true]) (rfl) ?_
        refine nr ?_; intro U h; simp only [z0, z1] at h; subst h
        refine s_val 66 rfl rfl (.agg (idA (t.getD 0 0))) (rfl) ?_
        refine nr ?_; intro U h; simp only [z0, z1] at h; subst h
        refine s_val 67 rfl rfl (.bool true) (rfl) ?_
        refine nr ?_; intro U h; simp only [z0, z1] at h; subst h
        refine s_alloc 9 rfl rfl 23 rfl _ zero23 (idA 0) rfl ?_
        intro w6 g3 G eg3 kg3
        have bg3 := size_base GG eg3
        have dg1g3 := lt_new kg1 eg3
        have dHR1g3 := HR1.ne eg3
        replace kg1 := G.has kg1
        replace HR1 := HR1.gro G
        replace GG := GG.trans G
        clear G
        clear eg3
        refine nr ?_; intro U h; simp only [z0, z1] at h; subst h
        refine s_store rfl rfl 23 _ _ rfl g3 0 rfl (.agg (idA (t.getD 0 0))) rfl 23 _ kg3 (idA (t.getD 0 0)) rfl (size23' _) (idA_fit _ _) (idA_one _) (idA (t.getD 0 0)) (splice_whole _ _ (idA_sz _ _)) ?_
        intro w7 St
        replace kg1 := St.has (by omega) kg1
        replace HR1 := HR1.st St dHR1g3
        replace GG := GG.store St bg3
        replace kg3 := St.new
        clear St
        refine s_val 10 rfl rfl (.bool true) (rfl) ?_
        refine nr ?_; intro U h; simp only [z0, z1] at h; subst h
        refine wpList_nil ?_
        refine then_n ?_
        refine wp_seq ?_
        refine wp_region_exA (A := ?Ax31) 18 [(0, 68), (1, 69), (2, 70), (3, 71), (4, 72), (5, 73), (6, 74), (7, 75), (8, 76), (9, 77), (10, 78), (11, 79), (12, 80), (13, 81), (14, 82), (15, 83), (16, 84), (17, 85)] [.val (.bool true), .val (.bool true), .val (.bool true), .val (.slice ao1 ((lin (kc 0) (t.getD 0 0) t).length) cap1), .val (.int .i64 (((lin (kc 0) (t.getD 0 0) t).length : Nat) : Int)), .val (.bool true), .val (.bool true), .val (.bool true), .val (.bool true), .val (.bool true), .val (.bool false), .val (.bool false), .val (.agg (idA (t.getD 0 0))), .val (.slice ao t.length t.length), .val (.pointer (pA ao 0)), .val (.agg (idA (t.getD 0 0))), .val (.bool true), .val (.bool true)] follows (by kernel_rfl) rfl ?hAx31 (opsA_cons ?o0x31 (opsA_cons ?o1x31 (opsA_cons ?o2x31 (opsA_cons ?o3x31 (opsA_cons ?o4x31 (opsA_cons ?o5x31 (opsA_cons ?o6x31 (opsA_cons ?o7x31 (opsA_cons ?o8x31 (opsA_cons ?o9x31 (opsA_cons ?o10x31 (opsA_cons ?o11x31 (opsA_cons ?o12x31 (opsA_cons ?o13x31 (opsA_cons ?o14x31 (opsA_cons ?o15x31 (opsA_cons ?o16x31 (opsA_cons ?o17x31 opsA_nil)))))))))))))))))) ?restx31
        case hAx31 =>
          intro ptrs
          simp only [full, foldSlots, filledE, postE, List.foldl_cons, List.foldl_nil, List.getD_cons_zero, List.getD_cons_succ, fill_val, List.set_cons_zero, List.set_cons_succ]
          exact rfl
        case o0x31 =>
          intro ptrs w' hw hE
          exact opE_call (.val (.bool true)) rfl _ 13 Try.call13 rfl rfl _ rfl [] rfl ((fixed_any _).mono fun e w' ⟨he, hg⟩ => ⟨_, he, hg, rfl⟩)
        case o1x31 => exact fun _ _ _ _ => opE_move (v := .bool true) _ rfl rfl rfl
        case o2x31 => exact fun _ _ _ _ => opE_move (v := .bool true) _ rfl rfl rfl
        case o3x31 => exact fun _ _ _ _ => opE_move (v := .slice ao1 ((lin (kc 0) (t.getD 0 0) t).length) cap1) _ rfl rfl rfl
        case o4x31 => exact fun _ _ _ _ => opE_value (v := .int .i64 (((lin (kc 0) (t.getD 0 0) t).length : Nat) : Int)) rfl (run_len Try.underlying24 _ rfl _ _ _ rfl _)
        case o5x31 => exact fun _ _ _ _ => opE_value (v := .bool true) rfl (run_gtrT 3 _ _ _ rfl (((lin (kc 0) (t.getD 0 0) t).length : Nat) : Int) 0 rfl rfl true (by first | exact decide_eq_true (by omega) | exact decide_eq_false (by omega)) _)
        case o6x31 => exact fun _ _ _ _ => opE_value (v := .bool true) rfl (run_eqB 4 _ _ _ rfl true true rfl rfl Try.underlying4 true rfl _)
        case o7x31 => exact fun _ _ _ _ => opE_pick (v := .bool true) _ _ _ rfl rfl true rfl rfl
        case o8x31 => exact fun _ _ _ _ => opE_move (v := .bool true) _ rfl rfl rfl
        case o9x31 => exact fun _ _ _ _ => opE_move (v := .bool true) _ rfl rfl rfl
        case o10x31 => exact fun _ _ _ _ => opE_value (v := .bool false) rfl (run_nt _ _ rfl true rfl)
        case o11x31 => exact fun _ _ _ _ => opE_move (v := .bool false) _ rfl rfl rfl
        case o12x31 => exact fun _ _ hw _ => opE_value (v := .agg (idA (t.getD 0 0))) rfl (run_ldB _ rfl g3 _ rfl (hw.has kg3))
        case o13x31 => exact fun _ _ _ _ => opE_move (v := .slice ao t.length t.length) _ rfl rfl rfl
        case o14x31 => exact fun _ _ hw _ => opE_value (v := .pointer (pA ao 0)) rfl (run_ixI (HT.gro (GG.drew.trans hw)) _ _ rfl rfl 0 rfl hz1)
        case o15x31 => exact fun _ _ hw _ => opE_value (v := .agg (idA (t.getD 0 0))) rfl (run_ldI (HT.gro (GG.drew.trans hw)) _ rfl 0 rfl hz1)
        case o16x31 => exact fun _ _ _ _ => opE_value (v := .bool true) rfl (run_eqI _ _ _ rfl _ _ rfl rfl (HT.at hz1) (HT.at hz1) true (decide_eq_true rfl))
        case o17x31 => exact fun _ _ _ _ => opE_pick (v := .bool true) _ _ _ rfl rfl false rfl rfl
        intro ptrs w8 GD hxE
        simp only [List.drop_succ_cons, List.drop_zero]
        replace kg1 := GD.has kg1
        replace kg3 := GD.has kg3
        replace HR1 := HR1.gro ((Gro.refl _).drew.trans GD)
        replace GG := GG.drew.trans GD
        clear GD
        refine s_val 86 rfl rfl (.bool true) (rfl) ?_
        refine nr ?_; intro U h; simp only [z0, z1] at h; subst h
        refine s_val 2 rfl rfl (.bool true) (rfl) ?_
        refine nr ?_; intro U h; simp only [z0, z1] at h; subst h
        refine wpList_nil ?_
        refine then_n ?_
        refine wp_ret ?_
        refine bodyPost_ret (results_tmp Try.results8 _ _ _) rfl ?_
        exact ⟨rfl, GG⟩
      · have hzz : (lin (kc 0) (t.getD 0 0) t).length = 0 := of_decide_eq_true hz2
        have hE : nxt (C.getD (lin (kc 0) (t.getD 0 0) t).length 0) t = none := by rw [hzz, hC0]; exact hCe (by omega)
        refine wp_region_lit ?_
        refine s_val 63 rfl rfl (.agg (idA (C.getD (lin (kc 0) (t.getD 0 0) t).length 0))) (run_ldB _ rfl g1 _ rfl (kg1)) ?_
        refine nr ?_; intro U h; simp only [z0, z1] at h; subst h
        refine s_val 64 rfl rfl (.slice ao t.length t.length) (rfl) ?_
        refine nr ?_; intro U h; simp only [z0, z1] at h; subst h
        refine s_callv 65 rfl rfl _ 17 Try.call17 rfl rfl _ rfl [.agg (idA (C.getD (lin (kc 0) (t.getD 0 0) t).length 0)), .slice ao t.length t.length] rfl (Calls.valV (next_any _ ao t.length t (HT.gro GG) (by omega) (C.getD (lin (kc 0) (t.getD 0 0) t).length 0) (hCt (lin (kc 0) (t.getD 0 0) t).length (by omega))) (by rw [hE]; first | done | rfl)) ?_
        intro w5 G
        replace kg1 := G.has kg1
        replace HR1 := HR1.gro G
        replace GG := GG.trans G
        clear G
        refine nr ?_; intro U h; simp only [z0, z1] at h; subst h
        refine s_val 62 rfl rfl (.tuple #[.agg (idA 0), .bool false]) (rfl) ?_
        refine nr ?_; intro U h; simp only [z0, z1] at h; subst h
        refine s_val 66 rfl rfl (.agg (idA 0)) (rfl) ?_
        refine nr ?_; intro U h; simp only [z0, z1] at h; subst h
        refine s_val 67 rfl rfl (.bool false) (rfl) ?_
        refine nr ?_; intro U h; simp only [z0, z1] at h; subst h
        refine s_alloc 9 rfl rfl 23 rfl _ zero23 (idA 0) rfl ?_
        intro w6 g3 G eg3 kg3
        have bg3 := size_base GG eg3
        have dg1g3 := lt_new kg1 eg3
        have dHR1g3 := HR1.ne eg3
        replace kg1 := G.has kg1
        replace HR1 := HR1.gro G
        replace GG := GG.trans G
        clear G
        clear eg3
        refine nr ?_; intro U h; simp only [z0, z1] at h; subst h
        refine s_store rfl rfl 23 _ _ rfl g3 0 rfl (.agg (idA 0)) rfl 23 _ kg3 (idA 0) rfl (size23' _) (idA_fit _ _) (idA_one _) (idA 0) (splice_whole _ _ (idA_sz _ _)) ?_
        intro w7 St
        replace kg1 := St.has (by omega) kg1
        replace HR1 := HR1.st St dHR1g3
        replace GG := GG.store St bg3
        replace kg3 := St.new
        clear St
        refine s_val 10 rfl rfl (.bool false) (rfl) ?_
        refine nr ?_; intro U h; simp only [z0, z1] at h; subst h
        refine wpList_nil ?_
        refine then_n ?_
        refine wp_seq ?_
        refine wp_region_exA (A := ?Ax32) 18 [(0, 68), (1, 69), (2, 70), (3, 71), (4, 72), (5, 73), (6, 74), (7, 75), (8, 76), (9, 77), (10, 78), (11, 79), (12, 80), (13, 81), (14, 82), (15, 83), (16, 84), (17, 85)] [.val (.bool true), .val (.bool true), .val (.bool false), .val (.slice ao1 ((lin (kc 0) (t.getD 0 0) t).length) cap1), .val (.int .i64 (((lin (kc 0) (t.getD 0 0) t).length : Nat) : Int)), .val (.bool false), .val (.bool true), .val (.bool true), .val (.bool true), .val (.bool false), .val (.bool true), .val (.bool true), .val undef, .val undef, .val undef, .val undef, .val undef, .val (.bool true)] follows (by kernel_rfl) rfl ?hAx32 (opsA_cons ?o0x32 (opsA_cons ?o1x32 (opsA_cons ?o2x32 (opsA_cons ?o3x32 (opsA_cons ?o4x32 (opsA_cons ?o5x32 (opsA_cons ?o6x32 (opsA_cons ?o7x32 (opsA_cons ?o8x32 (opsA_cons ?o9x32 (opsA_cons ?o10x32 (opsA_cons ?o11x32 (opsA_cons ?o12x32 (opsA_cons ?o13x32 (opsA_cons ?o14x32 (opsA_cons ?o15x32 (opsA_cons ?o16x32 (opsA_cons ?o17x32 opsA_nil)))))))))))))))))) ?restx32
        case hAx32 =>
          intro ptrs
          simp only [full, foldSlots, filledE, postE, List.foldl_cons, List.foldl_nil, List.getD_cons_zero, List.getD_cons_succ, fill_val, List.set_cons_zero, List.set_cons_succ]
          exact rfl
        case o0x32 =>
          intro ptrs w' hw hE
          exact opE_call (.val (.bool true)) rfl _ 13 Try.call13 rfl rfl _ rfl [] rfl ((fixed_any _).mono fun e w' ⟨he, hg⟩ => ⟨_, he, hg, rfl⟩)
        case o1x32 => exact fun _ _ _ _ => opE_move (v := .bool true) _ rfl rfl rfl
        case o2x32 => exact fun _ _ _ _ => opE_move (v := .bool false) _ rfl rfl rfl
        case o3x32 => exact fun _ _ _ _ => opE_move (v := .slice ao1 ((lin (kc 0) (t.getD 0 0) t).length) cap1) _ rfl rfl rfl
        case o4x32 => exact fun _ _ _ _ => opE_value (v := .int .i64 (((lin (kc 0) (t.getD 0 0) t).length : Nat) : Int)) rfl (run_len Try.underlying24 _ rfl _ _ _ rfl _)
        case o5x32 => exact fun _ _ _ _ => opE_value (v := .bool false) rfl (run_gtrT 3 _ _ _ rfl (((lin (kc 0) (t.getD 0 0) t).length : Nat) : Int) 0 rfl rfl false (by first | exact decide_eq_true (by omega) | exact decide_eq_false (by omega)) _)
        case o6x32 => exact fun _ _ _ _ => opE_value (v := .bool true) rfl (run_eqB 4 _ _ _ rfl false false rfl rfl Try.underlying4 true rfl _)
        case o7x32 => exact fun _ _ _ _ => opE_pick (v := .bool true) _ _ _ rfl rfl true rfl rfl
        case o8x32 => exact fun _ _ _ _ => opE_move (v := .bool true) _ rfl rfl rfl
        case o9x32 => exact fun _ _ _ _ => opE_move (v := .bool false) _ rfl rfl rfl
        case o10x32 => exact fun _ _ _ _ => opE_value (v := .bool true) rfl (run_nt _ _ rfl false rfl)
        case o11x32 => exact fun _ _ _ _ => opE_move (v := .bool true) _ rfl rfl rfl
        case o12x32 => exact fun _ _ _ _ => opE_skip rfl
        case o13x32 => exact fun _ _ _ _ => opE_skip rfl
        case o14x32 => exact fun _ _ _ _ => opE_skip rfl
        case o15x32 => exact fun _ _ _ _ => opE_skip rfl
        case o16x32 => exact fun _ _ _ _ => opE_skip rfl
        case o17x32 => exact fun _ _ _ _ => opE_pick (v := .bool true) _ _ _ rfl rfl true rfl rfl
        intro ptrs w8 GD hxE
        simp only [List.drop_succ_cons, List.drop_zero]
        replace kg1 := GD.has kg1
        replace kg3 := GD.has kg3
        replace HR1 := HR1.gro ((Gro.refl _).drew.trans GD)
        replace GG := GG.drew.trans GD
        clear GD
        refine s_val 86 rfl rfl (.bool true) (rfl) ?_
        refine nr ?_; intro U h; simp only [z0, z1] at h; subst h
        refine s_val 2 rfl rfl (.bool true) (rfl) ?_
        refine nr ?_; intro U h; simp only [z0, z1] at h; subst h
        refine wpList_nil ?_
        refine then_n ?_
        refine wp_ret ?_
        refine bodyPost_ret (results_tmp Try.results8 _ _ _) rfl ?_
        exact ⟨rfl, GG⟩
    · have hjl : j < (lin (kc 0) (t.getD 0 0) t).length := by have := of_decide_eq_true hj1; omega
      obtain ⟨hne, hin⟩ := hCn (j + 1) (by omega) (by omega)
      refine s_val 38 rfl rfl (.bool true) (run_lssT 3 _ _ _ rfl ((j : Nat) : Int) (((lin (kc 0) (t.getD 0 0) t).length : Nat) : Int) rfl rfl true hj1 _) ?_
      refine nr ?_; intro U h; simp only [z0, z1] at h; subst h
      refine wpList_nil ?_
      refine then_n ?_
      refine wp_seq ?_
      refine wp_cond_true rfl ?_
      refine wp_skip ?_
      refine then_n ?_
      refine wp_seq ?_
      refine wp_block ?_
      refine wp_seq ?_
      refine wp_region_lit ?_
      refine s_val 40 rfl rfl (.agg (idA (C.getD j 0))) (run_ldB _ rfl g1 _ rfl (kg1)) ?_
      refine nr ?_; intro U h; simp only [z0, z1] at h; subst h
      refine s_val 41 rfl rfl (.slice ao t.length t.length) (rfl) ?_
      refine nr ?_; intro U h; simp only [z0, z1] at h; subst h
      refine s_callv 42 rfl rfl _ 17 Try.call17 rfl rfl _ rfl [.agg (idA (C.getD j 0)), .slice ao t.length t.length] rfl (Calls.valV (next_any _ ao t.length t (HT.gro GG) (by omega) (C.getD j 0) (hCt j (by omega))) (by rw [hCs j (by omega)]; first | done | rfl)) ?_
      intro w5 G
      replace kg1 := G.has kg1
      replace HR1 := HR1.gro G
      replace GG := GG.trans G
      clear G
      refine nr ?_; intro U h; simp only [z0, z1] at h; subst h
      refine s_val 39 rfl rfl (.tuple #[.agg (idA (C.getD (j + 1) 0)), .bool true]) (rfl) ?_
      refine nr ?_; intro U h; simp only [z0, z1] at h; subst h
      refine s_val 43 rfl rfl (.agg (idA (C.getD (j + 1) 0))) (rfl) ?_
      refine nr ?_; intro U h; simp only [z0, z1] at h; subst h
      refine s_val 44 rfl rfl (.bool true) (rfl) ?_
      refine nr ?_; intro U h; simp only [z0, z1] at h; subst h
      refine s_alloc 7 rfl rfl 23 rfl _ zero23 (idA 0) rfl ?_
      intro w6 g2 G eg2 kg2
      have bg2 := size_base GG eg2
      have dg1g2 := lt_new kg1 eg2
      have dHR1g2 := HR1.ne eg2
      replace kg1 := G.has kg1
      replace HR1 := HR1.gro G
      replace GG := GG.trans G
      clear G
      clear eg2
      refine nr ?_; intro U h; simp only [z0, z1] at h; subst h
      refine s_store rfl rfl 23 _ _ rfl g2 0 rfl (.agg (idA (C.getD (j + 1) 0))) rfl 23 _ kg2 (idA (C.getD (j + 1) 0)) rfl (size23' _) (idA_fit _ _) (idA_one _) (idA (C.getD (j + 1) 0)) (splice_whole _ _ (idA_sz _ _)) ?_
      intro w7 St
      replace kg1 := St.has (by omega) kg1
      replace HR1 := HR1.st St dHR1g2
      replace GG := GG.store St bg2
      replace kg2 := St.new
      clear St
      refine s_val 8 rfl rfl (.bool true) (rfl) ?_
      refine nr ?_; intro U h; simp only [z0, z1] at h; subst h
      refine wpList_nil ?_
      refine then_n ?_
      refine wp_seq ?_
      refine wp_seq ?_
      refine wp_region_exA (A := ?Ax33) 14 [(0, 45), (1, 46), (2, 47), (3, 48), (4, 49), (5, 50), (6, 51), (7, 52), (8, 53), (9, 54), (10, 55), (11, 56), (12, 57), (13, 58)] [.val (.bool true), .val (.bool false), .val (.bool false), .val (.agg (idA (C.getD (j + 1) 0))), .val (.slice ao t.length t.length), .val (.pointer (pA ao 0)), .val (.agg (idA (t.getD 0 0))), .val (.bool false), .val (.bool false), .val (.bool false), .val (.slice ao1 ((lin (kc 0) (t.getD 0 0) t).length) cap1), .val (.agg (idA (C.getD (j + 1) 0))), .val (.bool true), .val (.bool false)] follows (by kernel_rfl) rfl ?hAx33 (opsA_cons ?o0x33 (opsA_cons ?o1x33 (opsA_cons ?o2x33 (opsA_cons ?o3x33 (opsA_cons ?o4x33 (opsA_cons ?o5x33 (opsA_cons ?o6x33 (opsA_cons ?o7x33 (opsA_cons ?o8x33 (opsA_cons ?o9x33 (opsA_cons ?o10x33 (opsA_cons ?o11x33 (opsA_cons ?o12x33 (opsA_cons ?o13x33 opsA_nil)))))))))))))) ?restx33
      case hAx33 =>
        intro ptrs
        simp only [full, foldSlots, filledE, postE, List.foldl_cons, List.foldl_nil, List.getD_cons_zero, List.getD_cons_succ, fill_val, List.set_cons_zero, List.set_cons_succ]
        exact rfl
      case o0x33 => exact fun _ _ _ _ => opE_move (v := .bool true) _ rfl rfl rfl
      case o1x33 => exact fun _ _ _ _ => opE_value (v := .bool false) rfl (run_nt _ _ rfl true rfl)
      case o2x33 => exact fun _ _ _ _ => opE_move (v := .bool false) _ rfl rfl rfl
      case o3x33 => exact fun _ _ hw _ => opE_value (v := .agg (idA (C.getD (j + 1) 0))) rfl (run_ldB _ rfl g2 _ rfl (hw.has kg2))
      case o4x33 => exact fun _ _ _ _ => opE_move (v := .slice ao t.length t.length) _ rfl rfl rfl
      case o5x33 => exact fun _ _ hw _ => opE_value (v := .pointer (pA ao 0)) rfl (run_ixI (HT.gro (GG.drew.trans hw)) _ _ rfl rfl 0 rfl hz1)
      case o6x33 => exact fun _ _ hw _ => opE_value (v := .agg (idA (t.getD 0 0))) rfl (run_ldI (HT.gro (GG.drew.trans hw)) _ rfl 0 rfl hz1)
      case o7x33 => exact fun _ _ _ _ => opE_value (v := .bool false) rfl (run_eqI _ _ _ rfl _ _ rfl rfl (hCt (j + 1) (by omega)) (HT.at hz1) false (decide_eq_false hne))
      case o8x33 => exact fun _ _ _ _ => opE_pick (v := .bool false) _ _ _ rfl rfl false rfl rfl
      case o9x33 => exact fun _ _ _ _ => opE_move (v := .bool false) _ rfl rfl rfl
      case o10x33 => exact fun _ _ _ _ => opE_move (v := .slice ao1 ((lin (kc 0) (t.getD 0 0) t).length) cap1) _ rfl rfl rfl
      case o11x33 => exact fun _ _ hw _ => opE_value (v := .agg (idA (C.getD (j + 1) 0))) rfl (run_ldB _ rfl g2 _ rfl (hw.has kg2))
      case o12x33 =>
        intro ptrs w' hw hE
        exact opE_call (.val (.bool true)) rfl _ 20 Try.call20 rfl rfl _ rfl [.slice ao1 ((lin (kc 0) (t.getD 0 0) t).length) cap1, .agg (idA (C.getD (j + 1) 0))] rfl ((Calls.bool (refhas_any _ ao1 cap1 (lin (kc 0) (t.getD 0 0) t) (HR1.gro ((Gro.refl _).drew.trans hw)) (by have := lin_len (kc 0) (t.getD 0 0) t; omega) (C.getD (j + 1) 0) (hCt (j + 1) (by omega))) (decide_eq_true hin)).mono fun e w' ⟨he, hg⟩ => ⟨_, he, hg, rfl⟩)
      case o13x33 => exact fun _ _ _ _ => opE_value (v := .bool false) rfl (run_nt _ _ rfl true rfl)
      intro ptrs w8 GD hxE
      simp only [List.drop_succ_cons, List.drop_zero]
      replace kg1 := GD.has kg1
      replace kg2 := GD.has kg2
      replace HR1 := HR1.gro ((Gro.refl _).drew.trans GD)
      replace GG := GG.drew.trans GD
      clear GD
      refine s_val 59 rfl rfl (.bool false) (rfl) ?_
      refine nr ?_; intro U h; simp only [z0, z1] at h; subst h
      refine wpList_nil ?_
      refine then_n ?_
      refine wp_cond_false rfl ?_
      refine wp_skip ?_
      refine then_n ?_
      refine wp_region_lit ?_
      refine s_val 60 rfl rfl (.agg (idA (C.getD (j + 1) 0))) (run_ldB _ rfl g2 _ rfl (kg2)) ?_
      refine nr ?_; intro U h; simp only [z0, z1] at h; subst h
      refine s_store rfl rfl 23 _ _ rfl g1 0 rfl (.agg (idA (C.getD (j + 1) 0))) rfl 23 _ kg1 (idA (C.getD (j + 1) 0)) rfl (size23' _) (idA_fit _ _) (idA_one _) (idA (C.getD (j + 1) 0)) (splice_whole _ _ (idA_sz _ _)) ?_
      intro w9 St
      replace kg2 := St.has (by omega) kg2
      replace HR1 := HR1.st St dHR1g1
      replace GG := GG.store St bg1
      replace kg1 := St.new
      clear St
      refine wpList_nil ?_
      refine blk_n ?_
      refine then_n ?_
      refine wp_region_lit ?_
      refine s_val 61 rfl rfl (.int .i64 ((j + 1 : Nat) : Int)) (run_addI 3 _ _ _ rfl ((j : Nat) : Int) 1 ((j + 1 : Nat) : Int) rfl rfl (by omega) (by omega) (by omega) _) ?_
      refine nr ?_; intro U h; simp only [z0, z1] at h; subst h
      refine s_val 37 rfl rfl (.int .i64 ((j + 1 : Nat) : Int)) (rfl) ?_
      refine nr ?_; intro U h; simp only [z0, z1] at h; subst h
      refine wpList_nil ?_
      refine then_n ?_
      exact ⟨_, (by omega : (lin (kc 0) (t.getD 0 0) t).length - (j + 1) < (lin (kc 0) (t.getD 0 0) t).length - j), j + 1, (fun kz => ([us1 0, .pointer (some ⟨g2, 0, none⟩), .bool true, .bool true, .tuple #[.agg (idA (C.getD (j + 1) 0)), .bool true], .agg (idA (C.getD j 0)), .slice ao t.length t.length, .tuple #[.agg (idA (C.getD (j + 1) 0)), .bool true], .agg (idA (C.getD (j + 1) 0)), .bool true, .bool true, .bool false, .bool false, .agg (idA (C.getD (j + 1) 0)), .slice ao t.length t.length, .pointer (pA ao 0), .agg (idA (t.getD 0 0)), .bool false, .bool false, .bool false, .slice ao1 ((lin (kc 0) (t.getD 0 0) t).length) cap1, .agg (idA (C.getD (j + 1) 0)), .bool true, .bool false, .bool false, .agg (idA (C.getD (j + 1) 0)), .int .i64 ((j + 1 : Nat) : Int)] : List Value).getD kz undef), rfl, rfl, hjl, GG, kg1, HR1⟩
  · have hz0 : t = [] := List.eq_nil_of_length_eq_zero (by have := of_decide_eq_true hz; omega)
    have hn0 : nxt 0 t = none := by rw [hz0]; rfl
    refine s_val 15 rfl rfl (.bool true) (run_eq_k 3 .i64 _ _ _ rfl Try.underlying3 ((t.length : Nat) : Int) 0 rfl rfl true hz _) ?_
    refine nr ?_; intro U h; simp only [z0, z1] at h; subst h
    refine wpList_nil ?_
    refine then_n ?_
    refine wp_cond_true rfl ?_
    refine wp_seq ?_
    refine wp_region_lit ?_
    refine s_val 17 rfl rfl (.agg (idA 0)) (run_bd0 rfl _) ?_
    refine nr ?_; intro U h; simp only [z0, z1] at h; subst h
    refine s_val 18 rfl rfl (.slice ao t.length t.length) (rfl) ?_
    refine nr ?_; intro U h; simp only [z0, z1] at h; subst h
    refine s_callv 19 rfl rfl _ 17 Try.call17 rfl rfl _ rfl [.agg (idA 0), .slice ao t.length t.length] rfl (Calls.valV (next_any _ ao t.length t (HT.gro GG) (by omega) 0 top_0) (by rw [hn0]; first | done | rfl)) ?_
    intro w2 G
    replace GG := GG.trans G
    clear G
    refine nr ?_; intro U h; simp only [z0, z1] at h; subst h
    refine s_val 16 rfl rfl (.tuple #[.agg (idA 0), .bool false]) (rfl) ?_
    refine nr ?_; intro U h; simp only [z0, z1] at h; subst h
    refine s_val 20 rfl rfl (.agg (idA 0)) (rfl) ?_
    refine nr ?_; intro U h; simp only [z0, z1] at h; subst h
    refine s_val 21 rfl rfl (.bool false) (rfl) ?_
    refine nr ?_; intro U h; simp only [z0, z1] at h; subst h
    refine s_alloc 3 rfl rfl 23 rfl _ zero23 (idA 0) rfl ?_
    intro w3 g4 G eg4 kg4
    have bg4 := size_base GG eg4
    replace GG := GG.trans G
    clear G
    clear eg4
    refine nr ?_; intro U h; simp only [z0, z1] at h; subst h
    refine s_store rfl rfl 23 _ _ rfl g4 0 rfl (.agg (idA 0)) rfl 23 _ kg4 (idA 0) rfl (size23' _) (idA_fit _ _) (idA_one _) (idA 0) (splice_whole _ _ (idA_sz _ _)) ?_
    intro w4 St
    replace GG := GG.store St bg4
    replace kg4 := St.new
    clear St
    refine s_val 4 rfl rfl (.bool false) (rfl) ?_
    refine nr ?_; intro U h; simp only [z0, z1] at h; subst h
    refine wpList_nil ?_
    refine then_n ?_
    refine wp_seq ?_
    refine wp_region_opq ?_
    intro OPS hY
    have y1 := hY 1 23 rfl
    clear hY
    refine s_callv 22 rfl rfl _ 13 Try.call13 rfl rfl _ rfl [] rfl (fixed_any _) ?_
    intro w5 G
    replace kg4 := G.has kg4
    replace GG := GG.trans G
    clear G
    refine nr ?_; intro U h; simp only [z0, z1] at h; subst h
    refine s_val 23 rfl rfl (.bool true) (rfl) ?_
    refine nr ?_; intro U h; simp only [z0, z1] at h; subst h
    refine s_gvalY 24 rfl rfl y1 rfl (.bool false) (rfl) ?_
    refine nr ?_; intro U h; simp only [z0, z1] at h; subst h
    refine s_gvalY 25 rfl rfl y1 rfl (.bool true) (run_nt _ _ rfl false rfl) ?_
    refine nr ?_; intro U h; simp only [z0, z1] at h; subst h
    refine s_val 26 rfl rfl (.bool true) (rfl) ?_
    refine nr ?_; intro U h; simp only [z0, z1] at h; subst h
    refine s_val 2 rfl rfl (.bool true) (rfl) ?_
    refine nr ?_; intro U h; simp only [z0, z1] at h; subst h
    refine wpList_nil ?_
    refine then_n ?_
    refine wp_ret ?_
    refine then_r ?_
    refine bodyPost_ret (results_tmp Try.results8 _ _ _) rfl ?_
    exact ⟨rfl, GG⟩
end Go.Proofs.Ytkckjkimjeakcaa
