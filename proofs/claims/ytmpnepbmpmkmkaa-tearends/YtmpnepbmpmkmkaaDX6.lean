/- What is told, held together; entries laid into tables; the chapter's example. -/
import Derived.Test.YtmpnepbmpmkmkaaDX4
namespace Go.Proofs.Ytmpnepbmpmkmkaa
open Classical
open Go.RowKit Go.Maps
theorem take_at {α : Type} (z : α) (l : List α) (i : Nat) (hi : i < l.length) : l.take (i + 1) = l.take i ++ [l.getD i z] := by
  rw [List.take_add_one, List.getElem?_eq_getElem hi, List.getD_eq_getElem?_getD, List.getElem?_eq_getElem hi]
  rfl
/-- Entries laid into a table, one by one. -/
def layR (room : Nat) (L : List En) : List En := L.foldl (addL room) []
theorem layR_app (room : Nat) (L : List En) (x : En) : layR room (L ++ [x]) = addL room (layR room L) x := by simp [layR]
theorem layR_step {room : Nat} {l : List En} {i : Nat} (hi : i < l.length) : layR room (l.take (i + 1)) = addL room (layR room (l.take i)) (l.getD i zE) := by rw [take_at zE l i hi, layR_app]
theorem layF_ti {room : Nat} : ∀ {L M : List En}, TI room M → AllE L → TI room (L.foldl (addL room) M)
  | [], _, h, _ => h
  | x :: r, _, h, hl => layF_ti (L := r) (h.add (hl x List.mem_cons_self)) fun z hz => hl z (List.mem_cons_of_mem _ hz)
theorem layR_ti {room : Nat} {L : List En} (h : AllE L) : TI room (layR room L) := layF_ti (TI.nil room) h
def LaidQ (w : World) (L : List En) (e : Ending) (w' : World) : Prop := ∃ t b r ra rc, e = .returned (.tuple #[.pointer (some ⟨t, 0, none⟩), .pointer (some ⟨r, 0, none⟩)]) ∧ Gro w w' ∧ w'.heap[t]? = some (.cells (tbA 128 b) 83 (0, 0)) ∧ TM w' b L ∧ w'.heap[r]? = some (.cells (rbA ra L.length rc 128) 43 (0, 0)) ∧ OE w' 0 ra rc L ∧ w.heap.size ≤ t ∧ w.heap.size ≤ b ∧ w.heap.size ≤ r
theorem new128 (w : World) : Calls Try.prog 20 #[.int .i64 128] w (NewP w 128) := by
  have h := new_any 128 w
  rwa [show rmF 128 = 128 from by decide] at h
theorem rnew128 (w : World) : Calls Try.prog 21 #[.int .i64 128] w (RNewP w 128) := by
  have h := rnew_any 128 w
  rwa [show rmF 128 = 128 from by decide] at h
theorem map_one {H : List Hp} {k : Int × Pa} (h : H.map Hp.key = [k]) : ∃ x, H = [x] ∧ x.key = k := by
  cases H with
  | nil => cases h
  | cons x r =>
    rw [List.map_cons] at h
    injection h with h1 h2
    rw [List.map_eq_nil_iff] at h2
    exact ⟨x, by rw [h2], h1⟩
theorem key_at {H1 H2 : List Hp} (h : H1.map Hp.key = H2.map Hp.key) (i : Nat) : (H1.getD i zHp).key = (H2.getD i zHp).key := by
  have e : ∀ H : List Hp, (H.getD i zHp).key = (H.map Hp.key).getD i zHp.key := fun H => by
    rw [List.getD_eq_getElem?_getD, List.getD_eq_getElem?_getD, List.getElem?_map]
    cases H[i]? <;> rfl
  rw [e, e, h]
set_option maxRecDepth 100000 in
set_option maxHeartbeats 4000000 in
theorem sameP_any (w : World) (ao bo : Option Addr) (c d : Nat) (P : List Pa) (H1 : RK kP w ao c P) (H2 : RK kP w bo d P) (hl : P.length ≤ 1000000) : Calls Try.prog 27 #[.slice ao P.length c, .slice bo P.length d] w (fun e w' => e = .returned (.bool true) ∧ Gro w w') := by
  refine s_enter Try.func27 rfl Try.ntmps27 [.slice ao P.length c, .slice bo P.length d] [.slice ao P.length c, .slice bo P.length d, undef, undef, undef, undef, undef, undef, undef, undef, undef, undef, undef, undef, undef, undef, undef, undef, undef, undef, undef, undef, undef, undef, undef, undef] rfl ?_
  have GG := Gro.refl w
  refine wp_seq ?_
  refine wp_region_lit ?_
  refine s_val 4 rfl rfl (.bool false) (rfl) ?_
  refine nr ?_; intro U h; simp only [z0, z1] at h; subst h
  refine wpList_nil ?_
  refine then_n ?_
  refine wp_seq ?_
  refine wp_seq ?_
  refine wp_region_lit ?_
  refine s_val 6 rfl rfl (.slice ao P.length c) (rfl) ?_
  refine nr ?_; intro U h; simp only [z0, z1] at h; subst h
  refine s_val 7 rfl rfl (.int .i64 ((P.length : Nat) : Int)) (run_len Try.underlying32 _ rfl _ _ _ rfl _) ?_
  refine nr ?_; intro U h; simp only [z0, z1] at h; subst h
  refine s_val 8 rfl rfl (.slice bo P.length d) (rfl) ?_
  refine nr ?_; intro U h; simp only [z0, z1] at h; subst h
  refine s_val 9 rfl rfl (.int .i64 ((P.length : Nat) : Int)) (run_len Try.underlying32 _ rfl _ _ _ rfl _) ?_
  refine nr ?_; intro U h; simp only [z0, z1] at h; subst h
  refine s_val 10 rfl rfl (.bool false) (run_neq_k 3 .i64 _ _ _ rfl Try.underlying3 ((P.length : Nat) : Int) ((P.length : Nat) : Int) rfl rfl false (decide_eq_true rfl) _) ?_
  refine nr ?_; intro U h; simp only [z0, z1] at h; subst h
  refine wpList_nil ?_
  refine then_n ?_
  refine wp_cond_false rfl ?_
  refine wp_skip ?_
  refine then_n ?_
  refine wp_seq ?_
  refine wp_seq ?_
  refine wp_region_lit ?_
  refine s_val 5 rfl rfl (.int .i64 0) (rfl) ?_
  refine nr ?_; intro U h; simp only [z0, z1] at h; subst h
  refine wpList_nil ?_
  refine then_n ?_
  refine wp_block ?_
  refine wp_loopN (fun mz az wv => ∃ (i : Nat) (us1 : Nat → Value), mz = P.length + 1 - i ∧ az = ⟨[.slice ao P.length c, .slice bo P.length d, undef, undef, us1 0, .int .i64 ((i : Nat) : Int), .slice ao P.length c, .int .i64 ((P.length : Nat) : Int), .slice bo P.length d, .int .i64 ((P.length : Nat) : Int), .bool false, us1 1, us1 2, us1 3, us1 4, us1 5, us1 6, us1 7, us1 8, us1 9, us1 10, us1 11, us1 12, us1 13, us1 14, us1 15].toArray, []⟩ ∧ i ≤ P.length ∧ Gro w wv) ?_ _ ⟨0, (fun kz => ([.bool false, undef, undef, undef, undef, undef, undef, undef, undef, undef, undef, undef, undef, undef, undef, undef] : List Value).getD kz undef), rfl, rfl, Nat.zero_le _, GG⟩
  clear GG
  rintro mz az wv ⟨i, us1, rfl, rfl, hi, GG⟩
  refine wp_seq ?_
  refine wp_seq ?_
  refine wp_region_lit ?_
  refine s_val 11 rfl rfl (.int .i64 ((i : Nat) : Int)) (rfl) ?_
  refine nr ?_; intro U h; simp only [z0, z1] at h; subst h
  refine s_val 12 rfl rfl (.slice ao P.length c) (rfl) ?_
  refine nr ?_; intro U h; simp only [z0, z1] at h; subst h
  refine s_val 13 rfl rfl (.int .i64 ((P.length : Nat) : Int)) (run_len Try.underlying32 _ rfl _ _ _ rfl _) ?_
  refine nr ?_; intro U h; simp only [z0, z1] at h; subst h
  cases hi1 : decide (((i : Nat) : Int) < ((P.length : Nat) : Int))
  · have hie : i = P.length := by have := of_decide_eq_false hi1; omega
    refine s_val 14 rfl rfl (.bool false) (run_lssT 3 _ _ _ rfl ((i : Nat) : Int) ((P.length : Nat) : Int) rfl rfl false hi1 _) ?_
    refine nr ?_; intro U h; simp only [z0, z1] at h; subst h
    refine wpList_nil ?_
    refine then_n ?_
    refine wp_cond_false rfl ?_
    refine wp_exit ?_
    refine then_x ?_
    refine then_x ?_
    refine blk_x ?_
    refine then_n ?_
    refine wp_seq ?_
    refine wp_region_lit ?_
    refine s_val 4 rfl rfl (.bool true) (rfl) ?_
    refine nr ?_; intro U h; simp only [z0, z1] at h; subst h
    refine wpList_nil ?_
    refine then_n ?_
    refine wp_ret ?_
    refine bodyPost_ret (results_tmp Try.results27 _ _ _) rfl ?_
    exact ⟨rfl, GG⟩
  · have hil : i < P.length := by have := of_decide_eq_true hi1; omega
    refine s_val 14 rfl rfl (.bool true) (run_lssT 3 _ _ _ rfl ((i : Nat) : Int) ((P.length : Nat) : Int) rfl rfl true hi1 _) ?_
    refine nr ?_; intro U h; simp only [z0, z1] at h; subst h
    refine wpList_nil ?_
    refine then_n ?_
    refine wp_cond_true rfl ?_
    refine wp_skip ?_
    refine then_n ?_
    refine wp_seq ?_
    refine wp_block ?_
    refine wp_seq ?_
    refine wp_region_exA (A := ?Ax1) 8 [(0, 17), (1, 18), (2, 19), (3, 20), (4, 21), (5, 22), (6, 23), (7, 24)] [.val (.slice ao P.length c), .val (.int .i64 ((i : Nat) : Int)), .val (.pointer (pK kP ao i 0)), .val (.agg (paA (P.getD i zP))), .val (.slice bo P.length d), .val (.int .i64 ((i : Nat) : Int)), .val (.pointer (pK kP bo i 0)), .val (.agg (paA (P.getD i zP)))] follows (by kernel_rfl) rfl ?hAx1 (opsA_cons ?o0x1 (opsA_cons ?o1x1 (opsA_cons ?o2x1 (opsA_cons ?o3x1 (opsA_cons ?o4x1 (opsA_cons ?o5x1 (opsA_cons ?o6x1 (opsA_cons ?o7x1 opsA_nil)))))))) ?restx1
    case hAx1 =>
      intro ptrs
      simp only [full, foldSlots, filledE, postE, List.foldl_cons, List.foldl_nil, List.getD_cons_zero, List.getD_cons_succ, fill_val, List.set_cons_zero, List.set_cons_succ]
      exact rfl
    case o0x1 => exact fun _ _ _ _ => opE_move (v := .slice ao P.length c) _ rfl rfl rfl
    case o1x1 => exact fun _ _ _ _ => opE_move (v := .int .i64 ((i : Nat) : Int)) _ rfl rfl rfl
    case o2x1 => exact fun _ _ hw _ => opE_value (v := .pointer (pK kP ao i 0)) rfl (run_ixK rP (H1.gro (GG.drew.trans hw)) _ _ rfl rfl i rfl (by omega))
    case o3x1 => exact fun _ _ hw _ => opE_value (v := .agg (paA (P.getD i zP))) rfl (run_ldPp (H1.gro (GG.drew.trans hw)) _ rfl i rfl (by omega))
    case o4x1 => exact fun _ _ _ _ => opE_move (v := .slice bo P.length d) _ rfl rfl rfl
    case o5x1 => exact fun _ _ _ _ => opE_move (v := .int .i64 ((i : Nat) : Int)) _ rfl rfl rfl
    case o6x1 => exact fun _ _ hw _ => opE_value (v := .pointer (pK kP bo i 0)) rfl (run_ixK rP (H2.gro (GG.drew.trans hw)) _ _ rfl rfl i rfl (by omega))
    case o7x1 => exact fun _ _ hw _ => opE_value (v := .agg (paA (P.getD i zP))) rfl (run_ldPp (H2.gro (GG.drew.trans hw)) _ rfl i rfl (by omega))
    intro ptrs w1 GD hxE
    simp only [List.drop_succ_cons, List.drop_zero]
    replace GG := GG.drew.trans GD
    clear GD
    refine s_val 25 rfl rfl (.bool false) (run_neP _ _ _ rfl _ _ rfl rfl (H1.at hil) (H1.at hil) false (decide_eq_true rfl)) ?_
    refine nr ?_; intro U h; simp only [z0, z1] at h; subst h
    refine wpList_nil ?_
    refine then_n ?_
    refine wp_cond_false rfl ?_
    refine wp_skip ?_
    refine blk_n ?_
    refine then_n ?_
    refine wp_region_lit ?_
    refine s_val 15 rfl rfl (.int .i64 ((i : Nat) : Int)) (rfl) ?_
    refine nr ?_; intro U h; simp only [z0, z1] at h; subst h
    refine s_val 16 rfl rfl (.int .i64 ((i + 1 : Nat) : Int)) (run_addI 3 _ _ _ rfl ((i : Nat) : Int) 1 ((i + 1 : Nat) : Int) rfl rfl (by omega) (by omega) (by omega) _) ?_
    refine nr ?_; intro U h; simp only [z0, z1] at h; subst h
    refine s_val 5 rfl rfl (.int .i64 ((i + 1 : Nat) : Int)) (rfl) ?_
    refine nr ?_; intro U h; simp only [z0, z1] at h; subst h
    refine wpList_nil ?_
    refine then_n ?_
    exact ⟨P.length + 1 - (i + 1), by omega, i + 1, (fun kz => ([us1 0, .int .i64 ((i : Nat) : Int), .slice ao P.length c, .int .i64 ((P.length : Nat) : Int), .bool true, .int .i64 ((i : Nat) : Int), .int .i64 ((i + 1 : Nat) : Int), .slice ao P.length c, .int .i64 ((i : Nat) : Int), .pointer (pK kP ao i 0), .agg (paA (P.getD i zP)), .slice bo P.length d, .int .i64 ((i : Nat) : Int), .pointer (pK kP bo i 0), .agg (paA (P.getD i zP)), .bool false] : List Value).getD kz undef), rfl, rfl, by omega, GG⟩
set_option maxRecDepth 100000 in
set_option maxHeartbeats 4000000 in
theorem same_any (w : World) (t : Tn) (hlo : t.out.length ≤ 100000) (hll : t.lost.length ≤ 100000) (B1 B2 : Nat) (ao1 ao2 bo1 bo2 : Option Addr) (c1 c2 d1 d2 : Nat) (H1 H2 : List Hp) (HN1 : TnP w B1 t ao1 c1 H1 bo1 d1) (HN2 : TnP w B2 t ao2 c2 H2 bo2 d2) : Calls Try.prog 10 #[.agg (tnA ao1 H1.length c1 bo1 (t.lost).length d1), .agg (tnA ao2 H2.length c2 bo2 (t.lost).length d2)] w (fun e w' => e = .returned (.bool true) ∧ Gro w w') := by
  refine s_enter Try.func10 rfl Try.ntmps10 [.agg (tnA ao1 H1.length c1 bo1 (t.lost).length d1), .agg (tnA ao2 H2.length c2 bo2 (t.lost).length d2)] [.agg (tnA ao1 H1.length c1 bo1 (t.lost).length d1), .agg (tnA ao2 H2.length c2 bo2 (t.lost).length d2), undef, undef, undef, undef, undef, undef, undef, undef, undef, undef, undef, undef, undef, undef, undef, undef, undef, undef, undef, undef, undef, undef, undef, undef, undef, undef, undef, undef, undef, undef, undef, undef, undef, undef, undef, undef, undef, undef, undef, undef, undef, undef, undef, undef, undef, undef, undef, undef, undef, undef, undef, undef, undef, undef, undef] rfl ?_
  have GG := Gro.refl w
  have hl1 := HN1.len
  have hl2 := HN2.len
  have hl12 : H1.length = H2.length := by omega
  refine wp_seq ?_
  refine wp_region_lit ?_
  refine s_box 2 rfl rfl 34 _ rfl _ rfl (tnA ao1 H1.length c1 bo1 (t.lost).length d1) rfl ?_
  intro w1 g1 G eg1 kg1
  have bg1 := size_base GG eg1
  replace HN1 := HN1.gro G
  replace HN2 := HN2.gro G
  replace GG := GG.trans G
  clear G
  clear eg1
  refine nr ?_; intro U h; simp only [z0, z1] at h; subst h
  refine s_box 3 rfl rfl 38 _ rfl _ rfl (tnA ao2 H2.length c2 bo2 (t.lost).length d2) rfl ?_
  intro w2 g2 G eg2 kg2
  have bg2 := size_base GG eg2
  have dg1g2 := lt_new kg1 eg2
  replace kg1 := G.has kg1
  replace HN1 := HN1.gro G
  replace HN2 := HN2.gro G
  replace GG := GG.trans G
  clear G
  clear eg2
  refine nr ?_; intro U h; simp only [z0, z1] at h; subst h
  refine s_val 4 rfl rfl (.bool false) (rfl) ?_
  refine nr ?_; intro U h; simp only [z0, z1] at h; subst h
  refine wpList_nil ?_
  refine then_n ?_
  refine wp_seq ?_
  refine wp_seq ?_
  refine wp_region_opq ?_
  intro OPS hY
  have y7 := hY 7 13 rfl
  clear hY
  refine s_val 6 rfl rfl (.pointer (some ⟨g1, 0, none⟩)) (run_fld 34 _ 0 rfl g1 0 rfl 0 (by kernel_rfl)) ?_
  refine nr ?_; intro U h; simp only [z0, z1] at h; subst h
  refine s_val 7 rfl rfl (.slice ao1 H1.length c1) (ldT_o _ rfl g1 rfl (kg1)) ?_
  refine nr ?_; intro U h; simp only [z0, z1] at h; subst h
  refine s_val 8 rfl rfl (.int .i64 ((H1.length : Nat) : Int)) (run_len Try.underlying31 _ rfl _ _ _ rfl _) ?_
  refine nr ?_; intro U h; simp only [z0, z1] at h; subst h
  refine s_val 9 rfl rfl (.pointer (some ⟨g2, 0, none⟩)) (run_fld 38 _ 0 rfl g2 0 rfl 0 (by kernel_rfl)) ?_
  refine nr ?_; intro U h; simp only [z0, z1] at h; subst h
  refine s_val 10 rfl rfl (.slice ao2 H2.length c2) (ldQ_o _ rfl g2 rfl (kg2)) ?_
  refine nr ?_; intro U h; simp only [z0, z1] at h; subst h
  refine s_val 11 rfl rfl (.int .i64 ((H2.length : Nat) : Int)) (run_len Try.underlying31 _ rfl _ _ _ rfl _) ?_
  refine nr ?_; intro U h; simp only [z0, z1] at h; subst h
  refine s_val 12 rfl rfl (.bool false) (run_neq_k 3 .i64 _ _ _ rfl Try.underlying3 ((H1.length : Nat) : Int) ((H2.length : Nat) : Int) rfl rfl false (decide_eq_true (by rw [hl12])) _) ?_
  refine nr ?_; intro U h; simp only [z0, z1] at h; subst h
  refine s_val 13 rfl rfl (.bool false) (rfl) ?_
  refine nr ?_; intro U h; simp only [z0, z1] at h; subst h
  refine s_gvalY 14 rfl rfl y7 rfl (.pointer (some ⟨g1, 1, none⟩)) (run_fld 34 _ 1 rfl g1 0 rfl 1 (by kernel_rfl)) ?_
  refine nr ?_; intro U h; simp only [z0, z1] at h; subst h
  refine s_gvalY 15 rfl rfl y7 rfl (.slice bo1 (t.lost).length d1) (ldT_l _ rfl g1 rfl (kg1)) ?_
  refine nr ?_; intro U h; simp only [z0, z1] at h; subst h
  refine s_gvalY 16 rfl rfl y7 rfl (.pointer (some ⟨g2, 1, none⟩)) (run_fld 38 _ 1 rfl g2 0 rfl 1 (by kernel_rfl)) ?_
  refine nr ?_; intro U h; simp only [z0, z1] at h; subst h
  refine s_gvalY 17 rfl rfl y7 rfl (.slice bo2 (t.lost).length d2) (ldQ_l _ rfl g2 rfl (kg2)) ?_
  refine nr ?_; intro U h; simp only [z0, z1] at h; subst h
  refine s_gcallvY 18 rfl rfl y7 rfl _ 27 Try.call27 rfl rfl _ rfl [.slice bo1 (t.lost).length d1, .slice bo2 (t.lost).length d2] rfl (sameP_any _ bo1 bo2 d1 d2 t.lost HN1.lost.re HN2.lost.re (by omega)) ?_
  intro w3 G
  replace kg1 := G.has kg1
  replace kg2 := G.has kg2
  replace HN1 := HN1.gro G
  replace HN2 := HN2.gro G
  replace GG := GG.trans G
  clear G
  refine nr ?_; intro U h; simp only [z0, z1] at h; subst h
  refine s_gvalY 19 rfl rfl y7 rfl (.bool false) (run_nt _ _ rfl true rfl) ?_
  refine nr ?_; intro U h; simp only [z0, z1] at h; subst h
  refine s_val 20 rfl rfl (.bool false) (rfl) ?_
  refine nr ?_; intro U h; simp only [z0, z1] at h; subst h
  refine wpList_nil ?_
  refine then_n ?_
  refine wp_cond_false rfl ?_
  refine wp_skip ?_
  refine then_n ?_
  refine wp_seq ?_
  refine wp_seq ?_
  refine wp_region_lit ?_
  refine s_val 21 rfl rfl (.pointer (some ⟨g1, 0, none⟩)) (run_fld 34 _ 0 rfl g1 0 rfl 0 (by kernel_rfl)) ?_
  refine nr ?_; intro U h; simp only [z0, z1] at h; subst h
  refine s_val 22 rfl rfl (.slice ao1 H1.length c1) (ldT_o _ rfl g1 rfl (kg1)) ?_
  refine nr ?_; intro U h; simp only [z0, z1] at h; subst h
  refine s_val 23 rfl rfl (.int .i64 ((H1.length : Nat) : Int)) (run_len Try.underlying31 _ rfl _ _ _ rfl _) ?_
  refine nr ?_; intro U h; simp only [z0, z1] at h; subst h
  refine s_val 24 rfl rfl (.int .i64 0) (rfl) ?_
  refine nr ?_; intro U h; simp only [z0, z1] at h; subst h
  refine wpList_nil ?_
  refine then_n ?_
  refine wp_block ?_
  refine wp_loopN (fun mz az wv => ∃ (i : Nat) (us1 : Nat → Value), mz = H1.length + 1 - i ∧ az = ⟨[.agg (tnA ao1 H1.length c1 bo1 (t.lost).length d1), .agg (tnA ao2 H2.length c2 bo2 (t.lost).length d2), .pointer (some ⟨g1, 0, none⟩), .pointer (some ⟨g2, 0, none⟩), us1 0, us1 1, .pointer (some ⟨g1, 0, none⟩), .slice ao1 H1.length c1, .int .i64 ((H1.length : Nat) : Int), .pointer (some ⟨g2, 0, none⟩), .slice ao2 H2.length c2, .int .i64 ((H2.length : Nat) : Int), .bool false, .bool false, .pointer (some ⟨g1, 1, none⟩), .slice bo1 (t.lost).length d1, .pointer (some ⟨g2, 1, none⟩), .slice bo2 (t.lost).length d2, .bool true, .bool false, .bool false, .pointer (some ⟨g1, 0, none⟩), .slice ao1 H1.length c1, .int .i64 ((H1.length : Nat) : Int), .int .i64 ((i : Nat) : Int), us1 2, us1 3, us1 4, us1 5, us1 6, us1 7, us1 8, us1 9, us1 10, us1 11, us1 12, us1 13, us1 14, us1 15, us1 16, us1 17, us1 18, us1 19, us1 20, us1 21, us1 22, us1 23, us1 24, us1 25, us1 26, us1 27, us1 28, us1 29, us1 30, us1 31, us1 32, us1 33].toArray, []⟩ ∧ i ≤ H1.length ∧ Gro w wv ∧ wv.heap[g1]? = some (.cells (tnA ao1 H1.length c1 bo1 (t.lost).length d1) 34 (0, 0)) ∧ wv.heap[g2]? = some (.cells (tnA ao2 H2.length c2 bo2 (t.lost).length d2) 38 (0, 0)) ∧ TnP wv B1 t ao1 c1 H1 bo1 d1 ∧ TnP wv B2 t ao2 c2 H2 bo2 d2) ?_ _ ⟨0, (fun kz => ([.bool false, undef, undef, undef, undef, undef, undef, undef, undef, undef, undef, undef, undef, undef, undef, undef, undef, undef, undef, undef, undef, undef, undef, undef, undef, undef, undef, undef, undef, undef, undef, undef, undef, undef] : List Value).getD kz undef), rfl, rfl, Nat.zero_le _, GG, kg1, kg2, HN1, HN2⟩
  clear GG kg1 kg2 HN1 HN2
  rintro mz az wv ⟨i, us1, rfl, rfl, hi, GG, kg1, kg2, HN1, HN2⟩
  refine wp_seq ?_
  refine wp_region_lit ?_
  cases hi1 : decide (((i : Nat) : Int) < ((H1.length : Nat) : Int))
  · refine s_val 25 rfl rfl (.bool false) (run_lssT 3 _ _ _ rfl ((i : Nat) : Int) ((H1.length : Nat) : Int) rfl rfl false hi1 _) ?_
    refine nr ?_; intro U h; simp only [z0, z1] at h; subst h
    refine wpList_nil ?_
    refine then_n ?_
    refine wp_seq ?_
    refine wp_cond_false rfl ?_
    refine wp_exit ?_
    refine then_x ?_
    refine then_x ?_
    refine blk_x ?_
    refine then_n ?_
    refine wp_seq ?_
    refine wp_region_lit ?_
    refine s_val 4 rfl rfl (.bool true) (rfl) ?_
    refine nr ?_; intro U h; simp only [z0, z1] at h; subst h
    refine wpList_nil ?_
    refine then_n ?_
    refine wp_ret ?_
    refine bodyPost_ret (results_tmp Try.results10 _ _ _) rfl ?_
    exact ⟨rfl, GG⟩
  · have hil : i < H1.length := by have := of_decide_eq_true hi1; omega
    have hil2 : i < H2.length := by omega
    have hkk := key_at (HN1.eq.trans HN2.eq.symm) i
    have hkn : (H1.getD i zHp).n = (H2.getD i zHp).n := congrArg Prod.fst hkk
    have hkp : (H1.getD i zHp).p = (H2.getD i zHp).p := congrArg Prod.snd hkk
    refine s_val 25 rfl rfl (.bool true) (run_lssT 3 _ _ _ rfl ((i : Nat) : Int) ((H1.length : Nat) : Int) rfl rfl true hi1 _) ?_
    refine nr ?_; intro U h; simp only [z0, z1] at h; subst h
    refine wpList_nil ?_
    refine then_n ?_
    refine wp_seq ?_
    refine wp_cond_true rfl ?_
    refine wp_skip ?_
    refine then_n ?_
    refine wp_seq ?_
    refine wp_block ?_
    refine wp_seq ?_
    refine wp_region_lit ?_
    refine s_val 26 rfl rfl (.int .i64 ((i : Nat) : Int)) (rfl) ?_
    refine nr ?_; intro U h; simp only [z0, z1] at h; subst h
    refine s_val 5 rfl rfl (.int .i64 ((i : Nat) : Int)) (rfl) ?_
    refine nr ?_; intro U h; simp only [z0, z1] at h; subst h
    refine wpList_nil ?_
    refine then_n ?_
    refine wp_seq ?_
    refine wp_region_exA (A := ?Ax2) 28 [(0, 27), (1, 28), (2, 29), (3, 30), (4, 31), (5, 32), (6, 33), (7, 34), (8, 35), (9, 36), (10, 37), (11, 38), (12, 39), (13, 40), (14, 41), (15, 42), (16, 43), (17, 44), (18, 45), (19, 46), (20, 47), (21, 48), (22, 49), (23, 50), (24, 51), (25, 52), (26, 53), (27, 54)] [.val (.pointer (some ⟨g1, 0, none⟩)), .val (.slice ao1 H1.length c1), .val (.int .i64 ((i : Nat) : Int)), .val (.pointer (pK kH ao1 i 0)), .val (.pointer (pK kH ao1 i 0)), .val (.int .i64 (H1.getD i zHp).n), .val (.pointer (some ⟨g2, 0, none⟩)), .val (.slice ao2 H2.length c2), .val (.int .i64 ((i : Nat) : Int)), .val (.pointer (pK kH ao2 i 0)), .val (.pointer (pK kH ao2 i 0)), .val (.int .i64 (H2.getD i zHp).n), .val (.bool false), .val (.bool false), .val (.pointer (some ⟨g1, 0, none⟩)), .val (.slice ao1 H1.length c1), .val (.int .i64 ((i : Nat) : Int)), .val (.pointer (pK kH ao1 i 0)), .val (.pointer (pK kH ao1 i 1)), .val (.agg (frA (H1.getD i zHp).fr)), .val (.pointer (some ⟨g2, 0, none⟩)), .val (.slice ao2 H2.length c2), .val (.int .i64 ((i : Nat) : Int)), .val (.pointer (pK kH ao2 i 0)), .val (.pointer (pK kH ao2 i 1)), .val (.agg (frA (H2.getD i zHp).fr)), .val (.bool true), .val (.bool false)] follows (by kernel_rfl) rfl ?hAx2 (opsA_cons ?o0x2 (opsA_cons ?o1x2 (opsA_cons ?o2x2 (opsA_cons ?o3x2 (opsA_cons ?o4x2 (opsA_cons ?o5x2 (opsA_cons ?o6x2 (opsA_cons ?o7x2 (opsA_cons ?o8x2 (opsA_cons ?o9x2 (opsA_cons ?o10x2 (opsA_cons ?o11x2 (opsA_cons ?o12x2 (opsA_cons ?o13x2 (opsA_cons ?o14x2 (opsA_cons ?o15x2 (opsA_cons ?o16x2 (opsA_cons ?o17x2 (opsA_cons ?o18x2 (opsA_cons ?o19x2 (opsA_cons ?o20x2 (opsA_cons ?o21x2 (opsA_cons ?o22x2 (opsA_cons ?o23x2 (opsA_cons ?o24x2 (opsA_cons ?o25x2 (opsA_cons ?o26x2 (opsA_cons ?o27x2 opsA_nil)))))))))))))))))))))))))))) ?restx2
    case hAx2 =>
      intro ptrs
      simp only [full, foldSlots, filledE, postE, List.foldl_cons, List.foldl_nil, List.getD_cons_zero, List.getD_cons_succ, fill_val, List.set_cons_zero, List.set_cons_succ]
      exact rfl
    case o0x2 => exact fun _ _ _ _ => opE_value (v := .pointer (some ⟨g1, 0, none⟩)) rfl (run_fld 34 _ 0 rfl g1 0 rfl 0 (by kernel_rfl))
    case o1x2 => exact fun _ _ hw _ => opE_value (v := .slice ao1 H1.length c1) rfl (ldT_o _ rfl g1 rfl (hw.has kg1))
    case o2x2 => exact fun _ _ _ _ => opE_move (v := .int .i64 ((i : Nat) : Int)) _ rfl rfl rfl
    case o3x2 => exact fun _ _ hw _ => opE_value (v := .pointer (pK kH ao1 i 0)) rfl (run_ixK rH ((HN1.gro ((Gro.refl _).drew.trans hw)).out.re) _ _ rfl rfl i rfl (by omega))
    case o4x2 => exact fun _ _ hw _ => opE_value (v := .pointer (pK kH ao1 i 0)) rfl (run_fdKq ((HN1.gro ((Gro.refl _).drew.trans hw)).out.re) 67 _ 0 0 0 (fun ad => fdH_0 ad _) rfl i rfl (by omega))
    case o5x2 => exact fun _ _ hw _ => opE_value (v := .int .i64 (H1.getD i zHp).n) rfl (run_ldHn ((HN1.gro ((Gro.refl _).drew.trans hw)).out.re) _ rfl i rfl (by omega))
    case o6x2 => exact fun _ _ _ _ => opE_value (v := .pointer (some ⟨g2, 0, none⟩)) rfl (run_fld 38 _ 0 rfl g2 0 rfl 0 (by kernel_rfl))
    case o7x2 => exact fun _ _ hw _ => opE_value (v := .slice ao2 H2.length c2) rfl (ldQ_o _ rfl g2 rfl (hw.has kg2))
    case o8x2 => exact fun _ _ _ _ => opE_move (v := .int .i64 ((i : Nat) : Int)) _ rfl rfl rfl
    case o9x2 => exact fun _ _ hw _ => opE_value (v := .pointer (pK kH ao2 i 0)) rfl (run_ixK rH ((HN2.gro ((Gro.refl _).drew.trans hw)).out.re) _ _ rfl rfl i rfl (by omega))
    case o10x2 => exact fun _ _ hw _ => opE_value (v := .pointer (pK kH ao2 i 0)) rfl (run_fdKq ((HN2.gro ((Gro.refl _).drew.trans hw)).out.re) 67 _ 0 0 0 (fun ad => fdH_0 ad _) rfl i rfl (by omega))
    case o11x2 => exact fun _ _ hw _ => opE_value (v := .int .i64 (H2.getD i zHp).n) rfl (run_ldHn ((HN2.gro ((Gro.refl _).drew.trans hw)).out.re) _ rfl i rfl (by omega))
    case o12x2 => exact fun _ _ _ _ => opE_value (v := .bool false) rfl (run_neq_k 3 .i64 _ _ _ rfl Try.underlying3 (H1.getD i zHp).n (H2.getD i zHp).n rfl rfl false (decide_eq_true hkn) _)
    case o13x2 => exact fun _ _ _ _ => opE_move (v := .bool false) _ rfl rfl rfl
    case o14x2 => exact fun _ _ _ _ => opE_value (v := .pointer (some ⟨g1, 0, none⟩)) rfl (run_fld 34 _ 0 rfl g1 0 rfl 0 (by kernel_rfl))
    case o15x2 => exact fun _ _ hw _ => opE_value (v := .slice ao1 H1.length c1) rfl (ldT_o _ rfl g1 rfl (hw.has kg1))
    case o16x2 => exact fun _ _ _ _ => opE_move (v := .int .i64 ((i : Nat) : Int)) _ rfl rfl rfl
    case o17x2 => exact fun _ _ hw _ => opE_value (v := .pointer (pK kH ao1 i 0)) rfl (run_ixK rH ((HN1.gro ((Gro.refl _).drew.trans hw)).out.re) _ _ rfl rfl i rfl (by omega))
    case o18x2 => exact fun _ _ hw _ => opE_value (v := .pointer (pK kH ao1 i 1)) rfl (run_fdKq ((HN1.gro ((Gro.refl _).drew.trans hw)).out.re) 67 _ 1 0 1 (fun ad => fdH_1 ad _) rfl i rfl (by omega))
    case o19x2 => exact fun _ _ hw _ => opE_value (v := .agg (frA (H1.getD i zHp).fr)) rfl (run_ldHf ((HN1.gro ((Gro.refl _).drew.trans hw)).out.re) _ rfl i rfl (by omega))
    case o20x2 => exact fun _ _ _ _ => opE_value (v := .pointer (some ⟨g2, 0, none⟩)) rfl (run_fld 38 _ 0 rfl g2 0 rfl 0 (by kernel_rfl))
    case o21x2 => exact fun _ _ hw _ => opE_value (v := .slice ao2 H2.length c2) rfl (ldQ_o _ rfl g2 rfl (hw.has kg2))
    case o22x2 => exact fun _ _ _ _ => opE_move (v := .int .i64 ((i : Nat) : Int)) _ rfl rfl rfl
    case o23x2 => exact fun _ _ hw _ => opE_value (v := .pointer (pK kH ao2 i 0)) rfl (run_ixK rH ((HN2.gro ((Gro.refl _).drew.trans hw)).out.re) _ _ rfl rfl i rfl (by omega))
    case o24x2 => exact fun _ _ hw _ => opE_value (v := .pointer (pK kH ao2 i 1)) rfl (run_fdKq ((HN2.gro ((Gro.refl _).drew.trans hw)).out.re) 67 _ 1 0 1 (fun ad => fdH_1 ad _) rfl i rfl (by omega))
    case o25x2 => exact fun _ _ hw _ => opE_value (v := .agg (frA (H2.getD i zHp).fr)) rfl (run_ldHf ((HN2.gro ((Gro.refl _).drew.trans hw)).out.re) _ rfl i rfl (by omega))
    case o26x2 => exact fun _ _ _ _ => opE_call (.val (.bool true)) rfl _ 28 Try.call28 rfl rfl _ rfl [.agg (frA (H1.getD i zHp).fr), .agg (frA (H2.getD i zHp).fr)] rfl ((Calls.bool (same_d (H1.getD i zHp).fr (H2.getD i zHp).fr (dM (mDrop (H1.getD i zHp).p)) (dM (mDrop (H2.getD i zHp).p)) _ (Hp.frw (HN1.out.re.at hil) _) (Hp.frw (HN2.out.re.at hil2) _) (mDrop_lens _)) (hp_same hkp)).mono fun e w' ⟨he, hg⟩ => ⟨_, he, hg, rfl⟩)
    case o27x2 => exact fun _ _ _ _ => opE_value (v := .bool false) rfl (run_nt _ _ rfl true rfl)
    intro ptrs w4 GD hxE
    simp only [List.drop_succ_cons, List.drop_zero]
    replace kg1 := GD.has kg1
    replace kg2 := GD.has kg2
    replace HN1 := HN1.gro ((Gro.refl _).drew.trans GD)
    replace HN2 := HN2.gro ((Gro.refl _).drew.trans GD)
    replace GG := GG.drew.trans GD
    clear GD
    refine s_val 55 rfl rfl (.bool false) (rfl) ?_
    refine nr ?_; intro U h; simp only [z0, z1] at h; subst h
    refine wpList_nil ?_
    refine then_n ?_
    refine wp_cond_false rfl ?_
    refine wp_skip ?_
    refine blk_n ?_
    refine then_n ?_
    refine wp_region_lit ?_
    refine s_val 56 rfl rfl (.int .i64 ((i + 1 : Nat) : Int)) (run_addI 3 _ _ _ rfl ((i : Nat) : Int) 1 ((i + 1 : Nat) : Int) rfl rfl (by omega) (by omega) (by omega) _) ?_
    refine nr ?_; intro U h; simp only [z0, z1] at h; subst h
    refine s_val 24 rfl rfl (.int .i64 ((i + 1 : Nat) : Int)) (rfl) ?_
    refine nr ?_; intro U h; simp only [z0, z1] at h; subst h
    refine wpList_nil ?_
    refine then_n ?_
    exact ⟨H1.length + 1 - (i + 1), by omega, i + 1, (fun kz => ([us1 0, .int .i64 ((i : Nat) : Int), .bool true, .int .i64 ((i : Nat) : Int), .pointer (some ⟨g1, 0, none⟩), .slice ao1 H1.length c1, .int .i64 ((i : Nat) : Int), .pointer (pK kH ao1 i 0), .pointer (pK kH ao1 i 0), .int .i64 (H1.getD i zHp).n, .pointer (some ⟨g2, 0, none⟩), .slice ao2 H2.length c2, .int .i64 ((i : Nat) : Int), .pointer (pK kH ao2 i 0), .pointer (pK kH ao2 i 0), .int .i64 (H2.getD i zHp).n, .bool false, .bool false, .pointer (some ⟨g1, 0, none⟩), .slice ao1 H1.length c1, .int .i64 ((i : Nat) : Int), .pointer (pK kH ao1 i 0), .pointer (pK kH ao1 i 1), .agg (frA (H1.getD i zHp).fr), .pointer (some ⟨g2, 0, none⟩), .slice ao2 H2.length c2, .int .i64 ((i : Nat) : Int), .pointer (pK kH ao2 i 0), .pointer (pK kH ao2 i 1), .agg (frA (H2.getD i zHp).fr), .bool true, .bool false, .bool false, .int .i64 ((i + 1 : Nat) : Int)] : List Value).getD kz undef), rfl, rfl, by omega, GG, kg1, kg2, HN1, HN2⟩
set_option maxRecDepth 100000 in
set_option maxHeartbeats 4000000 in
theorem laid_any (w : World) (ao0 : Option Addr) (cap0 : Nat) (l : List En) (H : RE w ao0 cap0 l) (hl : l.length ≤ maxLen) : Calls Try.prog 7 #[.slice ao0 l.length cap0] w (LaidQ w (layR 128 l)) := by
  refine s_enter Try.func7 rfl Try.ntmps7 [.slice ao0 l.length cap0] [.slice ao0 l.length cap0, undef, undef, undef, undef, undef, undef, undef, undef, undef, undef, undef, undef, undef, undef, undef, undef, undef, undef, undef, undef, undef, undef, undef, undef] rfl ?_
  have GG := Gro.refl w
  rw [maxL] at hl
  refine wp_seq ?_
  refine wp_region_lit ?_
  refine s_val 2 rfl rfl (.pointer none) (rfl) ?_
  refine nr ?_; intro U h; simp only [z0, z1] at h; subst h
  refine s_val 3 rfl rfl (.pointer none) (rfl) ?_
  refine nr ?_; intro U h; simp only [z0, z1] at h; subst h
  refine wpList_nil ?_
  refine then_n ?_
  refine wp_seq ?_
  refine wp_region_lit ?_
  refine s_callx 8 rfl rfl _ 20 Try.call20 rfl rfl _ rfl [.int .i64 128] rfl (new128 _) (by rintro _ _ ⟨_, _, he, _⟩; exact ⟨_, he⟩) ?_
  rintro v w1 ⟨t, b, he, G, kt, HTt, h1t, h2t⟩
  cases he
  have bt := Nat.le_trans GG.size h1t
  have bb := Nat.le_trans GG.size h2t
  clear h1t h2t
  replace GG := GG.trans G
  clear G
  refine nr ?_; intro U h; simp only [z0, z1] at h; subst h
  refine s_val 4 rfl rfl (.pointer (some ⟨t, 0, none⟩)) (rfl) ?_
  refine nr ?_; intro U h; simp only [z0, z1] at h; subst h
  refine wpList_nil ?_
  refine then_n ?_
  refine wp_seq ?_
  refine wp_region_lit ?_
  refine s_callx 9 rfl rfl _ 21 Try.call21 rfl rfl _ rfl [.int .i64 128] rfl (rnew128 _) (by rintro _ _ ⟨_, he, _⟩; exact ⟨_, he⟩) ?_
  rintro v w2 ⟨r, he, G, kr, h1r⟩
  cases he
  have br := Nat.le_trans GG.size h1r
  clear h1r
  replace kt := G.has kt
  replace HTt := HTt.gro G
  replace GG := GG.trans G
  clear G
  refine nr ?_; intro U h; simp only [z0, z1] at h; subst h
  refine s_val 5 rfl rfl (.pointer (some ⟨r, 0, none⟩)) (rfl) ?_
  refine nr ?_; intro U h; simp only [z0, z1] at h; subst h
  refine wpList_nil ?_
  refine then_n ?_
  refine wp_seq ?_
  refine wp_seq ?_
  refine wp_region_lit ?_
  refine s_val 10 rfl rfl (.slice ao0 l.length cap0) (rfl) ?_
  refine nr ?_; intro U h; simp only [z0, z1] at h; subst h
  refine s_val 11 rfl rfl (.int .i64 ((l.length : Nat) : Int)) (run_len Try.underlying22 _ rfl _ _ _ rfl _) ?_
  refine nr ?_; intro U h; simp only [z0, z1] at h; subst h
  refine s_val 12 rfl rfl (.int .i64 0) (rfl) ?_
  refine nr ?_; intro U h; simp only [z0, z1] at h; subst h
  refine wpList_nil ?_
  refine then_n ?_
  refine wp_block ?_
  refine wp_loopN (fun mz az wv => ∃ (i : Nat) (ra : Option Addr) (rc : Nat) (us1 : Nat → Value), mz = l.length + 1 - i ∧ az = ⟨[.slice ao0 l.length cap0, undef, .pointer none, .pointer none, .pointer (some ⟨t, 0, none⟩), .pointer (some ⟨r, 0, none⟩), undef, us1 0, .pointer (some ⟨t, 0, none⟩), .pointer (some ⟨r, 0, none⟩), .slice ao0 l.length cap0, .int .i64 ((l.length : Nat) : Int), .int .i64 ((i : Nat) : Int), us1 1, us1 2, us1 3, us1 4, us1 5, us1 6, us1 7, us1 8, us1 9, us1 10, undef, undef].toArray, []⟩ ∧ i ≤ l.length ∧ Gro w wv ∧ wv.heap[t]? = some (.cells (tbA 128 b) 83 (0, 0)) ∧ TM wv b (layR 128 (l.take i)) ∧ wv.heap[r]? = some (.cells (rbA ra (layR 128 (l.take i)).length rc 128) 43 (0, 0)) ∧ OE wv 0 ra rc (layR 128 (l.take i))) ?_ _ ⟨0, none, 0, (fun kz => ([undef, undef, undef, undef, undef, undef, undef, undef, undef, undef, undef] : List Value).getD kz undef), rfl, rfl, Nat.zero_le _, GG, kt, HTt, kr, OE.nil _ _⟩
  clear GG kt kr HTt
  rintro mz az wv ⟨i, ra, rc, us1, rfl, rfl, hi, GG, kt, HTt, kr, HL⟩
  have hLtk : AllE (l.take i) := fun x hx => H.all x (List.mem_of_mem_take hx)
  have hTI := layR_ti (room := 128) hLtk
  have hRis := hTI.ris
  have hLf := hTI.fit
  have hLb : (layR 128 (l.take i)).length ≤ 1000 := by omega
  refine wp_seq ?_
  refine wp_region_lit ?_
  cases hi1 : decide (((i : Nat) : Int) < ((l.length : Nat) : Int))
  · have hie : i = l.length := by have := of_decide_eq_false hi1; omega
    refine s_val 13 rfl rfl (.bool false) (run_lssT 3 _ _ _ rfl ((i : Nat) : Int) ((l.length : Nat) : Int) rfl rfl false hi1 _) ?_
    refine nr ?_; intro U h; simp only [z0, z1] at h; subst h
    refine wpList_nil ?_
    refine then_n ?_
    refine wp_seq ?_
    refine wp_cond_false rfl ?_
    refine wp_exit ?_
    refine then_x ?_
    refine then_x ?_
    refine blk_x ?_
    refine then_n ?_
    refine wp_seq ?_
    refine wp_region_lit ?_
    refine s_val 23 rfl rfl (.pointer (some ⟨t, 0, none⟩)) (rfl) ?_
    refine nr ?_; intro U h; simp only [z0, z1] at h; subst h
    refine s_val 24 rfl rfl (.pointer (some ⟨r, 0, none⟩)) (rfl) ?_
    refine nr ?_; intro U h; simp only [z0, z1] at h; subst h
    refine s_val 2 rfl rfl (.pointer (some ⟨t, 0, none⟩)) (rfl) ?_
    refine nr ?_; intro U h; simp only [z0, z1] at h; subst h
    refine s_val 3 rfl rfl (.pointer (some ⟨r, 0, none⟩)) (rfl) ?_
    refine nr ?_; intro U h; simp only [z0, z1] at h; subst h
    refine wpList_nil ?_
    refine then_n ?_
    refine wp_ret ?_
    refine bodyPost_ret (results_tmp2 Try.results7 _ _ _) rfl ?_
    subst hie
    rw [List.take_length] at *
    exact ⟨t, b, r, ra, rc, rfl, GG, kt, HTt, kr, HL, bt, bb, br⟩
  · have hil : i < l.length := by have := of_decide_eq_true hi1; omega
    refine s_val 13 rfl rfl (.bool true) (run_lssT 3 _ _ _ rfl ((i : Nat) : Int) ((l.length : Nat) : Int) rfl rfl true hi1 _) ?_
    refine nr ?_; intro U h; simp only [z0, z1] at h; subst h
    refine wpList_nil ?_
    refine then_n ?_
    refine wp_seq ?_
    refine wp_cond_true rfl ?_
    refine wp_skip ?_
    refine then_n ?_
    refine wp_seq ?_
    refine wp_block ?_
    refine wp_seq ?_
    refine wp_region_lit ?_
    refine s_val 14 rfl rfl (.pointer (pE ao0 i 0)) (run_ixE (H.gro GG) _ _ rfl rfl i rfl (by omega)) ?_
    refine nr ?_; intro U h; simp only [z0, z1] at h; subst h
    refine s_val 15 rfl rfl (.agg (enA (l.getD i zE))) (run_ldE (H.gro GG) _ rfl i rfl (by omega)) ?_
    refine nr ?_; intro U h; simp only [z0, z1] at h; subst h
    refine s_alloc 7 rfl rfl 52 rfl _ zero33 (enA zE) rfl ?_
    intro w3 g1 G eg1 kg1
    have bg1 := size_base GG eg1
    have dtg1 := lt_new kt eg1
    have drg1 := lt_new kr eg1
    have dHTtg1 := HTt.ne eg1
    have dHLg1 := HL.ne eg1
    replace kt := G.has kt
    replace kr := G.has kr
    replace HTt := HTt.gro G
    replace HL := HL.gro G
    replace GG := GG.trans G
    clear G
    clear eg1
    refine nr ?_; intro U h; simp only [z0, z1] at h; subst h
    refine s_store rfl rfl 52 _ _ rfl g1 0 rfl (.agg (enA (l.getD i zE))) rfl 52 _ kg1 (enA (l.getD i zE)) rfl (si33' _) (enA_fit _ _) (enA_one _) (enA (l.getD i zE)) (splice_whole _ _ (enA_sz _ _)) ?_
    intro w4 St
    have kS := kg1
    replace kt := St.has (by omega) kt
    replace kr := St.has (by omega) kr
    replace HTt := HTt.st St dHTtg1
    replace HL := HL.st St dHLg1
    replace GG := GG.store St bg1
    replace kg1 := St.new
    clear St
    refine wpList_nil ?_
    refine then_n ?_
    refine wp_seq ?_
    refine wp_region_lit ?_
    refine s_val 16 rfl rfl (.pointer (some ⟨t, 0, none⟩)) (rfl) ?_
    refine nr ?_; intro U h; simp only [z0, z1] at h; subst h
    refine s_val 17 rfl rfl (.agg (enA (l.getD i zE))) (ldE0 _ rfl g1 rfl (kg1)) ?_
    refine nr ?_; intro U h; simp only [z0, z1] at h; subst h
    refine s_callx 18 rfl rfl _ 22 Try.call22 rfl rfl _ rfl [.pointer (some ⟨t, 0, none⟩), .agg (enA (l.getD i zE))] rfl (add_any _ t b 128 (layR 128 (l.take i)) (kt) (HTt) (l.getD i zE) (H.all.at hil)) (by rintro _ _ ⟨he, _⟩; exact ⟨_, he⟩) ?_
    rintro v w5 ⟨he, HT2, G2⟩
    cases he
    replace kt := G2.has kt (by simpa using HTt.nec kt)
    replace kr := G2.has kr (by simpa using HTt.nec kr)
    replace kg1 := G2.has kg1 (by simpa using HTt.nec kg1)
    replace HL := HL.mapw HTt G2
    replace GG := G2.gro GG (by simpa using bb)
    clear HTt G2
    have HTt := HT2
    clear HT2
    refine nr ?_; intro U h; simp only [z0, z1] at h; subst h
    refine wpList_nil ?_
    refine then_n ?_
    refine wp_region_lit ?_
    refine s_val 19 rfl rfl (.pointer (some ⟨r, 0, none⟩)) (rfl) ?_
    refine nr ?_; intro U h; simp only [z0, z1] at h; subst h
    refine s_val 20 rfl rfl (.agg (enA (l.getD i zE))) (ldE0 _ rfl g1 rfl (kg1)) ?_
    refine nr ?_; intro U h; simp only [z0, z1] at h; subst h
    refine s_callx 21 rfl rfl _ 23 Try.call23 rfl rfl _ rfl [.pointer (some ⟨r, 0, none⟩), .agg (enA (l.getD i zE))] rfl (radd_any _ r 128 ra rc (layR 128 (l.take i)) (kr) (HL) hLb hRis.kn (l.getD i zE) (H.all.at hil)) (by rintro _ _ ⟨he, _⟩; exact ⟨_, he⟩) ?_
    rintro v w6 ⟨he, ra2, rc2, kr2, HL2, G2⟩
    cases he
    replace kt := G2.has kt (ne_cells kt kr (by decide))
    replace kg1 := G2.has kg1 (ne_cells kg1 kr (by decide))
    replace HTt := HTt.gros G2 (by simpa using (HTt.nec kr).symm)
    replace GG := G2.gro GG (by simpa using br)
    clear kr HL G2
    have kr := kr2
    have HL := HL2
    clear kr2 HL2
    refine nr ?_; intro U h; simp only [z0, z1] at h; subst h
    refine wpList_nil ?_
    refine blk_n ?_
    refine then_n ?_
    refine wp_region_lit ?_
    refine s_val 22 rfl rfl (.int .i64 ((i + 1 : Nat) : Int)) (run_addI 3 _ _ _ rfl ((i : Nat) : Int) 1 ((i + 1 : Nat) : Int) rfl rfl (by omega) (by omega) (by omega) _) ?_
    refine nr ?_; intro U h; simp only [z0, z1] at h; subst h
    refine s_val 12 rfl rfl (.int .i64 ((i + 1 : Nat) : Int)) (rfl) ?_
    refine nr ?_; intro U h; simp only [z0, z1] at h; subst h
    refine wpList_nil ?_
    refine then_n ?_
    exact ⟨l.length + 1 - (i + 1), by omega, i + 1, ra2, rc2, (fun kz => ([.pointer (some ⟨g1, 0, none⟩), .bool true, .pointer (pE ao0 i 0), .agg (enA (l.getD i zE)), .pointer (some ⟨t, 0, none⟩), .agg (enA (l.getD i zE)), .int .i64 (addC 128 (layR 128 (l.take i)) (l.getD i zE)), .pointer (some ⟨r, 0, none⟩), .agg (enA (l.getD i zE)), .int .i64 (addC 128 (layR 128 (l.take i)) (l.getD i zE)), .int .i64 ((i + 1 : Nat) : Int)] : List Value).getD kz undef), rfl, rfl, by omega, GG, kt, by rw [layR_step hil]; exact HTt, by rw [layR_step hil]; exact kr, by rw [layR_step hil]; exact HL⟩
end Go.Proofs.Ytmpnepbmpmkmkaa
