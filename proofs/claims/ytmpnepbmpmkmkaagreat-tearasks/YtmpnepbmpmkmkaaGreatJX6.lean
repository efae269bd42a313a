/- What is told, held together; entries laid into tables; the chapter's example. -/
import Derived.Test.YtmpnepbmpmkmkaaGreatJX3
import Derived.Test.YtmpnepbmpmkmkaaGreatJP16
namespace Go.Proofs.YtmpnepbmpmkmkaaGreat
open Classical
open Go.RowKit Go.Maps
theorem take_at {α : Type} (z : α) (l : List α) (i : Nat) (hi : i < l.length) : l.take (i + 1) = l.take i ++ [l.getD i z] := by
  rw [List.take_add_one, List.getElem?_eq_getElem hi, List.getD_eq_getElem?_getD, List.getElem?_eq_getElem hi]
  rfl
/-- Entries laid into a table, one by one. -/
def layR (room : Nat) (L : List En) : List En := L.foldl (addL room) []
theorem layR_app (room : Nat) (L : List En) (x : En) : layR room (L ++ [x]) = addL room (layR room L) x := by simp [layR]
theorem layR_step {room : Nat} {l : List En} {i : Nat} (hi : i < l.length) : layR room (l.take (i + 1)) = addL room (layR room (l.take i)) (l.getD i zE) := by rw [take_at zE l i hi, layR_app]
theorem layF_ti {room : Nat} : ∀ {L M : List En}, TI room M → AllE L → TI room (L.foldl (addL room) M)
  | [], _, h, _ => h
  | x :: r, _, h, hl => layF_ti (L := r) (h.add (hl x List.mem_cons_self)) fun z hz => hl z (List.mem_cons_of_mem _ hz)
theorem layR_ti {room : Nat} {L : List En} (h : AllE L) : TI room (layR room L) := layF_ti (TI.nil room) h
def LaidQ (w : World) (L : List En) (e : Ending) (w' : World) : Prop := ∃ t b r ra rc, e = .returned (.tuple #[.pointer (some ⟨t, 0, none⟩), .pointer (some ⟨r, 0, none⟩)]) ∧ Gro w w' ∧ w'.heap[t]? = some (.cells (tbA 128 b) 92 (0, 0)) ∧ TM w' b L ∧ w'.heap[r]? = some (.cells (rbA ra L.length rc 128) 51 (0, 0)) ∧ OE w' 0 ra rc L ∧ w.heap.size ≤ t ∧ w.heap.size ≤ b ∧ w.heap.size ≤ r
theorem new128 (w : World) : Calls Tryz.prog 23 #[.int .i64 128] w (NewP w 128) := by
  have h := new_any 128 w
  rwa [show rmF 128 = 128 from by decide] at h
theorem rnew128 (w : World) : Calls Tryz.prog 24 #[.int .i64 128] w (RNewP w 128) := by
  have h := rnew_any 128 w
  rwa [show rmF 128 = 128 from by decide] at h
theorem map_one {H : List Hp} {k : Int × Pa} (h : H.map Hp.key = [k]) : ∃ x, H = [x] ∧ x.key = k := by
  cases H with
  | nil => cases h
  | cons x r =>
    rw [List.map_cons] at h
    injection h with h1 h2
    rw [List.map_eq_nil_iff] at h2
    exact ⟨x, by rw [h2], h1⟩
set_option maxRecDepth 100000 in
set_option maxHeartbeats 4000000 in
theorem sameP_any (w : World) (ao bo : Option Addr) (c d : Nat) (P : List Pa) (H1 : RK kP w ao c P) (H2 : RK kP w bo d P) (hl : P.length ≤ 1000000) : Calls Tryz.prog 12 #[.slice ao P.length c, .slice bo P.length d] w (fun e w' => e = .returned (.bool true) ∧ Gro w w') := by
  refine s_enter Tryz.func12 rfl Tryz.ntmps12 [.slice ao P.length c, .slice bo P.length d] [.slice ao P.length c, .slice bo P.length d, undef, undef, undef, undef, undef, undef, undef, undef, undef, undef, undef, undef, undef, undef, undef, undef, undef, undef, undef, undef, undef, undef, undef, undef] rfl ?_
  have GG := Gro.refl w
  refine wp_seq ?_
  refine wp_region_lit ?_
  refine s_val 4 rfl rfl (.bool false) (rfl) ?_
  refine nr ?_; intro U h; simp only [z0, z1] at h; subst h
  refine wpList_nil ?_
  refine then_n ?_
  refine wp_seq ?_
  refine wp_seq ?_
  refine wp_region_lit ?_
  refine s_val 6 rfl rfl (.slice ao P.length c) (rfl) ?_
  refine nr ?_; intro U h; simp only [z0, z1] at h; subst h
  refine s_val 7 rfl rfl (.int .i64 ((P.length : Nat) : Int)) (run_len Tryz.underlying43 _ rfl _ _ _ rfl _) ?_
  refine nr ?_; intro U h; simp only [z0, z1] at h; subst h
  refine s_val 8 rfl rfl (.slice bo P.length d) (rfl) ?_
  refine nr ?_; intro U h; simp only [z0, z1] at h; subst h
  refine s_val 9 rfl rfl (.int .i64 ((P.length : Nat) : Int)) (run_len Tryz.underlying43 _ rfl _ _ _ rfl _) ?_
  refine nr ?_; intro U h; simp only [z0, z1] at h; subst h
  refine s_val 10 rfl rfl (.bool false) (run_neq_k 3 .i64 _ _ _ rfl Tryz.underlying3 ((P.length : Nat) : Int) ((P.length : Nat) : Int) rfl rfl false (decide_eq_true rfl) _) ?_
  refine nr ?_; intro U h; simp only [z0, z1] at h; subst h
  refine wpList_nil ?_
  refine then_n ?_
  refine wp_cond_false rfl ?_
  refine wp_skip ?_
  refine then_n ?_
  refine wp_seq ?_
  refine wp_seq ?_
  refine wp_region_lit ?_
  refine s_val 5 rfl rfl (.int .i64 0) (rfl) ?_
  refine nr ?_; intro U h; simp only [z0, z1] at h; subst h
  refine wpList_nil ?_
  refine then_n ?_
  refine wp_block ?_
  refine wp_loopN (fun mz az wv => ∃ (i : Nat) (us1 : Nat → Value), mz = P.length + 1 - i ∧ az = ⟨[.slice ao P.length c, .slice bo P.length d, undef, undef, us1 0, .int .i64 ((i : Nat) : Int), .slice ao P.length c, .int .i64 ((P.length : Nat) : Int), .slice bo P.length d, .int .i64 ((P.length : Nat) : Int), .bool false, us1 1, us1 2, us1 3, us1 4, us1 5, us1 6, us1 7, us1 8, us1 9, us1 10, us1 11, us1 12, us1 13, us1 14, us1 15].toArray, []⟩ ∧ i ≤ P.length ∧ Gro w wv) ?_ _ ⟨0, (fun kz => ([.bool false, undef, undef, undef, undef, undef, undef, undef, undef, undef, undef, undef, undef, undef, undef, undef] : List Value).getD kz undef), rfl, rfl, Nat.zero_le _, GG⟩
  clear GG
  rintro mz az wv ⟨i, us1, rfl, rfl, hi, GG⟩
  refine wp_seq ?_
  refine wp_seq ?_
  refine wp_region_lit ?_
  refine s_val 11 rfl rfl (.int .i64 ((i : Nat) : Int)) (rfl) ?_
  refine nr ?_; intro U h; simp only [z0, z1] at h; subst h
  refine s_val 12 rfl rfl (.slice ao P.length c) (rfl) ?_
  refine nr ?_; intro U h; simp only [z0, z1] at h; subst h
  refine s_val 13 rfl rfl (.int .i64 ((P.length : Nat) : Int)) (run_len Tryz.underlying43 _ rfl _ _ _ rfl _) ?_
  refine nr ?_; intro U h; simp only [z0, z1] at h; subst h
  cases hi1 : decide (((i : Nat) : Int) < ((P.length : Nat) : Int))
  · have hie : i = P.length := by have := of_decide_eq_false hi1; omega
    refine s_val 14 rfl rfl (.bool false) (run_lssT 3 _ _ _ rfl ((i : Nat) : Int) ((P.length : Nat) : Int) rfl rfl false hi1 _) ?_
    refine nr ?_; intro U h; simp only [z0, z1] at h; subst h
    refine wpList_nil ?_
    refine then_n ?_
    refine wp_cond_false rfl ?_
    refine wp_exit ?_
    refine then_x ?_
    refine then_x ?_
    refine blk_x ?_
    refine then_n ?_
    refine wp_seq ?_
    refine wp_region_lit ?_
    refine s_val 4 rfl rfl (.bool true) (rfl) ?_
    refine nr ?_; intro U h; simp only [z0, z1] at h; subst h
    refine wpList_nil ?_
    refine then_n ?_
    refine wp_ret ?_
    refine bodyPost_ret (results_tmp Tryz.results12 _ _ _) rfl ?_
    exact ⟨rfl, GG⟩
  · have hil : i < P.length := by have := of_decide_eq_true hi1; omega
    refine s_val 14 rfl rfl (.bool true) (run_lssT 3 _ _ _ rfl ((i : Nat) : Int) ((P.length : Nat) : Int) rfl rfl true hi1 _) ?_
    refine nr ?_; intro U h; simp only [z0, z1] at h; subst h
    refine wpList_nil ?_
    refine then_n ?_
    refine wp_cond_true rfl ?_
    refine wp_skip ?_
    refine then_n ?_
    refine wp_seq ?_
    refine wp_block ?_
    refine wp_seq ?_
    refine wp_region_exA (A := ?Ax1) 8 [(0, 17), (1, 18), (2, 19), (3, 20), (4, 21), (5, 22), (6, 23), (7, 24)] [.val (.slice ao P.length c), .val (.int .i64 ((i : Nat) : Int)), .val (.pointer (pK kP ao i 0)), .val (.agg (paA (P.getD i zP))), .val (.slice bo P.length d), .val (.int .i64 ((i : Nat) : Int)), .val (.pointer (pK kP bo i 0)), .val (.agg (paA (P.getD i zP)))] follows (by kernel_rfl) rfl ?hAx1 (opsA_cons ?o0x1 (opsA_cons ?o1x1 (opsA_cons ?o2x1 (opsA_cons ?o3x1 (opsA_cons ?o4x1 (opsA_cons ?o5x1 (opsA_cons ?o6x1 (opsA_cons ?o7x1 opsA_nil)))))))) ?restx1
    case hAx1 =>
      intro ptrs
      simp only [full, foldSlots, filledE, postE, List.foldl_cons, List.foldl_nil, List.getD_cons_zero, List.getD_cons_succ, fill_val, List.set_cons_zero, List.set_cons_succ]
      exact rfl
    case o0x1 => exact fun _ _ _ _ => opE_move (v := .slice ao P.length c) _ rfl rfl rfl
    case o1x1 => exact fun _ _ _ _ => opE_move (v := .int .i64 ((i : Nat) : Int)) _ rfl rfl rfl
    case o2x1 => exact fun _ _ hw _ => opE_value (v := .pointer (pK kP ao i 0)) rfl (run_ixK rP (H1.gro (GG.drew.trans hw)) _ _ rfl rfl i rfl (by omega))
    case o3x1 => exact fun _ _ hw _ => opE_value (v := .agg (paA (P.getD i zP))) rfl (run_ldPp (H1.gro (GG.drew.trans hw)) _ rfl i rfl (by omega))
    case o4x1 => exact fun _ _ _ _ => opE_move (v := .slice bo P.length d) _ rfl rfl rfl
    case o5x1 => exact fun _ _ _ _ => opE_move (v := .int .i64 ((i : Nat) : Int)) _ rfl rfl rfl
    case o6x1 => exact fun _ _ hw _ => opE_value (v := .pointer (pK kP bo i 0)) rfl (run_ixK rP (H2.gro (GG.drew.trans hw)) _ _ rfl rfl i rfl (by omega))
    case o7x1 => exact fun _ _ hw _ => opE_value (v := .agg (paA (P.getD i zP))) rfl (run_ldPp (H2.gro (GG.drew.trans hw)) _ rfl i rfl (by omega))
    intro ptrs w1 GD hxE
    simp only [List.drop_succ_cons, List.drop_zero]
    replace GG := GG.drew.trans GD
    clear GD
    refine s_val 25 rfl rfl (.bool false) (run_neP _ _ _ rfl _ _ rfl rfl (H1.at hil) (H1.at hil) false (decide_eq_true rfl)) ?_
    refine nr ?_; intro U h; simp only [z0, z1] at h; subst h
    refine wpList_nil ?_
    refine then_n ?_
    refine wp_cond_false rfl ?_
    refine wp_skip ?_
    refine blk_n ?_
    refine then_n ?_
    refine wp_region_lit ?_
    refine s_val 15 rfl rfl (.int .i64 ((i : Nat) : Int)) (rfl) ?_
    refine nr ?_; intro U h; simp only [z0, z1] at h; subst h
    refine s_val 16 rfl rfl (.int .i64 ((i + 1 : Nat) : Int)) (run_addI 3 _ _ _ rfl ((i : Nat) : Int) 1 ((i + 1 : Nat) : Int) rfl rfl (by omega) (by omega) (by omega) _) ?_
    refine nr ?_; intro U h; simp only [z0, z1] at h; subst h
    refine s_val 5 rfl rfl (.int .i64 ((i + 1 : Nat) : Int)) (rfl) ?_
    refine nr ?_; intro U h; simp only [z0, z1] at h; subst h
    refine wpList_nil ?_
    refine then_n ?_
    exact ⟨P.length + 1 - (i + 1), by omega, i + 1, (fun kz => ([us1 0, .int .i64 ((i : Nat) : Int), .slice ao P.length c, .int .i64 ((P.length : Nat) : Int), .bool true, .int .i64 ((i : Nat) : Int), .int .i64 ((i + 1 : Nat) : Int), .slice ao P.length c, .int .i64 ((i : Nat) : Int), .pointer (pK kP ao i 0), .agg (paA (P.getD i zP)), .slice bo P.length d, .int .i64 ((i : Nat) : Int), .pointer (pK kP bo i 0), .agg (paA (P.getD i zP)), .bool false] : List Value).getD kz undef), rfl, rfl, by omega, GG⟩
set_option maxRecDepth 100000 in
set_option maxHeartbeats 4000000 in
theorem laid_any (w : World) (ao0 : Option Addr) (cap0 : Nat) (l : List En) (H : RE w ao0 cap0 l) (hl : l.length ≤ maxLen) : Calls Tryz.prog 5 #[.slice ao0 l.length cap0] w (LaidQ w (layR 128 l)) := by
  refine s_enter Tryz.func5 rfl Tryz.ntmps5 [.slice ao0 l.length cap0] [.slice ao0 l.length cap0, undef, undef, undef, undef, undef, undef, undef, undef, undef, undef, undef, undef, undef, undef, undef, undef, undef, undef, undef, undef, undef, undef, undef, undef] rfl ?_
  have GG := Gro.refl w
  rw [maxL] at hl
  refine wp_seq ?_
  refine wp_region_lit ?_
  refine s_val 2 rfl rfl (.pointer none) (rfl) ?_
  refine nr ?_; intro U h; simp only [z0, z1] at h; subst h
  refine s_val 3 rfl rfl (.pointer none) (rfl) ?_
  refine nr ?_; intro U h; simp only [z0, z1] at h; subst h
  refine wpList_nil ?_
  refine then_n ?_
  refine wp_seq ?_
  refine wp_region_lit ?_
  refine s_callx 8 rfl rfl _ 23 Tryz.call23 rfl rfl _ rfl [.int .i64 128] rfl (new128 _) (by rintro _ _ ⟨_, _, he, _⟩; exact ⟨_, he⟩) ?_
  rintro v w1 ⟨t, b, he, G, kt, HTt, h1t, h2t⟩
  cases he
  have bt := Nat.le_trans GG.size h1t
  have bb := Nat.le_trans GG.size h2t
  clear h1t h2t
  replace GG := GG.trans G
  clear G
  refine nr ?_; intro U h; simp only [z0, z1] at h; subst h
  refine s_val 4 rfl rfl (.pointer (some ⟨t, 0, none⟩)) (rfl) ?_
  refine nr ?_; intro U h; simp only [z0, z1] at h; subst h
  refine wpList_nil ?_
  refine then_n ?_
  refine wp_seq ?_
  refine wp_region_lit ?_
  refine s_callx 9 rfl rfl _ 24 Tryz.call24 rfl rfl _ rfl [.int .i64 128] rfl (rnew128 _) (by rintro _ _ ⟨_, he, _⟩; exact ⟨_, he⟩) ?_
  rintro v w2 ⟨r, he, G, kr, h1r⟩
  cases he
  have br := Nat.le_trans GG.size h1r
  clear h1r
  replace kt := G.has kt
  replace HTt := HTt.gro G
  replace GG := GG.trans G
  clear G
  refine nr ?_; intro U h; simp only [z0, z1] at h; subst h
  refine s_val 5 rfl rfl (.pointer (some ⟨r, 0, none⟩)) (rfl) ?_
  refine nr ?_; intro U h; simp only [z0, z1] at h; subst h
  refine wpList_nil ?_
  refine then_n ?_
  refine wp_seq ?_
  refine wp_seq ?_
  refine wp_region_lit ?_
  refine s_val 10 rfl rfl (.slice ao0 l.length cap0) (rfl) ?_
  refine nr ?_; intro U h; simp only [z0, z1] at h; subst h
  refine s_val 11 rfl rfl (.int .i64 ((l.length : Nat) : Int)) (run_len Tryz.underlying22 _ rfl _ _ _ rfl _) ?_
  refine nr ?_; intro U h; simp only [z0, z1] at h; subst h
  refine s_val 12 rfl rfl (.int .i64 0) (rfl) ?_
  refine nr ?_; intro U h; simp only [z0, z1] at h; subst h
  refine wpList_nil ?_
  refine then_n ?_
  refine wp_block ?_
  refine wp_loopN (fun mz az wv => ∃ (i : Nat) (ra : Option Addr) (rc : Nat) (us1 : Nat → Value), mz = l.length + 1 - i ∧ az = ⟨[.slice ao0 l.length cap0, undef, .pointer none, .pointer none, .pointer (some ⟨t, 0, none⟩), .pointer (some ⟨r, 0, none⟩), undef, us1 0, .pointer (some ⟨t, 0, none⟩), .pointer (some ⟨r, 0, none⟩), .slice ao0 l.length cap0, .int .i64 ((l.length : Nat) : Int), .int .i64 ((i : Nat) : Int), us1 1, us1 2, us1 3, us1 4, us1 5, us1 6, us1 7, us1 8, us1 9, us1 10, undef, undef].toArray, []⟩ ∧ i ≤ l.length ∧ Gro w wv ∧ wv.heap[t]? = some (.cells (tbA 128 b) 92 (0, 0)) ∧ TM wv b (layR 128 (l.take i)) ∧ wv.heap[r]? = some (.cells (rbA ra (layR 128 (l.take i)).length rc 128) 51 (0, 0)) ∧ OE wv 0 ra rc (layR 128 (l.take i))) ?_ _ ⟨0, none, 0, (fun kz => ([undef, undef, undef, undef, undef, undef, undef, undef, undef, undef, undef] : List Value).getD kz undef), rfl, rfl, Nat.zero_le _, GG, kt, HTt, kr, OE.nil _ _⟩
  clear GG kt kr HTt
  rintro mz az wv ⟨i, ra, rc, us1, rfl, rfl, hi, GG, kt, HTt, kr, HL⟩
  have hLtk : AllE (l.take i) := fun x hx => H.all x (List.mem_of_mem_take hx)
  have hTI := layR_ti (room := 128) hLtk
  have hRis := hTI.ris
  have hLf := hTI.fit
  have hLb : (layR 128 (l.take i)).length ≤ 1000 := by omega
  refine wp_seq ?_
  refine wp_region_lit ?_
  cases hi1 : decide (((i : Nat) : Int) < ((l.length : Nat) : Int))
  · have hie : i = l.length := by have := of_decide_eq_false hi1; omega
    refine s_val 13 rfl rfl (.bool false) (run_lssT 3 _ _ _ rfl ((i : Nat) : Int) ((l.length : Nat) : Int) rfl rfl false hi1 _) ?_
    refine nr ?_; intro U h; simp only [z0, z1] at h; subst h
    refine wpList_nil ?_
    refine then_n ?_
    refine wp_seq ?_
    refine wp_cond_false rfl ?_
    refine wp_exit ?_
    refine then_x ?_
    refine then_x ?_
    refine blk_x ?_
    refine then_n ?_
    refine wp_seq ?_
    refine wp_region_lit ?_
    refine s_val 23 rfl rfl (.pointer (some ⟨t, 0, none⟩)) (rfl) ?_
    refine nr ?_; intro U h; simp only [z0, z1] at h; subst h
    refine s_val 24 rfl rfl (.pointer (some ⟨r, 0, none⟩)) (rfl) ?_
    refine nr ?_; intro U h; simp only [z0, z1] at h; subst h
    refine s_val 2 rfl rfl (.pointer (some ⟨t, 0, none⟩)) (rfl) ?_
    refine nr ?_; intro U h; simp only [z0, z1] at h; subst h
    refine s_val 3 rfl rfl (.pointer (some ⟨r, 0, none⟩)) (rfl) ?_
    refine nr ?_; intro U h; simp only [z0, z1] at h; subst h
    refine wpList_nil ?_
    refine then_n ?_
    refine wp_ret ?_
    refine bodyPost_ret (results_tmp2 Tryz.results5 _ _ _) rfl ?_
    subst hie
    rw [List.take_length] at *
    exact ⟨t, b, r, ra, rc, rfl, GG, kt, HTt, kr, HL, bt, bb, br⟩
  · have hil : i < l.length := by have := of_decide_eq_true hi1; omega
    refine s_val 13 rfl rfl (.bool true) (run_lssT 3 _ _ _ rfl ((i : Nat) : Int) ((l.length : Nat) : Int) rfl rfl true hi1 _) ?_
    refine nr ?_; intro U h; simp only [z0, z1] at h; subst h
    refine wpList_nil ?_
    refine then_n ?_
    refine wp_seq ?_
    refine wp_cond_true rfl ?_
    refine wp_skip ?_
    refine then_n ?_
    refine wp_seq ?_
    refine wp_block ?_
    refine wp_seq ?_
    refine wp_region_lit ?_
    refine s_val 14 rfl rfl (.pointer (pE ao0 i 0)) (run_ixE (H.gro GG) _ _ rfl rfl i rfl (by omega)) ?_
    refine nr ?_; intro U h; simp only [z0, z1] at h; subst h
    refine s_val 15 rfl rfl (.agg (enA (l.getD i zE))) (run_ldE (H.gro GG) _ rfl i rfl (by omega)) ?_
    refine nr ?_; intro U h; simp only [z0, z1] at h; subst h
    refine s_alloc 7 rfl rfl 33 rfl _ zero33 (enA zE) rfl ?_
    intro w3 g1 G eg1 kg1
    have bg1 := size_base GG eg1
    have dtg1 := lt_new kt eg1
    have drg1 := lt_new kr eg1
    have dHTtg1 := HTt.ne eg1
    have dHLg1 := HL.ne eg1
    replace kt := G.has kt
    replace kr := G.has kr
    replace HTt := HTt.gro G
    replace HL := HL.gro G
    replace GG := GG.trans G
    clear G
    clear eg1
    refine nr ?_; intro U h; simp only [z0, z1] at h; subst h
    refine s_store rfl rfl 33 _ _ rfl g1 0 rfl (.agg (enA (l.getD i zE))) rfl 33 _ kg1 (enA (l.getD i zE)) rfl (si33' _) (enA_fit _ _) (enA_one _) (enA (l.getD i zE)) (splice_whole _ _ (enA_sz _ _)) ?_
    intro w4 St
    have kS := kg1
    replace kt := St.has (by omega) kt
    replace kr := St.has (by omega) kr
    replace HTt := HTt.st St dHTtg1
    replace HL := HL.st St dHLg1
    replace GG := GG.store St bg1
    replace kg1 := St.new
    clear St
    refine wpList_nil ?_
    refine then_n ?_
    refine wp_seq ?_
    refine wp_region_lit ?_
    refine s_val 16 rfl rfl (.pointer (some ⟨t, 0, none⟩)) (rfl) ?_
    refine nr ?_; intro U h; simp only [z0, z1] at h; subst h
    refine s_val 17 rfl rfl (.agg (enA (l.getD i zE))) (ldE0 _ rfl g1 rfl (kg1)) ?_
    refine nr ?_; intro U h; simp only [z0, z1] at h; subst h
    refine s_callx 18 rfl rfl _ 25 Tryz.call25 rfl rfl _ rfl [.pointer (some ⟨t, 0, none⟩), .agg (enA (l.getD i zE))] rfl (add_any _ t b 128 (layR 128 (l.take i)) (kt) (HTt) (l.getD i zE) (H.all.at hil)) (by rintro _ _ ⟨he, _⟩; exact ⟨_, he⟩) ?_
    rintro v w5 ⟨he, HT2, G2⟩
    cases he
    replace kt := G2.has kt (by simpa using HTt.nec kt)
    replace kr := G2.has kr (by simpa using HTt.nec kr)
    replace kg1 := G2.has kg1 (by simpa using HTt.nec kg1)
    replace HL := HL.mapw HTt G2
    replace GG := G2.gro GG (by simpa using bb)
    clear HTt G2
    have HTt := HT2
    clear HT2
    refine nr ?_; intro U h; simp only [z0, z1] at h; subst h
    refine wpList_nil ?_
    refine then_n ?_
    refine wp_region_lit ?_
    refine s_val 19 rfl rfl (.pointer (some ⟨r, 0, none⟩)) (rfl) ?_
    refine nr ?_; intro U h; simp only [z0, z1] at h; subst h
    refine s_val 20 rfl rfl (.agg (enA (l.getD i zE))) (ldE0 _ rfl g1 rfl (kg1)) ?_
    refine nr ?_; intro U h; simp only [z0, z1] at h; subst h
    refine s_callx 21 rfl rfl _ 26 Tryz.call26 rfl rfl _ rfl [.pointer (some ⟨r, 0, none⟩), .agg (enA (l.getD i zE))] rfl (radd_any _ r 128 ra rc (layR 128 (l.take i)) (kr) (HL) hLb hRis.kn (l.getD i zE) (H.all.at hil)) (by rintro _ _ ⟨he, _⟩; exact ⟨_, he⟩) ?_
    rintro v w6 ⟨he, ra2, rc2, kr2, HL2, G2⟩
    cases he
    replace kt := G2.has kt (ne_cells kt kr (by decide))
    replace kg1 := G2.has kg1 (ne_cells kg1 kr (by decide))
    replace HTt := HTt.gros G2 (by simpa using (HTt.nec kr).symm)
    replace GG := G2.gro GG (by simpa using br)
    clear kr HL G2
    have kr := kr2
    have HL := HL2
    clear kr2 HL2
    refine nr ?_; intro U h; simp only [z0, z1] at h; subst h
    refine wpList_nil ?_
    refine blk_n ?_
    refine then_n ?_
    refine wp_region_lit ?_
    refine s_val 22 rfl rfl (.int .i64 ((i + 1 : Nat) : Int)) (run_addI 3 _ _ _ rfl ((i : Nat) : Int) 1 ((i + 1 : Nat) : Int) rfl rfl (by omega) (by omega) (by omega) _) ?_
    refine nr ?_; intro U h; simp only [z0, z1] at h; subst h
    refine s_val 12 rfl rfl (.int .i64 ((i + 1 : Nat) : Int)) (rfl) ?_
    refine nr ?_; intro U h; simp only [z0, z1] at h; subst h
    refine wpList_nil ?_
    refine then_n ?_
    exact ⟨l.length + 1 - (i + 1), by omega, i + 1, ra2, rc2, (fun kz => ([.pointer (some ⟨g1, 0, none⟩), .bool true, .pointer (pE ao0 i 0), .agg (enA (l.getD i zE)), .pointer (some ⟨t, 0, none⟩), .agg (enA (l.getD i zE)), .int .i64 (addC 128 (layR 128 (l.take i)) (l.getD i zE)), .pointer (some ⟨r, 0, none⟩), .agg (enA (l.getD i zE)), .int .i64 (addC 128 (layR 128 (l.take i)) (l.getD i zE)), .int .i64 ((i + 1 : Nat) : Int)] : List Value).getD kz undef), rfl, rfl, by omega, GG, kt, by rw [layR_step hil]; exact HTt, by rw [layR_step hil]; exact kr, by rw [layR_step hil]; exact HL⟩
end Go.Proofs.YtmpnepbmpmkmkaaGreat
