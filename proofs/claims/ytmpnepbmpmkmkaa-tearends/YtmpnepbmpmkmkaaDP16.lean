/- The document's table. -/
import Derived.Test.YtmpnepbmpmkmkaaDP13
namespace Go.Proofs.Ytmpnepbmpmkmkaa
open Classical
open Go.RowKit Go.Maps
def RNewP (w : World) (most : Nat) (e : Ending) (w' : World) : Prop := ∃ r, e = .returned (.pointer (some ⟨r, 0, none⟩)) ∧ Gro w w' ∧ w'.heap[r]? = some (.cells (rbA none 0 0 most) 43 (0, 0)) ∧ w.heap.size ≤ r
theorem OE.bel {w w' : World} {B BB : Nat} {ao : Option Addr} {cap : Nat} {l : List En} (h : OE w B ao cap l) (G : Below BB w w') (hb : ∀ k ∈ Go.Proofs.Ytmpnepbmpmkmkaa.blk ao, k < BB) : OE w' B ao cap l := by
  refine ⟨⟨h.own.len, ?_, h.own.one⟩, h.all⟩
  rcases h.own.row with h1 | ⟨g, d, cur, h1, h2, h3, h4⟩
  · exact .inl h1
  · exact .inr ⟨g, d, cur, h1, h2, (G.block g (hb g (mem_blk.2 ⟨_, h1, rfl⟩))).trans h3, h4⟩
theorem bel_has {w w' : World} {BB k : Nat} {x : Obj} (G : Below BB w w') (hk : w.heap[k]? = some x) (hb : k < BB) : w'.heap[k]? = some x := (G.block k hb).trans hk
theorem tfil_step (F : En → Bool) (L : List En) (i : Nat) (hi : i < L.length) : (L.take (i + 1)).filter F = (L.take i).filter F ++ if F (L.getD i zE) = true then [L.getD i zE] else [] := by
  have hg : L.getD i zE = L[i] := by simp [List.getD_eq_getElem?_getD, hi]
  rw [List.take_add_one, List.getElem?_eq_getElem hi, Option.toList_some, hg]
  exact fil_step F _ _
theorem tk_step (L : List En) (i : Nat) (hi : i < L.length) : L.take (i + 1) = L.take i ++ [L.getD i zE] := by
  have hg : L.getD i zE = L[i] := by simp [List.getD_eq_getElem?_getD, hi]
  rw [List.take_add_one, List.getElem?_eq_getElem hi, Option.toList_some, hg]
theorem getV_at {L : List En} (hk : KN L) {i : Nat} (hi : i < L.length) : getV L (L.getD i zE).p = L.getD i zE ∧ hasL L (L.getD i zE).p = true := by
  have := getL_mem hk (getD_in hi)
  unfold getV hasL
  rw [this]
  exact ⟨rfl, rfl⟩
theorem getV_no {L : List En} {p : Pa} (h : hasL L p = false) : getV L p = zE := by
  unfold hasL at h
  unfold getV
  cases e : getL L p with
  | none => rfl
  | some x => rw [e] at h; cases h
theorem sprb (ao ao2 : Option Addr) (n n2 cap cap2 most : Nat) : splice (rbA ao n cap most) 0 #[.slice ao2 n2 cap2] = rbA ao2 n2 cap2 most := by kernel_rfl
theorem bd47 (z : Int) (n : Nat) (h : z = ((n : Nat) : Int)) (w : World) : (Instr.build 43 #[(1, .int .i64 z)]).run Try.prog w = .ok (.agg (rbA none 0 0 n)) w := by
  subst h
  kernel_rfl
theorem si41 : (Try.prog.info? 22).map (·.size) = some 1 := by kernel_rfl
theorem s_one (ao : Option Addr) (n cap : Nat) : (#[Value.slice ao n cap]).all (·.oneCell') = true := by kernel_rfl
set_option maxRecDepth 100000 in
set_option maxHeartbeats 4000000 in
theorem rnew_any (most : Int) (w : World) : Calls Try.prog 21 #[.int .i64 most] w (RNewP w (rmF most)) := by
  refine s_enter Try.func21 rfl Try.ntmps21 [.int .i64 most] [.int .i64 most, undef, undef, undef, undef, undef, undef, undef, undef, undef] rfl ?_
  have GG := Gro.refl w
  refine wp_seq ?_
  refine wp_region_lit ?_
  refine s_val 2 rfl rfl (.pointer none) (rfl) ?_
  refine nr ?_; intro U h; simp only [z0, z1] at h; subst h
  refine wpList_nil ?_
  refine then_n ?_
  refine wp_seq ?_
  refine wp_seq ?_
  refine wp_region_lit ?_
  refine s_val 3 rfl rfl (.int .i64 most) (rfl) ?_
  refine nr ?_; intro U h; simp only [z0, z1] at h; subst h
  cases h1 : decide (most < 0)
  · refine s_val 4 rfl rfl (.bool false) (run_lssT 3 _ _ _ rfl most 0 rfl rfl false h1 _) ?_
    refine nr ?_; intro U h; simp only [z0, z1] at h; subst h
    refine wpList_nil ?_
    refine then_n ?_
    refine wp_cond_false rfl ?_
    refine wp_skip ?_
    refine then_n ?_
    refine wp_seq ?_
    refine wp_seq ?_
    refine wp_region_lit ?_
    refine s_val 5 rfl rfl (.int .i64 most) (rfl) ?_
    refine nr ?_; intro U h; simp only [z0, z1] at h; subst h
    cases h2 : decide (128 < most)
    · refine s_val 6 rfl rfl (.bool false) (run_gtrT 3 _ _ _ rfl most 128 rfl rfl false h2 _) ?_
      refine nr ?_; intro U h; simp only [z0, z1] at h; subst h
      refine wpList_nil ?_
      refine then_n ?_
      refine wp_cond_false rfl ?_
      refine wp_skip ?_
      refine then_n ?_
      refine wp_seq ?_
      refine wp_region_lit ?_
      refine s_val 7 rfl rfl (.int .i64 most) (rfl) ?_
      refine nr ?_; intro U h; simp only [z0, z1] at h; subst h
      have hz : (most : Int) = ((rmF most : Nat) : Int) := by unfold rmF; simp only [decide_eq_false_iff_not] at *; omega
      refine s_val 8 rfl rfl (.agg (rbA none 0 0 (rmF most))) (run_bd 43 _ rfl [(1, .int .i64 most)] rfl _ (bd47 _ _ hz _)) ?_
      refine nr ?_; intro U h; simp only [z0, z1] at h; subst h
      refine s_box 9 rfl rfl 43 _ rfl _ rfl (rbA none 0 0 (rmF most)) rfl ?_
      intro w1 r G er kr
      have br := size_base GG er
      replace GG := GG.trans G
      clear G
      clear er
      refine nr ?_; intro U h; simp only [z0, z1] at h; subst h
      refine s_val 2 rfl rfl (.pointer (some ⟨r, 0, none⟩)) (rfl) ?_
      refine nr ?_; intro U h; simp only [z0, z1] at h; subst h
      refine wpList_nil ?_
      refine then_n ?_
      refine wp_ret ?_
      refine bodyPost_ret (results_tmp Try.results21 _ _ _) rfl ?_
      exact ⟨r, rfl, GG, kr, br⟩
    · refine s_val 6 rfl rfl (.bool true) (run_gtrT 3 _ _ _ rfl most 128 rfl rfl true h2 _) ?_
      refine nr ?_; intro U h; simp only [z0, z1] at h; subst h
      refine wpList_nil ?_
      refine then_n ?_
      refine wp_cond_true rfl ?_
      refine wp_region_lit ?_
      refine s_val 0 rfl rfl (.int .i64 128) (rfl) ?_
      refine nr ?_; intro U h; simp only [z0] at h; subst h
      refine wpList_nil ?_
      refine then_n ?_
      refine wp_seq ?_
      refine wp_region_lit ?_
      refine s_val 7 rfl rfl (.int .i64 128) (rfl) ?_
      refine nr ?_; intro U h; simp only [z0, z1] at h; subst h
      have hz : (128 : Int) = ((rmF most : Nat) : Int) := by unfold rmF; simp only [decide_eq_true_eq, decide_eq_false_iff_not] at *; omega
      refine s_val 8 rfl rfl (.agg (rbA none 0 0 (rmF most))) (run_bd 43 _ rfl [(1, .int .i64 128)] rfl _ (bd47 _ _ hz _)) ?_
      refine nr ?_; intro U h; simp only [z0, z1] at h; subst h
      refine s_box 9 rfl rfl 43 _ rfl _ rfl (rbA none 0 0 (rmF most)) rfl ?_
      intro w1 r G er kr
      have br := size_base GG er
      replace GG := GG.trans G
      clear G
      clear er
      refine nr ?_; intro U h; simp only [z0, z1] at h; subst h
      refine s_val 2 rfl rfl (.pointer (some ⟨r, 0, none⟩)) (rfl) ?_
      refine nr ?_; intro U h; simp only [z0, z1] at h; subst h
      refine wpList_nil ?_
      refine then_n ?_
      refine wp_ret ?_
      refine bodyPost_ret (results_tmp Try.results21 _ _ _) rfl ?_
      exact ⟨r, rfl, GG, kr, br⟩
  · refine s_val 4 rfl rfl (.bool true) (run_lssT 3 _ _ _ rfl most 0 rfl rfl true h1 _) ?_
    refine nr ?_; intro U h; simp only [z0, z1] at h; subst h
    refine wpList_nil ?_
    refine then_n ?_
    refine wp_cond_true rfl ?_
    refine wp_region_lit ?_
    refine s_val 0 rfl rfl (.int .i64 0) (rfl) ?_
    refine nr ?_; intro U h; simp only [z0] at h; subst h
    refine wpList_nil ?_
    refine then_n ?_
    refine wp_seq ?_
    refine wp_seq ?_
    refine wp_region_lit ?_
    refine s_val 5 rfl rfl (.int .i64 0) (rfl) ?_
    refine nr ?_; intro U h; simp only [z0, z1] at h; subst h
    refine s_val 6 rfl rfl (.bool false) (run_gtrT 3 _ _ _ rfl 0 128 rfl rfl false (by decide) _) ?_
    refine nr ?_; intro U h; simp only [z0, z1] at h; subst h
    refine wpList_nil ?_
    refine then_n ?_
    refine wp_cond_false rfl ?_
    refine wp_skip ?_
    refine then_n ?_
    refine wp_seq ?_
    refine wp_region_lit ?_
    refine s_val 7 rfl rfl (.int .i64 0) (rfl) ?_
    refine nr ?_; intro U h; simp only [z0, z1] at h; subst h
    have hz : (0 : Int) = ((rmF most : Nat) : Int) := by unfold rmF; simp only [decide_eq_true_eq] at *; omega
    refine s_val 8 rfl rfl (.agg (rbA none 0 0 (rmF most))) (run_bd 43 _ rfl [(1, .int .i64 0)] rfl _ (bd47 _ _ hz _)) ?_
    refine nr ?_; intro U h; simp only [z0, z1] at h; subst h
    refine s_box 9 rfl rfl 43 _ rfl _ rfl (rbA none 0 0 (rmF most)) rfl ?_
    intro w1 r G er kr
    have br := size_base GG er
    replace GG := GG.trans G
    clear G
    clear er
    refine nr ?_; intro U h; simp only [z0, z1] at h; subst h
    refine s_val 2 rfl rfl (.pointer (some ⟨r, 0, none⟩)) (rfl) ?_
    refine nr ?_; intro U h; simp only [z0, z1] at h; subst h
    refine wpList_nil ?_
    refine then_n ?_
    refine wp_ret ?_
    refine bodyPost_ret (results_tmp Try.results21 _ _ _) rfl ?_
    exact ⟨r, rfl, GG, kr, br⟩
set_option maxRecDepth 100000 in
set_option maxHeartbeats 4000000 in
theorem rget_any (w : World) (r most : Nat) (ao : Option Addr) (cap : Nat) (L : List En) (kr : w.heap[r]? = some (.cells (rbA ao L.length cap most) 43 (0, 0))) (HL : OE w 0 ao cap L) (hLb : L.length ≤ 1000) (hk : KN L) (p : Pa) (hp : p.ok) : Calls Try.prog 29 #[.pointer (some ⟨r, 0, none⟩), .agg (paA p)] w (fun e w' => e = .returned (.tuple #[.agg (enA (getV L p)), .bool (hasL L p)]) ∧ Gro w w') := by
  refine s_enter Try.func29 rfl Try.ntmps29 [.pointer (some ⟨r, 0, none⟩), .agg (paA p)] [.pointer (some ⟨r, 0, none⟩), .agg (paA p), undef, undef, undef, undef, undef, undef, undef, undef, undef, undef, undef, undef, undef, undef, undef, undef, undef, undef, undef, undef, undef, undef, undef, undef, undef, undef, undef, undef, undef, undef, undef, undef] rfl ?_
  have GG := Gro.refl w
  refine wp_seq ?_
  refine wp_region_lit ?_
  refine s_box 3 rfl rfl 26 _ rfl _ rfl (paA p) rfl ?_
  intro w1 g1 G eg1 kg1
  have bg1 := size_base GG eg1
  have drg1 := lt_new kr eg1
  replace kr := G.has kr
  replace HL := HL.gro G
  replace GG := GG.trans G
  clear G
  clear eg1
  refine nr ?_; intro U h; simp only [z0, z1] at h; subst h
  refine s_alloc 4 rfl rfl 52 rfl _ zero33 (enA zE) rfl ?_
  intro w2 g2 G eg2 kg2
  have bg2 := size_base GG eg2
  have drg2 := lt_new kr eg2
  have dg1g2 := lt_new kg1 eg2
  have dHLg2 := HL.ne eg2
  replace kr := G.has kr
  replace kg1 := G.has kg1
  replace HL := HL.gro G
  replace GG := GG.trans G
  clear G
  clear eg2
  refine nr ?_; intro U h; simp only [z0, z1] at h; subst h
  refine s_val 5 rfl rfl (.bool false) (rfl) ?_
  refine nr ?_; intro U h; simp only [z0, z1] at h; subst h
  refine wpList_nil ?_
  refine then_n ?_
  refine wp_seq ?_
  refine wp_seq ?_
  refine wp_region_lit ?_
  refine s_val 6 rfl rfl (.int .i64 0) (rfl) ?_
  refine nr ?_; intro U h; simp only [z0, z1] at h; subst h
  refine wpList_nil ?_
  refine then_n ?_
  refine wp_block ?_
  refine wp_loopN (fun mz az wv => ∃ (i : Nat) (us1 : Nat → Value), mz = L.length + 1 - i ∧ az = ⟨[.pointer (some ⟨r, 0, none⟩), .agg (paA p), undef, .pointer (some ⟨g1, 0, none⟩), .pointer (some ⟨g2, 0, none⟩), us1 0, .int .i64 ((i : Nat) : Int), us1 1, us1 2, us1 3, us1 4, us1 5, us1 6, us1 7, us1 8, us1 9, us1 10, us1 11, us1 12, us1 13, us1 14, us1 15, us1 16, us1 17, us1 18, us1 19, us1 20, us1 21, us1 22, us1 23, us1 24, us1 25, us1 26, undef].toArray, []⟩ ∧ i ≤ L.length ∧ (∀ k, k < i → (L.getD k zE).p ≠ p) ∧ Gro w wv ∧ wv.heap[r]? = some (.cells (rbA ao L.length cap most) 43 (0, 0)) ∧ OE wv 0 ao cap L ∧ wv.heap[g1]? = some (.cells (paA p) 26 (0, 0)) ∧ wv.heap[g2]? = some (.cells (enA zE) 52 (0, 0))) ?_ _ ⟨0, (fun kz => ([.bool false, undef, undef, undef, undef, undef, undef, undef, undef, undef, undef, undef, undef, undef, undef, undef, undef, undef, undef, undef, undef, undef, undef, undef, undef, undef, undef] : List Value).getD kz undef), rfl, rfl, Nat.zero_le _, fun k hk => absurd hk (by omega), GG, kr, HL, kg1, kg2⟩
  clear GG kr kg1 kg2 HL
  rintro mz az wv ⟨i, us1, rfl, rfl, hi, hno, GG, kr, HL, kg1, kg2⟩
  refine wp_seq ?_
  refine wp_seq ?_
  refine wp_region_lit ?_
  refine s_val 7 rfl rfl (.int .i64 ((i : Nat) : Int)) (rfl) ?_
  refine nr ?_; intro U h; simp only [z0, z1] at h; subst h
  refine s_val 8 rfl rfl (.pointer (some ⟨r, 0, none⟩)) (rfl) ?_
  refine nr ?_; intro U h; simp only [z0, z1] at h; subst h
  refine s_val 9 rfl rfl (.pointer (some ⟨r, 0, none⟩)) (run_nc _ rfl _ rfl) ?_
  refine nr ?_; intro U h; simp only [z0, z1] at h; subst h
  refine s_val 10 rfl rfl (.pointer (some ⟨r, 0, none⟩)) (run_fld 43 _ 0 rfl r 0 rfl 0 (by kernel_rfl)) ?_
  refine nr ?_; intro U h; simp only [z0, z1] at h; subst h
  refine s_val 11 rfl rfl (.slice ao L.length cap) (ldRl _ rfl r rfl (kr)) ?_
  refine nr ?_; intro U h; simp only [z0, z1] at h; subst h
  refine s_val 12 rfl rfl (.int .i64 ((L.length : Nat) : Int)) (run_len Try.underlying22 _ rfl _ _ _ rfl _) ?_
  refine nr ?_; intro U h; simp only [z0, z1] at h; subst h
  cases hj1 : decide (((i : Nat) : Int) < ((L.length : Nat) : Int))
  · have hje : i = L.length := by have := of_decide_eq_false hj1; omega
    refine s_val 13 rfl rfl (.bool false) (run_lssT 3 _ _ _ rfl ((i : Nat) : Int) ((L.length : Nat) : Int) rfl rfl false hj1 _) ?_
    refine nr ?_; intro U h; simp only [z0, z1] at h; subst h
    refine wpList_nil ?_
    refine then_n ?_
    refine wp_cond_false rfl ?_
    refine wp_exit ?_
    refine then_x ?_
    refine then_x ?_
    refine blk_x ?_
    refine then_n ?_
    refine wp_seq ?_
    refine wp_region_lit ?_
    refine s_val 33 rfl rfl (.agg (enA zE)) (run_bdE rfl _) ?_
    refine nr ?_; intro U h; simp only [z0, z1] at h; subst h
    refine s_store rfl rfl 52 _ _ rfl g2 0 rfl (.agg (enA zE)) rfl 52 _ kg2 (enA zE) rfl (si33' _) (enA_fit _ _) (enA_one _) (enA zE) (splice_whole _ _ (enA_sz _ _)) ?_
    intro w3 St
    have kS := kg2
    replace kr := St.has (by omega) kr
    replace kg1 := St.has (by omega) kg1
    replace HL := HL.st St dHLg2
    replace GG := GG.store St bg2
    replace kg2 := St.new
    clear St
    refine s_val 5 rfl rfl (.bool false) (rfl) ?_
    refine nr ?_; intro U h; simp only [z0, z1] at h; subst h
    refine wpList_nil ?_
    refine then_n ?_
    refine wp_ret ?_
    refine bodyPost_ret (results_cell_tmp Try.results29 _ _ g2 52 _ (0, 0) _ rfl (.bool false) rfl kg2 Try.underlying52 rfl (si33' _)) rfl ?_
    have hh := lst_no hje hno
    exact ⟨by rw [getV_no hh, hh], GG⟩
  · have hjl : i < L.length := by have := of_decide_eq_true hj1; omega
    refine s_val 13 rfl rfl (.bool true) (run_lssT 3 _ _ _ rfl ((i : Nat) : Int) ((L.length : Nat) : Int) rfl rfl true hj1 _) ?_
    refine nr ?_; intro U h; simp only [z0, z1] at h; subst h
    refine wpList_nil ?_
    refine then_n ?_
    refine wp_cond_true rfl ?_
    refine wp_skip ?_
    refine then_n ?_
    refine wp_seq ?_
    refine wp_block ?_
    refine wp_seq ?_
    cases hx : decide ((L.getD i zE).p = p)
    · refine wp_region_exA (A := ?Ax3) 9 [(0, 16), (1, 17), (2, 18), (3, 19), (4, 20), (5, 21), (6, 22), (7, 23), (8, 24)] [.val (.pointer (some ⟨r, 0, none⟩)), .val (.pointer (some ⟨r, 0, none⟩)), .val (.pointer (some ⟨r, 0, none⟩)), .val (.slice ao L.length cap), .val (.int .i64 ((i : Nat) : Int)), .val (.pointer (pE ao i 0)), .val (.pointer (pE ao i 0)), .val (.agg (paA ((L.getD i zE).p))), .val (.agg (paA p))] follows (by kernel_rfl) rfl ?hAx3 (opsA_cons ?o0x3 (opsA_cons ?o1x3 (opsA_cons ?o2x3 (opsA_cons ?o3x3 (opsA_cons ?o4x3 (opsA_cons ?o5x3 (opsA_cons ?o6x3 (opsA_cons ?o7x3 (opsA_cons ?o8x3 opsA_nil))))))))) ?restx3
      case hAx3 =>
        intro ptrs
        simp only [full, foldSlots, filledE, postE, List.foldl_cons, List.foldl_nil, List.getD_cons_zero, List.getD_cons_succ, fill_val, List.set_cons_zero, List.set_cons_succ]
        exact rfl
      case o0x3 => exact fun _ _ _ _ => opE_move (v := .pointer (some ⟨r, 0, none⟩)) _ rfl rfl rfl
      case o1x3 => exact fun _ _ _ _ => opE_value (v := .pointer (some ⟨r, 0, none⟩)) rfl (run_nc _ rfl _ rfl)
      case o2x3 => exact fun _ _ _ _ => opE_value (v := .pointer (some ⟨r, 0, none⟩)) rfl (run_fld 43 _ 0 rfl r 0 rfl 0 (by kernel_rfl))
      case o3x3 => exact fun _ _ hw _ => opE_value (v := .slice ao L.length cap) rfl (ldRl _ rfl r rfl (hw.has kr))
      case o4x3 => exact fun _ _ _ _ => opE_move (v := .int .i64 ((i : Nat) : Int)) _ rfl rfl rfl
      case o5x3 => exact fun _ _ hw _ => opE_value (v := .pointer (pE ao i 0)) rfl (run_ixE ((HL.gro ((Gro.refl _).drew.trans hw)).re) _ _ rfl rfl i rfl (by omega))
      case o6x3 => exact fun _ _ hw _ => opE_value (v := .pointer (pE ao i 0)) rfl (run_fdE ((HL.gro ((Gro.refl _).drew.trans hw)).re) _ 0 0 (fd33_0 _) rfl i rfl (by omega))
      case o7x3 => exact fun _ _ hw _ => opE_value (v := .agg (paA ((L.getD i zE).p))) rfl (run_ldEp ((HL.gro ((Gro.refl _).drew.trans hw)).re) _ rfl i rfl (by omega))
      case o8x3 => exact fun _ _ hw _ => opE_value (v := .agg (paA p)) rfl (ldP0 _ rfl g1 rfl (hw.has kg1))
      intro ptrs w3 GD hxE
      simp only [List.drop_succ_cons, List.drop_zero]
      replace kr := GD.has kr
      replace kg1 := GD.has kg1
      replace kg2 := GD.has kg2
      replace HL := HL.gro ((Gro.refl _).drew.trans GD)
      replace GG := GG.drew.trans GD
      clear GD
      refine s_val 25 rfl rfl (.bool false) (run_eqP _ _ _ rfl _ _ rfl rfl (HL.all.at (by omega)).p hp false hx) ?_
      refine nr ?_; intro U h; simp only [z0, z1] at h; subst h
      refine wpList_nil ?_
      refine then_n ?_
      refine wp_cond_false rfl ?_
      refine wp_skip ?_
      refine blk_n ?_
      refine then_n ?_
      refine wp_region_lit ?_
      refine s_val 14 rfl rfl (.int .i64 ((i : Nat) : Int)) (rfl) ?_
      refine nr ?_; intro U h; simp only [z0, z1] at h; subst h
      refine s_val 15 rfl rfl (.int .i64 ((i + 1 : Nat) : Int)) (run_addI 3 _ _ _ rfl ((i : Nat) : Int) 1 ((i + 1 : Nat) : Int) rfl rfl (by omega) (by omega) (by omega) _) ?_
      refine nr ?_; intro U h; simp only [z0, z1] at h; subst h
      refine s_val 6 rfl rfl (.int .i64 ((i + 1 : Nat) : Int)) (rfl) ?_
      refine nr ?_; intro U h; simp only [z0, z1] at h; subst h
      refine wpList_nil ?_
      refine then_n ?_
      exact ⟨L.length + 1 - (i + 1), by omega, i + 1, (fun kz => ([us1 0, .int .i64 ((i : Nat) : Int), .pointer (some ⟨r, 0, none⟩), .pointer (some ⟨r, 0, none⟩), .pointer (some ⟨r, 0, none⟩), .slice ao L.length cap, .int .i64 ((L.length : Nat) : Int), .bool true, .int .i64 ((i : Nat) : Int), .int .i64 ((i + 1 : Nat) : Int), .pointer (some ⟨r, 0, none⟩), .pointer (some ⟨r, 0, none⟩), .pointer (some ⟨r, 0, none⟩), .slice ao L.length cap, .int .i64 ((i : Nat) : Int), .pointer (pE ao i 0), .pointer (pE ao i 0), .agg (paA ((L.getD i zE).p)), .agg (paA p), .bool false, us1 20, us1 21, us1 22, us1 23, us1 24, us1 25, us1 26] : List Value).getD kz undef), rfl, rfl, by omega, fun k hk => (Nat.lt_succ_iff_lt_or_eq.1 hk).elim (hno k) (fun e => e ▸ of_decide_eq_false hx), GG, kr, HL, kg1, kg2⟩
    · refine wp_region_exA (A := ?Ax4) 9 [(0, 16), (1, 17), (2, 18), (3, 19), (4, 20), (5, 21), (6, 22), (7, 23), (8, 24)] [.val (.pointer (some ⟨r, 0, none⟩)), .val (.pointer (some ⟨r, 0, none⟩)), .val (.pointer (some ⟨r, 0, none⟩)), .val (.slice ao L.length cap), .val (.int .i64 ((i : Nat) : Int)), .val (.pointer (pE ao i 0)), .val (.pointer (pE ao i 0)), .val (.agg (paA ((L.getD i zE).p))), .val (.agg (paA p))] follows (by kernel_rfl) rfl ?hAx4 (opsA_cons ?o0x4 (opsA_cons ?o1x4 (opsA_cons ?o2x4 (opsA_cons ?o3x4 (opsA_cons ?o4x4 (opsA_cons ?o5x4 (opsA_cons ?o6x4 (opsA_cons ?o7x4 (opsA_cons ?o8x4 opsA_nil))))))))) ?restx4
      case hAx4 =>
        intro ptrs
        simp only [full, foldSlots, filledE, postE, List.foldl_cons, List.foldl_nil, List.getD_cons_zero, List.getD_cons_succ, fill_val, List.set_cons_zero, List.set_cons_succ]
        exact rfl
      case o0x4 => exact fun _ _ _ _ => opE_move (v := .pointer (some ⟨r, 0, none⟩)) _ rfl rfl rfl
      case o1x4 => exact fun _ _ _ _ => opE_value (v := .pointer (some ⟨r, 0, none⟩)) rfl (run_nc _ rfl _ rfl)
      case o2x4 => exact fun _ _ _ _ => opE_value (v := .pointer (some ⟨r, 0, none⟩)) rfl (run_fld 43 _ 0 rfl r 0 rfl 0 (by kernel_rfl))
      case o3x4 => exact fun _ _ hw _ => opE_value (v := .slice ao L.length cap) rfl (ldRl _ rfl r rfl (hw.has kr))
      case o4x4 => exact fun _ _ _ _ => opE_move (v := .int .i64 ((i : Nat) : Int)) _ rfl rfl rfl
      case o5x4 => exact fun _ _ hw _ => opE_value (v := .pointer (pE ao i 0)) rfl (run_ixE ((HL.gro ((Gro.refl _).drew.trans hw)).re) _ _ rfl rfl i rfl (by omega))
      case o6x4 => exact fun _ _ hw _ => opE_value (v := .pointer (pE ao i 0)) rfl (run_fdE ((HL.gro ((Gro.refl _).drew.trans hw)).re) _ 0 0 (fd33_0 _) rfl i rfl (by omega))
      case o7x4 => exact fun _ _ hw _ => opE_value (v := .agg (paA ((L.getD i zE).p))) rfl (run_ldEp ((HL.gro ((Gro.refl _).drew.trans hw)).re) _ rfl i rfl (by omega))
      case o8x4 => exact fun _ _ hw _ => opE_value (v := .agg (paA p)) rfl (ldP0 _ rfl g1 rfl (hw.has kg1))
      intro ptrs w3 GD hxE
      simp only [List.drop_succ_cons, List.drop_zero]
      replace kr := GD.has kr
      replace kg1 := GD.has kg1
      replace kg2 := GD.has kg2
      replace HL := HL.gro ((Gro.refl _).drew.trans GD)
      replace GG := GG.drew.trans GD
      clear GD
      refine s_val 25 rfl rfl (.bool true) (run_eqP _ _ _ rfl _ _ rfl rfl (HL.all.at (by omega)).p hp true hx) ?_
      refine nr ?_; intro U h; simp only [z0, z1] at h; subst h
      refine wpList_nil ?_
      refine then_n ?_
      refine wp_cond_true rfl ?_
      refine wp_seq ?_
      refine wp_region_lit ?_
      refine s_val 26 rfl rfl (.pointer (some ⟨r, 0, none⟩)) (rfl) ?_
      refine nr ?_; intro U h; simp only [z0, z1] at h; subst h
      refine s_val 27 rfl rfl (.pointer (some ⟨r, 0, none⟩)) (run_nc _ rfl _ rfl) ?_
      refine nr ?_; intro U h; simp only [z0, z1] at h; subst h
      refine s_val 28 rfl rfl (.pointer (some ⟨r, 0, none⟩)) (run_fld 43 _ 0 rfl r 0 rfl 0 (by kernel_rfl)) ?_
      refine nr ?_; intro U h; simp only [z0, z1] at h; subst h
      refine s_val 29 rfl rfl (.slice ao L.length cap) (ldRl _ rfl r rfl (kr)) ?_
      refine nr ?_; intro U h; simp only [z0, z1] at h; subst h
      refine s_val 30 rfl rfl (.int .i64 ((i : Nat) : Int)) (rfl) ?_
      refine nr ?_; intro U h; simp only [z0, z1] at h; subst h
      refine s_val 31 rfl rfl (.pointer (pE ao i 0)) (run_ixE (HL.re) _ _ rfl rfl i rfl (by omega)) ?_
      refine nr ?_; intro U h; simp only [z0, z1] at h; subst h
      refine s_val 32 rfl rfl (.agg (enA (L.getD i zE))) (run_ldE (HL.re) _ rfl i rfl (by omega)) ?_
      refine nr ?_; intro U h; simp only [z0, z1] at h; subst h
      refine s_store rfl rfl 52 _ _ rfl g2 0 rfl (.agg (enA (L.getD i zE))) rfl 52 _ kg2 (enA (L.getD i zE)) rfl (si33' _) (enA_fit _ _) (enA_one _) (enA (L.getD i zE)) (splice_whole _ _ (enA_sz _ _)) ?_
      intro w4 St
      have kS := kg2
      replace kr := St.has (by omega) kr
      replace kg1 := St.has (by omega) kg1
      replace HL := HL.st St dHLg2
      replace GG := GG.store St bg2
      replace kg2 := St.new
      clear St
      refine s_val 5 rfl rfl (.bool true) (rfl) ?_
      refine nr ?_; intro U h; simp only [z0, z1] at h; subst h
      refine wpList_nil ?_
      refine then_n ?_
      refine wp_ret ?_
      refine blk_r ?_
      refine then_r ?_
      refine then_r ?_
      refine blk_r ?_
      refine then_r ?_
      refine bodyPost_ret (results_cell_tmp Try.results29 _ _ g2 52 _ (0, 0) _ rfl (.bool true) rfl kg2 Try.underlying52 rfl (si33' _)) rfl ?_
      obtain ⟨h1, h2⟩ := getV_at hk hjl
      rw [of_decide_eq_true hx] at h1 h2
      exact ⟨by rw [h1, h2], GG⟩
set_option maxRecDepth 100000 in
set_option maxHeartbeats 4000000 in
theorem radd_any (w : World) (r most : Nat) (ao : Option Addr) (cap : Nat) (L : List En) (kr : w.heap[r]? = some (.cells (rbA ao L.length cap most) 43 (0, 0))) (HL : OE w 0 ao cap L) (hLb : L.length ≤ 1000) (hk : KN L) (x : En) (hx : x.ok) : Calls Try.prog 23 #[.pointer (some ⟨r, 0, none⟩), .agg (enA x)] w (fun e w' => e = .returned (.int .i64 (addC most L x)) ∧ ∃ ao2 cap2, w'.heap[r]? = some (.cells (rbA ao2 (addL most L x).length cap2 most) 43 (0, 0)) ∧ OE w' 0 ao2 cap2 (addL most L x) ∧ GroS [r] w w') := by
  refine s_enter Try.func23 rfl Try.ntmps23 [.pointer (some ⟨r, 0, none⟩), .agg (enA x)] [.pointer (some ⟨r, 0, none⟩), .agg (enA x), undef, undef, undef, undef, undef, undef, undef, undef, undef, undef, undef, undef, undef, undef, undef, undef, undef, undef, undef, undef, undef, undef, undef, undef, undef, undef, undef, undef, undef, undef, undef, undef, undef, undef, undef, undef, undef, undef, undef, undef, undef, undef, undef, undef, undef, undef, undef, undef, undef, undef, undef, undef, undef, undef, undef, undef, undef, undef, undef, undef, undef, undef, undef, undef, undef, undef, undef, undef, undef, undef, undef, undef, undef, undef, undef] rfl ?_
  have GG := Gro.refl w
  refine wp_seq ?_
  refine wp_region_lit ?_
  refine s_box 3 rfl rfl 52 _ rfl _ rfl (enA x) rfl ?_
  intro w1 g1 G eg1 kg1
  have bg1 := size_base GG eg1
  have drg1 := lt_new kr eg1
  replace kr := G.has kr
  replace HL := HL.gro G
  replace GG := GG.trans G
  clear G
  clear eg1
  refine nr ?_; intro U h; simp only [z0, z1] at h; subst h
  refine s_val 4 rfl rfl (.int .i64 0) (rfl) ?_
  refine nr ?_; intro U h; simp only [z0, z1] at h; subst h
  refine wpList_nil ?_
  refine then_n ?_
  refine wp_seq ?_
  refine wp_seq ?_
  cases hr : decide (rgt x = true)
  · refine wp_region_lit ?_
    refine s_val 9 rfl rfl (.agg (enA x)) (ldE0 _ rfl g1 rfl (kg1)) ?_
    refine nr ?_; intro U h; simp only [z0, z1] at h; subst h
    refine s_callv 10 rfl rfl _ 37 Try.call37 rfl rfl _ rfl [.agg (enA x)] rfl (Calls.bool (rright_any x hx _) (Bool.eq_false_iff.2 (of_decide_eq_false hr))) ?_
    intro w2 G
    replace kr := G.has kr
    replace kg1 := G.has kg1
    replace HL := HL.gro G
    replace GG := GG.trans G
    clear G
    refine nr ?_; intro U h; simp only [z0, z1] at h; subst h
    refine s_val 11 rfl rfl (.bool true) (run_nt _ _ rfl false rfl) ?_
    refine nr ?_; intro U h; simp only [z0, z1] at h; subst h
    refine wpList_nil ?_
    refine then_n ?_
    refine wp_cond_true rfl ?_
    refine wp_seq ?_
    refine wp_region_lit ?_
    refine s_val 4 rfl rfl (.int .i64 1) (rfl) ?_
    refine nr ?_; intro U h; simp only [z0, z1] at h; subst h
    refine wpList_nil ?_
    refine then_n ?_
    refine wp_ret ?_
    refine then_r ?_
    refine bodyPost_ret (results_tmp Try.results23 _ _ _) rfl ?_
    have ec : addC most L x = _ := addC_1 (Bool.eq_false_iff.2 (of_decide_eq_false hr))
    exact ⟨congrArg (fun z => Ending.returned (.int .i64 z)) ec.symm, ao, cap, by rw [addL_no ec (by decide)]; exact kr, by rw [addL_no ec (by decide)]; exact HL, .of GG⟩
  · refine wp_region_lit ?_
    refine s_val 9 rfl rfl (.agg (enA x)) (ldE0 _ rfl g1 rfl (kg1)) ?_
    refine nr ?_; intro U h; simp only [z0, z1] at h; subst h
    refine s_callv 10 rfl rfl _ 37 Try.call37 rfl rfl _ rfl [.agg (enA x)] rfl (Calls.bool (rright_any x hx _) (of_decide_eq_true hr)) ?_
    intro w2 G
    replace kr := G.has kr
    replace kg1 := G.has kg1
    replace HL := HL.gro G
    replace GG := GG.trans G
    clear G
    refine nr ?_; intro U h; simp only [z0, z1] at h; subst h
    refine s_val 11 rfl rfl (.bool false) (run_nt _ _ rfl true rfl) ?_
    refine nr ?_; intro U h; simp only [z0, z1] at h; subst h
    refine wpList_nil ?_
    refine then_n ?_
    refine wp_cond_false rfl ?_
    refine wp_skip ?_
    refine then_n ?_
    refine wp_seq ?_
    refine wp_seq ?_
    cases hh : decide (hasL L x.p = true)
    · refine wp_region_lit ?_
      refine s_val 13 rfl rfl (.pointer (some ⟨r, 0, none⟩)) (rfl) ?_
      refine nr ?_; intro U h; simp only [z0, z1] at h; subst h
      refine s_val 14 rfl rfl (.pointer (some ⟨g1, 0, none⟩)) (run_fld 52 _ 0 rfl g1 0 rfl 0 (by kernel_rfl)) ?_
      refine nr ?_; intro U h; simp only [z0, z1] at h; subst h
      refine s_val 15 rfl rfl (.agg (paA x.p)) (ldEp _ rfl g1 rfl (kg1)) ?_
      refine nr ?_; intro U h; simp only [z0, z1] at h; subst h
      refine s_callv 16 rfl rfl _ 29 Try.call29 rfl rfl _ rfl [.pointer (some ⟨r, 0, none⟩), .agg (paA x.p)] rfl (Calls.valV (rget_any _ r most ao cap L kr HL hLb hk x.p hx.p) (by rw [(Bool.eq_false_iff.2 (of_decide_eq_false hh))])) ?_
      intro w3 G
      replace kr := G.has kr
      replace kg1 := G.has kg1
      replace HL := HL.gro G
      replace GG := GG.trans G
      clear G
      refine nr ?_; intro U h; simp only [z0, z1] at h; subst h
      refine s_val 12 rfl rfl (.tuple #[.agg (enA (getV L x.p)), .bool false]) (rfl) ?_
      refine nr ?_; intro U h; simp only [z0, z1] at h; subst h
      refine s_val 17 rfl rfl (.agg (enA (getV L x.p))) (rfl) ?_
      refine nr ?_; intro U h; simp only [z0, z1] at h; subst h
      refine s_val 18 rfl rfl (.bool false) (rfl) ?_
      refine nr ?_; intro U h; simp only [z0, z1] at h; subst h
      refine s_alloc 5 rfl rfl 52 rfl _ zero33 (enA zE) rfl ?_
      intro w4 g2 G eg2 kg2
      have bg2 := size_base GG eg2
      have drg2 := lt_new kr eg2
      have dg1g2 := lt_new kg1 eg2
      have dHLg2 := HL.ne eg2
      replace kr := G.has kr
      replace kg1 := G.has kg1
      replace HL := HL.gro G
      replace GG := GG.trans G
      clear G
      clear eg2
      refine nr ?_; intro U h; simp only [z0, z1] at h; subst h
      refine s_store rfl rfl 52 _ _ rfl g2 0 rfl (.agg (enA (getV L x.p))) rfl 52 _ kg2 (enA (getV L x.p)) rfl (si33' _) (enA_fit _ _) (enA_one _) (enA (getV L x.p)) (splice_whole _ _ (enA_sz _ _)) ?_
      intro w5 St
      have kS := kg2
      replace kr := St.has (by omega) kr
      replace kg1 := St.has (by omega) kg1
      replace HL := HL.st St dHLg2
      replace GG := GG.store St bg2
      replace kg2 := St.new
      clear St
      refine s_val 6 rfl rfl (.bool false) (rfl) ?_
      refine nr ?_; intro U h; simp only [z0, z1] at h; subst h
      refine wpList_nil ?_
      refine then_n ?_
      refine wp_seq ?_
      refine wp_region_lit ?_
      refine s_val 19 rfl rfl (.bool false) (rfl) ?_
      refine nr ?_; intro U h; simp only [z0, z1] at h; subst h
      refine wpList_nil ?_
      refine then_n ?_
      refine wp_cond_false rfl ?_
      refine wp_skip ?_
      refine then_n ?_
      refine wp_seq ?_
      refine wp_seq ?_
      refine wp_region_exA (A := ?Ax8) 9 [(0, 20), (1, 21), (2, 22), (3, 23), (4, 24), (5, 25), (6, 26), (7, 27), (8, 28)] [.val (.pointer (some ⟨r, 0, none⟩)), .val (.pointer (some ⟨r, 0, none⟩)), .val (.pointer (some ⟨r, 0, none⟩)), .val (.slice ao L.length cap), .val (.int .i64 ((L.length : Nat) : Int)), .val (.pointer (some ⟨r, 0, none⟩)), .val (.pointer (some ⟨r, 0, none⟩)), .val (.pointer (some ⟨r, 1, none⟩)), .val (.int .i64 ((most : Nat) : Int))] follows (by kernel_rfl) rfl ?hAx8 (opsA_cons ?o0x8 (opsA_cons ?o1x8 (opsA_cons ?o2x8 (opsA_cons ?o3x8 (opsA_cons ?o4x8 (opsA_cons ?o5x8 (opsA_cons ?o6x8 (opsA_cons ?o7x8 (opsA_cons ?o8x8 opsA_nil))))))))) ?restx8
      case hAx8 =>
        intro ptrs
        simp only [full, foldSlots, filledE, postE, List.foldl_cons, List.foldl_nil, List.getD_cons_zero, List.getD_cons_succ, fill_val, List.set_cons_zero, List.set_cons_succ]
        exact rfl
      case o0x8 => exact fun _ _ _ _ => opE_move (v := .pointer (some ⟨r, 0, none⟩)) _ rfl rfl rfl
      case o1x8 => exact fun _ _ _ _ => opE_value (v := .pointer (some ⟨r, 0, none⟩)) rfl (run_nc _ rfl _ rfl)
      case o2x8 => exact fun _ _ _ _ => opE_value (v := .pointer (some ⟨r, 0, none⟩)) rfl (run_fld 43 _ 0 rfl r 0 rfl 0 (by kernel_rfl))
      case o3x8 => exact fun _ _ hw _ => opE_value (v := .slice ao L.length cap) rfl (ldRl _ rfl r rfl (hw.has kr))
      case o4x8 => exact fun _ _ _ _ => opE_value (v := .int .i64 ((L.length : Nat) : Int)) rfl (run_len Try.underlying22 _ rfl _ _ _ rfl _)
      case o5x8 => exact fun _ _ _ _ => opE_move (v := .pointer (some ⟨r, 0, none⟩)) _ rfl rfl rfl
      case o6x8 => exact fun _ _ _ _ => opE_value (v := .pointer (some ⟨r, 0, none⟩)) rfl (run_nc _ rfl _ rfl)
      case o7x8 => exact fun _ _ _ _ => opE_value (v := .pointer (some ⟨r, 1, none⟩)) rfl (run_fld 43 _ 1 rfl r 0 rfl 1 (by kernel_rfl))
      case o8x8 => exact fun _ _ hw _ => opE_value (v := .int .i64 ((most : Nat) : Int)) rfl (ldRm _ rfl r rfl (hw.has kr))
      intro ptrs w6 GD hxE
      simp only [List.drop_succ_cons, List.drop_zero]
      replace kr := GD.has kr
      replace kg1 := GD.has kg1
      replace kg2 := GD.has kg2
      replace HL := HL.gro ((Gro.refl _).drew.trans GD)
      replace GG := GG.drew.trans GD
      clear GD
      cases hf : decide (((most : Nat) : Int) ≤ ((L.length : Nat) : Int))
      · refine s_val 29 rfl rfl (.bool false) (run_geqT 3 _ _ _ rfl ((L.length : Nat) : Int) ((most : Nat) : Int) rfl rfl false hf _) ?_
        refine nr ?_; intro U h; simp only [z0, z1] at h; subst h
        refine wpList_nil ?_
        refine then_n ?_
        refine wp_cond_false rfl ?_
        refine wp_skip ?_
        refine then_n ?_
        refine wp_seq ?_
        refine wp_region_lit ?_
        refine s_val 7 rfl rfl (.slice none 0 0) (rfl) ?_
        refine nr ?_; intro U h; simp only [z0, z1] at h; subst h
        refine wpList_nil ?_
        refine then_n ?_
        refine wp_seq ?_
        refine wp_region_lit ?_
        refine s_val 8 rfl rfl (.int .i64 0) (rfl) ?_
        refine nr ?_; intro U h; simp only [z0, z1] at h; subst h
        refine wpList_nil ?_
        refine then_n ?_
        refine wp_seq ?_
        refine wp_block ?_
        obtain ⟨BB, hBB⟩ : ∃ B, w6.heap.size = B := ⟨_, rfl⟩
        have hwB : w.heap.size ≤ BB := hBB ▸ GG.size
        have HZ : SZ BB w6 := Nat.le_of_eq hBB.symm
        have lr : r < BB := hBB ▸ lt_of_heap kr
        have lg1 : g1 < BB := hBB ▸ lt_of_heap kg1
        have hLl : ∀ k ∈ blk ao, k < BB := fun k hk => hBB ▸ HL.own.lt k hk
        clear hBB
        refine wp_loopN (fun mz az wv => ∃ (i : Nat) (ao1 : Option Addr) (cap1 : Nat) (l2 : List En) (us1 : Nat → Value), mz = L.length + 1 - i ∧ az = ⟨[.pointer (some ⟨r, 0, none⟩), .agg (enA x), undef, .pointer (some ⟨g1, 0, none⟩), .int .i64 0, .pointer (some ⟨g2, 0, none⟩), .bool false, .slice ao1 l2.length cap1, .int .i64 ((i : Nat) : Int), .agg (enA x), .bool true, .bool false, .tuple #[.agg (enA (getV L x.p)), .bool false], .pointer (some ⟨r, 0, none⟩), .pointer (some ⟨g1, 0, none⟩), .agg (paA x.p), .tuple #[.agg (enA (getV L x.p)), .bool false], .agg (enA (getV L x.p)), .bool false, .bool false, .pointer (some ⟨r, 0, none⟩), .pointer (some ⟨r, 0, none⟩), .pointer (some ⟨r, 0, none⟩), .slice ao L.length cap, .int .i64 ((L.length : Nat) : Int), .pointer (some ⟨r, 0, none⟩), .pointer (some ⟨r, 0, none⟩), .pointer (some ⟨r, 1, none⟩), .int .i64 ((most : Nat) : Int), .bool false, us1 0, us1 1, us1 2, us1 3, us1 4, us1 5, us1 6, us1 7, us1 8, us1 9, us1 10, us1 11, us1 12, us1 13, us1 14, us1 15, us1 16, us1 17, us1 18, us1 19, us1 20, us1 21, us1 22, us1 23, us1 24, us1 25, us1 26, us1 27, us1 28, us1 29, us1 30, us1 31, undef, undef, undef, undef, undef, undef, undef, undef, undef, undef, undef, undef, undef, undef, undef].toArray, []⟩ ∧ i ≤ L.length ∧ Gro w wv ∧ wv.heap[r]? = some (.cells (rbA ao L.length cap most) 43 (0, 0)) ∧ wv.heap[g1]? = some (.cells (enA x) 52 (0, 0)) ∧ OE wv 0 ao cap L ∧ SZ BB wv ∧ OE wv BB ao1 cap1 l2 ∧ l2 = L.take i ∧ (∀ k, k < i → ky (L.getD k zE).p < ky x.p)) ?_ _ ⟨0, none, 0, [], (fun kz => ([undef, undef, undef, undef, undef, undef, undef, undef, undef, undef, undef, undef, undef, undef, undef, undef, undef, undef, undef, undef, undef, undef, undef, undef, undef, undef, undef, undef, undef, undef, undef, undef] : List Value).getD kz undef), rfl, rfl, Nat.zero_le _, GG, kr, kg1, HL, HZ, OE.nil _ _, rfl, fun k hk => absurd hk (by omega)⟩
        clear GG kr kg1 HL
        rintro mz az wv ⟨i, ao1, cap1, l2, us1, rfl, rfl, hi, GG, kr, kg1, HL, HZ, HO, hl2, hlo⟩
        have hLt : (L.take i).length = i := by rw [List.length_take]; omega
        refine wp_seq ?_
        refine wp_seq ?_
        cases hj1 : decide (((i : Nat) : Int) < ((L.length : Nat) : Int))
        · have hje : i = L.length := by have := of_decide_eq_false hj1; omega
          refine wp_region_exA (A := ?Ax9) 19 [(0, 30), (1, 31), (2, 32), (3, 33), (4, 34), (5, 35), (6, 36), (7, 37), (8, 38), (9, 39), (10, 40), (11, 41), (12, 42), (13, 43), (14, 44), (15, 45), (16, 46), (17, 47), (18, 48)] [.val (.int .i64 ((i : Nat) : Int)), .val (.pointer (some ⟨r, 0, none⟩)), .val (.pointer (some ⟨r, 0, none⟩)), .val (.pointer (some ⟨r, 0, none⟩)), .val (.slice ao L.length cap), .val (.int .i64 ((L.length : Nat) : Int)), .val (.bool false), .val (.bool false), .val undef, .val undef, .val undef, .val undef, .val undef, .val undef, .val undef, .val undef, .val undef, .val undef, .val undef] follows (by kernel_rfl) rfl ?hAx9 (opsA_cons ?o0x9 (opsA_cons ?o1x9 (opsA_cons ?o2x9 (opsA_cons ?o3x9 (opsA_cons ?o4x9 (opsA_cons ?o5x9 (opsA_cons ?o6x9 (opsA_cons ?o7x9 (opsA_cons ?o8x9 (opsA_cons ?o9x9 (opsA_cons ?o10x9 (opsA_cons ?o11x9 (opsA_cons ?o12x9 (opsA_cons ?o13x9 (opsA_cons ?o14x9 (opsA_cons ?o15x9 (opsA_cons ?o16x9 (opsA_cons ?o17x9 (opsA_cons ?o18x9 opsA_nil))))))))))))))))))) ?restx9
          case hAx9 =>
            intro ptrs
            simp only [full, foldSlots, filledE, postE, List.foldl_cons, List.foldl_nil, List.getD_cons_zero, List.getD_cons_succ, fill_val, List.set_cons_zero, List.set_cons_succ]
            exact rfl
          case o0x9 => exact fun _ _ _ _ => opE_move (v := .int .i64 ((i : Nat) : Int)) _ rfl rfl rfl
          case o1x9 => exact fun _ _ _ _ => opE_move (v := .pointer (some ⟨r, 0, none⟩)) _ rfl rfl rfl
          case o2x9 => exact fun _ _ _ _ => opE_value (v := .pointer (some ⟨r, 0, none⟩)) rfl (run_nc _ rfl _ rfl)
          case o3x9 => exact fun _ _ _ _ => opE_value (v := .pointer (some ⟨r, 0, none⟩)) rfl (run_fld 43 _ 0 rfl r 0 rfl 0 (by kernel_rfl))
          case o4x9 => exact fun _ _ hw _ => opE_value (v := .slice ao L.length cap) rfl (ldRl _ rfl r rfl (hw.has kr))
          case o5x9 => exact fun _ _ _ _ => opE_value (v := .int .i64 ((L.length : Nat) : Int)) rfl (run_len Try.underlying22 _ rfl _ _ _ rfl _)
          case o6x9 => exact fun _ _ _ _ => opE_value (v := .bool false) rfl (run_lssT 3 _ _ _ rfl ((i : Nat) : Int) ((L.length : Nat) : Int) rfl rfl false hj1 _)
          case o7x9 => exact fun _ _ _ _ => opE_move (v := .bool false) _ rfl rfl rfl
          case o8x9 => exact fun _ _ _ _ => opE_skip rfl
          case o9x9 => exact fun _ _ _ _ => opE_skip rfl
          case o10x9 => exact fun _ _ _ _ => opE_skip rfl
          case o11x9 => exact fun _ _ _ _ => opE_skip rfl
          case o12x9 => exact fun _ _ _ _ => opE_skip rfl
          case o13x9 => exact fun _ _ _ _ => opE_skip rfl
          case o14x9 => exact fun _ _ _ _ => opE_skip rfl
          case o15x9 => exact fun _ _ _ _ => opE_skip rfl
          case o16x9 => exact fun _ _ _ _ => opE_skip rfl
          case o17x9 => exact fun _ _ _ _ => opE_skip rfl
          case o18x9 => exact fun _ _ _ _ => opE_skip rfl
          intro ptrs w7 GD hxE
          simp only [List.drop_succ_cons, List.drop_zero]
          replace kr := GD.has kr
          replace kg1 := GD.has kg1
          replace HL := HL.gro ((Gro.refl _).drew.trans GD)
          replace HZ := HZ.gro ((Gro.refl _).drew.trans GD)
          replace HO := HO.gro ((Gro.refl _).drew.trans GD)
          replace GG := GG.drew.trans GD
          clear GD
          refine s_val 49 rfl rfl (.bool false) (rfl) ?_
          refine nr ?_; intro U h; simp only [z0, z1] at h; subst h
          refine wpList_nil ?_
          refine then_n ?_
          refine wp_cond_false rfl ?_
          refine wp_exit ?_
          refine then_x ?_
          refine then_x ?_
          refine blk_x ?_
          refine then_n ?_
          refine wp_seq ?_
          refine wp_region_lit ?_
          refine s_val 62 rfl rfl (.slice ao1 l2.length cap1) (rfl) ?_
          refine nr ?_; intro U h; simp only [z0, z1] at h; subst h
          refine s_val 63 rfl rfl (.agg (enA x)) (ldE0 _ rfl g1 rfl (kg1)) ?_
          refine nr ?_; intro U h; simp only [z0, z1] at h; subst h
          refine s_bsl 64 rfl rfl 22 1 _ rfl [(0, .agg (enA x))] rfl (flE ([x] : List En)).toArray 52 (bs1 x _) ?_
          intro w8 q1 G eq1 kq1
          have bq1 := size_base GG eq1
          replace kr := G.has kr
          replace kg1 := G.has kg1
          replace HL := HL.gro G
          replace HZ := HZ.gro G
          replace HO := HO.gro G
          replace GG := GG.trans G
          clear G
          have HR1 : RE _ (some ⟨q1, 0, none⟩) ([x] : List En).length ([x] : List En) := RE.blk kq1 (AllE.one hx) (Nat.le_refl _)
          clear eq1
          refine nr ?_; intro U h; simp only [z0, z1] at h; subst h
          refine s_appE 65 rfl rfl _ _ rfl rfl HO rfl HR1 (by rw [hl2]; simp only [List.length_cons, List.length_nil]; omega) HZ ?_
          intro ao2 cap2 w9 HO2 G2 _
          have GB := HO.belowB G2 HZ
          replace kr := bel_has GB kr (by omega)
          replace kg1 := bel_has GB kg1 (by omega)
          replace HL := HL.bel GB hLl
          replace GG := G2.gro GG (fun k hk => by have := HO.own.base k hk; omega)
          replace HZ := HZ.le G2.size
          clear G2 GB HO
          have HO := HO2
          clear HO2
          refine nr ?_; intro U h; simp only [z0, z1] at h; subst h
          refine s_val 7 rfl rfl (.slice ao2 ((l2 ++ ([x] : List En)).length) cap2) (rfl) ?_
          refine nr ?_; intro U h; simp only [z0, z1] at h; subst h
          refine wpList_nil ?_
          refine then_n ?_
          refine wp_seq ?_
          refine wp_region_lit ?_
          refine s_val 66 rfl rfl (.pointer (some ⟨r, 0, none⟩)) (rfl) ?_
          refine nr ?_; intro U h; simp only [z0, z1] at h; subst h
          refine s_val 67 rfl rfl (.slice ao2 ((l2 ++ ([x] : List En)).length) cap2) (rfl) ?_
          refine nr ?_; intro U h; simp only [z0, z1] at h; subst h
          refine s_val 68 rfl rfl (.pointer (some ⟨r, 0, none⟩)) (rfl) ?_
          refine nr ?_; intro U h; simp only [z0, z1] at h; subst h
          refine s_val 69 rfl rfl (.pointer (some ⟨r, 0, none⟩)) (run_nc _ rfl _ rfl) ?_
          refine nr ?_; intro U h; simp only [z0, z1] at h; subst h
          refine s_val 70 rfl rfl (.pointer (some ⟨r, 0, none⟩)) (run_fld 43 _ 0 rfl r 0 rfl 0 (by kernel_rfl)) ?_
          refine nr ?_; intro U h; simp only [z0, z1] at h; subst h
          refine s_val 71 rfl rfl (.slice ao L.length cap) (ldRl _ rfl r rfl (kr)) ?_
          refine nr ?_; intro U h; simp only [z0, z1] at h; subst h
          refine s_val 72 rfl rfl (.int .i64 ((i : Nat) : Int)) (rfl) ?_
          refine nr ?_; intro U h; simp only [z0, z1] at h; subst h
          refine s_val 73 rfl rfl (.slice (if cap = i then ao else ao.map (·.add (i * 51))) (L.length - i) (cap - i)) (run_cutX rE _ _ rfl ao L.length cap i rfl rfl hi _) ?_
          refine nr ?_; intro U h; simp only [z0, z1] at h; subst h
          have hcd : (L.drop i).length = L.length - i := List.length_drop ..
          refine s_appE 74 rfl rfl _ _ rfl rfl HO (by rw [hcd]; rfl) (HL.re.drop i hi) (by rw [hl2]; simp only [List.length_append, List.length_cons, List.length_nil]; omega) HZ ?_
          intro ao3 cap3 w10 HO2 G2 _
          have GB := HO.belowB G2 HZ
          replace kr := bel_has GB kr (by omega)
          replace GG := G2.gro GG (fun k hk => by have := HO.own.base k hk; omega)
          clear G2 GB HO
          have HO := HO2
          clear HO2
          have hins : (l2 ++ [x]) ++ L.drop i = insL x L := by rw [hl2, List.append_assoc]; exact insL_at x L i hi hlo (fun h => absurd h (by omega))
          rw [hins] at HO
          rw [hins]
          refine nr ?_; intro U h; simp only [z0, z1] at h; subst h
          refine s_val 75 rfl rfl (.pointer (some ⟨r, 0, none⟩)) (run_nc _ rfl _ rfl) ?_
          refine nr ?_; intro U h; simp only [z0, z1] at h; subst h
          refine s_val 76 rfl rfl (.pointer (some ⟨r, 0, none⟩)) (run_fld 43 _ 0 rfl r 0 rfl 0 (by kernel_rfl)) ?_
          refine nr ?_; intro U h; simp only [z0, z1] at h; subst h
          refine s_store rfl rfl 22 _ _ rfl r 0 rfl (.slice ao3 ((insL x L).length) cap3) rfl 43 _ kr #[.slice ao3 ((insL x L).length) cap3] rfl si41 (show (0 + 1 : Nat) ≤ 2 from by decide) (s_one _ _ _) _ (sprb _ _ _ _ _ _ _) ?_
          intro w11 St
          replace HO := HO.st St (HO.own.ne kr (by decide))
          have GG2 := (GroS.of GG).st St (.inr (by simp) : _ ∨ r ∈ [r])
          clear GG
          have GG := GG2
          clear GG2
          replace kr := St.new
          clear St
          refine wpList_nil ?_
          refine then_n ?_
          refine wp_seq ?_
          refine wp_region_lit ?_
          refine s_val 4 rfl rfl (.int .i64 0) (rfl) ?_
          refine nr ?_; intro U h; simp only [z0, z1] at h; subst h
          refine wpList_nil ?_
          refine then_n ?_
          refine wp_ret ?_
          refine bodyPost_ret (results_tmp Try.results23 _ _ _) rfl ?_
          have ec : addC most L x = _ := addC_ok (of_decide_eq_true hr) (Bool.eq_false_iff.2 (of_decide_eq_false hh)) (by have := of_decide_eq_false hf; omega)
          exact ⟨congrArg (fun z => Ending.returned (.int .i64 z)) ec.symm, ao3, cap3, by rw [addL_yes ec]; exact kr, by rw [addL_yes ec]; exact HO.mono (Nat.zero_le _), GG⟩
        · have hjl : i < L.length := by have := of_decide_eq_true hj1; omega
          cases hls : decide (lessB (L.getD i zE).p x.p = true)
          · refine wp_region_exA (A := ?Ax10) 19 [(0, 30), (1, 31), (2, 32), (3, 33), (4, 34), (5, 35), (6, 36), (7, 37), (8, 38), (9, 39), (10, 40), (11, 41), (12, 42), (13, 43), (14, 44), (15, 45), (16, 46), (17, 47), (18, 48)] [.val (.int .i64 ((i : Nat) : Int)), .val (.pointer (some ⟨r, 0, none⟩)), .val (.pointer (some ⟨r, 0, none⟩)), .val (.pointer (some ⟨r, 0, none⟩)), .val (.slice ao L.length cap), .val (.int .i64 ((L.length : Nat) : Int)), .val (.bool true), .val (.bool true), .val (.pointer (some ⟨r, 0, none⟩)), .val (.pointer (some ⟨r, 0, none⟩)), .val (.pointer (some ⟨r, 0, none⟩)), .val (.slice ao L.length cap), .val (.int .i64 ((i : Nat) : Int)), .val (.pointer (pE ao i 0)), .val (.pointer (pE ao i 0)), .val (.agg (paA ((L.getD i zE).p))), .val (.pointer (some ⟨g1, 0, none⟩)), .val (.agg (paA x.p)), .val (.bool false)] follows (by kernel_rfl) rfl ?hAx10 (opsA_cons ?o0x10 (opsA_cons ?o1x10 (opsA_cons ?o2x10 (opsA_cons ?o3x10 (opsA_cons ?o4x10 (opsA_cons ?o5x10 (opsA_cons ?o6x10 (opsA_cons ?o7x10 (opsA_cons ?o8x10 (opsA_cons ?o9x10 (opsA_cons ?o10x10 (opsA_cons ?o11x10 (opsA_cons ?o12x10 (opsA_cons ?o13x10 (opsA_cons ?o14x10 (opsA_cons ?o15x10 (opsA_cons ?o16x10 (opsA_cons ?o17x10 (opsA_cons ?o18x10 opsA_nil))))))))))))))))))) ?restx10
            case hAx10 =>
              intro ptrs
              simp only [full, foldSlots, filledE, postE, List.foldl_cons, List.foldl_nil, List.getD_cons_zero, List.getD_cons_succ, fill_val, List.set_cons_zero, List.set_cons_succ]
              exact rfl
            case o0x10 => exact fun _ _ _ _ => opE_move (v := .int .i64 ((i : Nat) : Int)) _ rfl rfl rfl
            case o1x10 => exact fun _ _ _ _ => opE_move (v := .pointer (some ⟨r, 0, none⟩)) _ rfl rfl rfl
            case o2x10 => exact fun _ _ _ _ => opE_value (v := .pointer (some ⟨r, 0, none⟩)) rfl (run_nc _ rfl _ rfl)
            case o3x10 => exact fun _ _ _ _ => opE_value (v := .pointer (some ⟨r, 0, none⟩)) rfl (run_fld 43 _ 0 rfl r 0 rfl 0 (by kernel_rfl))
            case o4x10 => exact fun _ _ hw _ => opE_value (v := .slice ao L.length cap) rfl (ldRl _ rfl r rfl (hw.has kr))
            case o5x10 => exact fun _ _ _ _ => opE_value (v := .int .i64 ((L.length : Nat) : Int)) rfl (run_len Try.underlying22 _ rfl _ _ _ rfl _)
            case o6x10 => exact fun _ _ _ _ => opE_value (v := .bool true) rfl (run_lssT 3 _ _ _ rfl ((i : Nat) : Int) ((L.length : Nat) : Int) rfl rfl true hj1 _)
            case o7x10 => exact fun _ _ _ _ => opE_move (v := .bool true) _ rfl rfl rfl
            case o8x10 => exact fun _ _ _ _ => opE_move (v := .pointer (some ⟨r, 0, none⟩)) _ rfl rfl rfl
            case o9x10 => exact fun _ _ _ _ => opE_value (v := .pointer (some ⟨r, 0, none⟩)) rfl (run_nc _ rfl _ rfl)
            case o10x10 => exact fun _ _ _ _ => opE_value (v := .pointer (some ⟨r, 0, none⟩)) rfl (run_fld 43 _ 0 rfl r 0 rfl 0 (by kernel_rfl))
            case o11x10 => exact fun _ _ hw _ => opE_value (v := .slice ao L.length cap) rfl (ldRl _ rfl r rfl (hw.has kr))
            case o12x10 => exact fun _ _ _ _ => opE_move (v := .int .i64 ((i : Nat) : Int)) _ rfl rfl rfl
            case o13x10 => exact fun _ _ hw _ => opE_value (v := .pointer (pE ao i 0)) rfl (run_ixE ((HL.gro ((Gro.refl _).drew.trans hw)).re) _ _ rfl rfl i rfl (by omega))
            case o14x10 => exact fun _ _ hw _ => opE_value (v := .pointer (pE ao i 0)) rfl (run_fdE ((HL.gro ((Gro.refl _).drew.trans hw)).re) _ 0 0 (fd33_0 _) rfl i rfl (by omega))
            case o15x10 => exact fun _ _ hw _ => opE_value (v := .agg (paA ((L.getD i zE).p))) rfl (run_ldEp ((HL.gro ((Gro.refl _).drew.trans hw)).re) _ rfl i rfl (by omega))
            case o16x10 => exact fun _ _ _ _ => opE_value (v := .pointer (some ⟨g1, 0, none⟩)) rfl (run_fld 52 _ 0 rfl g1 0 rfl 0 (by kernel_rfl))
            case o17x10 => exact fun _ _ hw _ => opE_value (v := .agg (paA x.p)) rfl (ldEp _ rfl g1 rfl (hw.has kg1))
            case o18x10 =>
              intro ptrs w' hw hE
              exact opE_call (.val (.bool false)) rfl _ 38 Try.call38 rfl rfl _ rfl [.agg (paA ((L.getD i zE).p)), .agg (paA x.p)] rfl ((Calls.bool (rless_any (L.getD i zE).p x.p (HL.all.at hjl).p hx.p _) (Bool.eq_false_iff.2 (of_decide_eq_false hls))).mono fun e w' ⟨he, hg⟩ => ⟨_, he, hg, rfl⟩)
            intro ptrs w7 GD hxE
            simp only [List.drop_succ_cons, List.drop_zero]
            replace kr := GD.has kr
            replace kg1 := GD.has kg1
            replace HL := HL.gro ((Gro.refl _).drew.trans GD)
            replace HZ := HZ.gro ((Gro.refl _).drew.trans GD)
            replace HO := HO.gro ((Gro.refl _).drew.trans GD)
            replace GG := GG.drew.trans GD
            clear GD
            refine s_val 49 rfl rfl (.bool false) (rfl) ?_
            refine nr ?_; intro U h; simp only [z0, z1] at h; subst h
            refine wpList_nil ?_
            refine then_n ?_
            refine wp_cond_false rfl ?_
            refine wp_exit ?_
            refine then_x ?_
            refine then_x ?_
            refine blk_x ?_
            refine then_n ?_
            refine wp_seq ?_
            refine wp_region_lit ?_
            refine s_val 62 rfl rfl (.slice ao1 l2.length cap1) (rfl) ?_
            refine nr ?_; intro U h; simp only [z0, z1] at h; subst h
            refine s_val 63 rfl rfl (.agg (enA x)) (ldE0 _ rfl g1 rfl (kg1)) ?_
            refine nr ?_; intro U h; simp only [z0, z1] at h; subst h
            refine s_bsl 64 rfl rfl 22 1 _ rfl [(0, .agg (enA x))] rfl (flE ([x] : List En)).toArray 52 (bs1 x _) ?_
            intro w8 q1 G eq1 kq1
            have bq1 := size_base GG eq1
            replace kr := G.has kr
            replace kg1 := G.has kg1
            replace HL := HL.gro G
            replace HZ := HZ.gro G
            replace HO := HO.gro G
            replace GG := GG.trans G
            clear G
            have HR1 : RE _ (some ⟨q1, 0, none⟩) ([x] : List En).length ([x] : List En) := RE.blk kq1 (AllE.one hx) (Nat.le_refl _)
            clear eq1
            refine nr ?_; intro U h; simp only [z0, z1] at h; subst h
            refine s_appE 65 rfl rfl _ _ rfl rfl HO rfl HR1 (by rw [hl2]; simp only [List.length_cons, List.length_nil]; omega) HZ ?_
            intro ao2 cap2 w9 HO2 G2 _
            have GB := HO.belowB G2 HZ
            replace kr := bel_has GB kr (by omega)
            replace kg1 := bel_has GB kg1 (by omega)
            replace HL := HL.bel GB hLl
            replace GG := G2.gro GG (fun k hk => by have := HO.own.base k hk; omega)
            replace HZ := HZ.le G2.size
            clear G2 GB HO
            have HO := HO2
            clear HO2
            refine nr ?_; intro U h; simp only [z0, z1] at h; subst h
            refine s_val 7 rfl rfl (.slice ao2 ((l2 ++ ([x] : List En)).length) cap2) (rfl) ?_
            refine nr ?_; intro U h; simp only [z0, z1] at h; subst h
            refine wpList_nil ?_
            refine then_n ?_
            refine wp_seq ?_
            refine wp_region_lit ?_
            refine s_val 66 rfl rfl (.pointer (some ⟨r, 0, none⟩)) (rfl) ?_
            refine nr ?_; intro U h; simp only [z0, z1] at h; subst h
            refine s_val 67 rfl rfl (.slice ao2 ((l2 ++ ([x] : List En)).length) cap2) (rfl) ?_
            refine nr ?_; intro U h; simp only [z0, z1] at h; subst h
            refine s_val 68 rfl rfl (.pointer (some ⟨r, 0, none⟩)) (rfl) ?_
            refine nr ?_; intro U h; simp only [z0, z1] at h; subst h
            refine s_val 69 rfl rfl (.pointer (some ⟨r, 0, none⟩)) (run_nc _ rfl _ rfl) ?_
            refine nr ?_; intro U h; simp only [z0, z1] at h; subst h
            refine s_val 70 rfl rfl (.pointer (some ⟨r, 0, none⟩)) (run_fld 43 _ 0 rfl r 0 rfl 0 (by kernel_rfl)) ?_
            refine nr ?_; intro U h; simp only [z0, z1] at h; subst h
            refine s_val 71 rfl rfl (.slice ao L.length cap) (ldRl _ rfl r rfl (kr)) ?_
            refine nr ?_; intro U h; simp only [z0, z1] at h; subst h
            refine s_val 72 rfl rfl (.int .i64 ((i : Nat) : Int)) (rfl) ?_
            refine nr ?_; intro U h; simp only [z0, z1] at h; subst h
            refine s_val 73 rfl rfl (.slice (if cap = i then ao else ao.map (·.add (i * 51))) (L.length - i) (cap - i)) (run_cutX rE _ _ rfl ao L.length cap i rfl rfl hi _) ?_
            refine nr ?_; intro U h; simp only [z0, z1] at h; subst h
            have hcd : (L.drop i).length = L.length - i := List.length_drop ..
            refine s_appE 74 rfl rfl _ _ rfl rfl HO (by rw [hcd]; rfl) (HL.re.drop i hi) (by rw [hl2]; simp only [List.length_append, List.length_cons, List.length_nil]; omega) HZ ?_
            intro ao3 cap3 w10 HO2 G2 _
            have GB := HO.belowB G2 HZ
            replace kr := bel_has GB kr (by omega)
            replace GG := G2.gro GG (fun k hk => by have := HO.own.base k hk; omega)
            clear G2 GB HO
            have HO := HO2
            clear HO2
            have hins : (l2 ++ [x]) ++ L.drop i = insL x L := by rw [hl2, List.append_assoc]; exact insL_at x L i hi hlo (fun _ h => of_decide_eq_false hls (decide_eq_true h))
            rw [hins] at HO
            rw [hins]
            refine nr ?_; intro U h; simp only [z0, z1] at h; subst h
            refine s_val 75 rfl rfl (.pointer (some ⟨r, 0, none⟩)) (run_nc _ rfl _ rfl) ?_
            refine nr ?_; intro U h; simp only [z0, z1] at h; subst h
            refine s_val 76 rfl rfl (.pointer (some ⟨r, 0, none⟩)) (run_fld 43 _ 0 rfl r 0 rfl 0 (by kernel_rfl)) ?_
            refine nr ?_; intro U h; simp only [z0, z1] at h; subst h
            refine s_store rfl rfl 22 _ _ rfl r 0 rfl (.slice ao3 ((insL x L).length) cap3) rfl 43 _ kr #[.slice ao3 ((insL x L).length) cap3] rfl si41 (show (0 + 1 : Nat) ≤ 2 from by decide) (s_one _ _ _) _ (sprb _ _ _ _ _ _ _) ?_
            intro w11 St
            replace HO := HO.st St (HO.own.ne kr (by decide))
            have GG2 := (GroS.of GG).st St (.inr (by simp) : _ ∨ r ∈ [r])
            clear GG
            have GG := GG2
            clear GG2
            replace kr := St.new
            clear St
            refine wpList_nil ?_
            refine then_n ?_
            refine wp_seq ?_
            refine wp_region_lit ?_
            refine s_val 4 rfl rfl (.int .i64 0) (rfl) ?_
            refine nr ?_; intro U h; simp only [z0, z1] at h; subst h
            refine wpList_nil ?_
            refine then_n ?_
            refine wp_ret ?_
            refine bodyPost_ret (results_tmp Try.results23 _ _ _) rfl ?_
            have ec : addC most L x = _ := addC_ok (of_decide_eq_true hr) (Bool.eq_false_iff.2 (of_decide_eq_false hh)) (by have := of_decide_eq_false hf; omega)
            exact ⟨congrArg (fun z => Ending.returned (.int .i64 z)) ec.symm, ao3, cap3, by rw [addL_yes ec]; exact kr, by rw [addL_yes ec]; exact HO.mono (Nat.zero_le _), GG⟩
          · refine wp_region_exA (A := ?Ax11) 19 [(0, 30), (1, 31), (2, 32), (3, 33), (4, 34), (5, 35), (6, 36), (7, 37), (8, 38), (9, 39), (10, 40), (11, 41), (12, 42), (13, 43), (14, 44), (15, 45), (16, 46), (17, 47), (18, 48)] [.val (.int .i64 ((i : Nat) : Int)), .val (.pointer (some ⟨r, 0, none⟩)), .val (.pointer (some ⟨r, 0, none⟩)), .val (.pointer (some ⟨r, 0, none⟩)), .val (.slice ao L.length cap), .val (.int .i64 ((L.length : Nat) : Int)), .val (.bool true), .val (.bool true), .val (.pointer (some ⟨r, 0, none⟩)), .val (.pointer (some ⟨r, 0, none⟩)), .val (.pointer (some ⟨r, 0, none⟩)), .val (.slice ao L.length cap), .val (.int .i64 ((i : Nat) : Int)), .val (.pointer (pE ao i 0)), .val (.pointer (pE ao i 0)), .val (.agg (paA ((L.getD i zE).p))), .val (.pointer (some ⟨g1, 0, none⟩)), .val (.agg (paA x.p)), .val (.bool true)] follows (by kernel_rfl) rfl ?hAx11 (opsA_cons ?o0x11 (opsA_cons ?o1x11 (opsA_cons ?o2x11 (opsA_cons ?o3x11 (opsA_cons ?o4x11 (opsA_cons ?o5x11 (opsA_cons ?o6x11 (opsA_cons ?o7x11 (opsA_cons ?o8x11 (opsA_cons ?o9x11 (opsA_cons ?o10x11 (opsA_cons ?o11x11 (opsA_cons ?o12x11 (opsA_cons ?o13x11 (opsA_cons ?o14x11 (opsA_cons ?o15x11 (opsA_cons ?o16x11 (opsA_cons ?o17x11 (opsA_cons ?o18x11 opsA_nil))))))))))))))))))) ?restx11
            case hAx11 =>
              intro ptrs
              simp only [full, foldSlots, filledE, postE, List.foldl_cons, List.foldl_nil, List.getD_cons_zero, List.getD_cons_succ, fill_val, List.set_cons_zero, List.set_cons_succ]
              exact rfl
            case o0x11 => exact fun _ _ _ _ => opE_move (v := .int .i64 ((i : Nat) : Int)) _ rfl rfl rfl
            case o1x11 => exact fun _ _ _ _ => opE_move (v := .pointer (some ⟨r, 0, none⟩)) _ rfl rfl rfl
            case o2x11 => exact fun _ _ _ _ => opE_value (v := .pointer (some ⟨r, 0, none⟩)) rfl (run_nc _ rfl _ rfl)
            case o3x11 => exact fun _ _ _ _ => opE_value (v := .pointer (some ⟨r, 0, none⟩)) rfl (run_fld 43 _ 0 rfl r 0 rfl 0 (by kernel_rfl))
            case o4x11 => exact fun _ _ hw _ => opE_value (v := .slice ao L.length cap) rfl (ldRl _ rfl r rfl (hw.has kr))
            case o5x11 => exact fun _ _ _ _ => opE_value (v := .int .i64 ((L.length : Nat) : Int)) rfl (run_len Try.underlying22 _ rfl _ _ _ rfl _)
            case o6x11 => exact fun _ _ _ _ => opE_value (v := .bool true) rfl (run_lssT 3 _ _ _ rfl ((i : Nat) : Int) ((L.length : Nat) : Int) rfl rfl true hj1 _)
            case o7x11 => exact fun _ _ _ _ => opE_move (v := .bool true) _ rfl rfl rfl
            case o8x11 => exact fun _ _ _ _ => opE_move (v := .pointer (some ⟨r, 0, none⟩)) _ rfl rfl rfl
            case o9x11 => exact fun _ _ _ _ => opE_value (v := .pointer (some ⟨r, 0, none⟩)) rfl (run_nc _ rfl _ rfl)
            case o10x11 => exact fun _ _ _ _ => opE_value (v := .pointer (some ⟨r, 0, none⟩)) rfl (run_fld 43 _ 0 rfl r 0 rfl 0 (by kernel_rfl))
            case o11x11 => exact fun _ _ hw _ => opE_value (v := .slice ao L.length cap) rfl (ldRl _ rfl r rfl (hw.has kr))
            case o12x11 => exact fun _ _ _ _ => opE_move (v := .int .i64 ((i : Nat) : Int)) _ rfl rfl rfl
            case o13x11 => exact fun _ _ hw _ => opE_value (v := .pointer (pE ao i 0)) rfl (run_ixE ((HL.gro ((Gro.refl _).drew.trans hw)).re) _ _ rfl rfl i rfl (by omega))
            case o14x11 => exact fun _ _ hw _ => opE_value (v := .pointer (pE ao i 0)) rfl (run_fdE ((HL.gro ((Gro.refl _).drew.trans hw)).re) _ 0 0 (fd33_0 _) rfl i rfl (by omega))
            case o15x11 => exact fun _ _ hw _ => opE_value (v := .agg (paA ((L.getD i zE).p))) rfl (run_ldEp ((HL.gro ((Gro.refl _).drew.trans hw)).re) _ rfl i rfl (by omega))
            case o16x11 => exact fun _ _ _ _ => opE_value (v := .pointer (some ⟨g1, 0, none⟩)) rfl (run_fld 52 _ 0 rfl g1 0 rfl 0 (by kernel_rfl))
            case o17x11 => exact fun _ _ hw _ => opE_value (v := .agg (paA x.p)) rfl (ldEp _ rfl g1 rfl (hw.has kg1))
            case o18x11 =>
              intro ptrs w' hw hE
              exact opE_call (.val (.bool true)) rfl _ 38 Try.call38 rfl rfl _ rfl [.agg (paA ((L.getD i zE).p)), .agg (paA x.p)] rfl ((Calls.bool (rless_any (L.getD i zE).p x.p (HL.all.at hjl).p hx.p _) (of_decide_eq_true hls)).mono fun e w' ⟨he, hg⟩ => ⟨_, he, hg, rfl⟩)
            intro ptrs w7 GD hxE
            simp only [List.drop_succ_cons, List.drop_zero]
            replace kr := GD.has kr
            replace kg1 := GD.has kg1
            replace HL := HL.gro ((Gro.refl _).drew.trans GD)
            replace HZ := HZ.gro ((Gro.refl _).drew.trans GD)
            replace HO := HO.gro ((Gro.refl _).drew.trans GD)
            replace GG := GG.drew.trans GD
            clear GD
            refine s_val 49 rfl rfl (.bool true) (rfl) ?_
            refine nr ?_; intro U h; simp only [z0, z1] at h; subst h
            refine wpList_nil ?_
            refine then_n ?_
            refine wp_cond_true rfl ?_
            refine wp_skip ?_
            refine then_n ?_
            refine wp_block ?_
            refine wp_seq ?_
            refine wp_region_lit ?_
            refine s_val 50 rfl rfl (.slice ao1 l2.length cap1) (rfl) ?_
            refine nr ?_; intro U h; simp only [z0, z1] at h; subst h
            refine s_val 51 rfl rfl (.pointer (some ⟨r, 0, none⟩)) (rfl) ?_
            refine nr ?_; intro U h; simp only [z0, z1] at h; subst h
            refine s_val 52 rfl rfl (.pointer (some ⟨r, 0, none⟩)) (run_nc _ rfl _ rfl) ?_
            refine nr ?_; intro U h; simp only [z0, z1] at h; subst h
            refine s_val 53 rfl rfl (.pointer (some ⟨r, 0, none⟩)) (run_fld 43 _ 0 rfl r 0 rfl 0 (by kernel_rfl)) ?_
            refine nr ?_; intro U h; simp only [z0, z1] at h; subst h
            refine s_val 54 rfl rfl (.slice ao L.length cap) (ldRl _ rfl r rfl (kr)) ?_
            refine nr ?_; intro U h; simp only [z0, z1] at h; subst h
            refine s_val 55 rfl rfl (.int .i64 ((i : Nat) : Int)) (rfl) ?_
            refine nr ?_; intro U h; simp only [z0, z1] at h; subst h
            refine s_val 56 rfl rfl (.pointer (pE ao i 0)) (run_ixE (HL.re) _ _ rfl rfl i rfl (by omega)) ?_
            refine nr ?_; intro U h; simp only [z0, z1] at h; subst h
            refine s_val 57 rfl rfl (.agg (enA (L.getD i zE))) (run_ldE (HL.re) _ rfl i rfl (by omega)) ?_
            refine nr ?_; intro U h; simp only [z0, z1] at h; subst h
            refine s_bsl 58 rfl rfl 22 1 _ rfl [(0, .agg (enA (L.getD i zE)))] rfl (flE ([(L.getD i zE)] : List En)).toArray 52 (bs1 (L.getD i zE) _) ?_
            intro w8 q1 G eq1 kq1
            have bq1 := size_base GG eq1
            replace kr := G.has kr
            replace kg1 := G.has kg1
            replace HL := HL.gro G
            replace HZ := HZ.gro G
            replace HO := HO.gro G
            replace GG := GG.trans G
            clear G
            have HR1 : RE _ (some ⟨q1, 0, none⟩) ([(L.getD i zE)] : List En).length ([(L.getD i zE)] : List En) := RE.blk kq1 (AllE.one (HL.all.at (by omega))) (Nat.le_refl _)
            clear eq1
            refine nr ?_; intro U h; simp only [z0, z1] at h; subst h
            refine s_appE 59 rfl rfl _ _ rfl rfl HO rfl HR1 (by rw [hl2]; simp only [List.length_cons, List.length_nil]; omega) HZ ?_
            intro ao2 cap2 w9 HO2 G2 _
            have GB := HO.belowB G2 HZ
            replace kr := bel_has GB kr (by omega)
            replace kg1 := bel_has GB kg1 (by omega)
            replace HL := HL.bel GB hLl
            replace GG := G2.gro GG (fun k hk => by have := HO.own.base k hk; omega)
            replace HZ := HZ.le G2.size
            clear G2 GB HO
            have HO := HO2
            clear HO2
            refine nr ?_; intro U h; simp only [z0, z1] at h; subst h
            refine s_val 7 rfl rfl (.slice ao2 ((l2 ++ ([(L.getD i zE)] : List En)).length) cap2) (rfl) ?_
            refine nr ?_; intro U h; simp only [z0, z1] at h; subst h
            refine wpList_nil ?_
            refine then_n ?_
            refine wp_region_lit ?_
            refine s_val 60 rfl rfl (.int .i64 ((i : Nat) : Int)) (rfl) ?_
            refine nr ?_; intro U h; simp only [z0, z1] at h; subst h
            refine s_val 61 rfl rfl (.int .i64 ((i + 1 : Nat) : Int)) (run_addI 3 _ _ _ rfl ((i : Nat) : Int) 1 ((i + 1 : Nat) : Int) rfl rfl (by omega) (by omega) (by omega) _) ?_
            refine nr ?_; intro U h; simp only [z0, z1] at h; subst h
            refine s_val 8 rfl rfl (.int .i64 ((i + 1 : Nat) : Int)) (rfl) ?_
            refine nr ?_; intro U h; simp only [z0, z1] at h; subst h
            refine wpList_nil ?_
            refine blk_n ?_
            refine then_n ?_
            exact ⟨L.length + 1 - (i + 1), by omega, i + 1, ao2, cap2, l2 ++ [L.getD i zE], (fun kz => ([.int .i64 ((i : Nat) : Int), .pointer (some ⟨r, 0, none⟩), .pointer (some ⟨r, 0, none⟩), .pointer (some ⟨r, 0, none⟩), .slice ao L.length cap, .int .i64 ((L.length : Nat) : Int), .bool true, .bool true, .pointer (some ⟨r, 0, none⟩), .pointer (some ⟨r, 0, none⟩), .pointer (some ⟨r, 0, none⟩), .slice ao L.length cap, .int .i64 ((i : Nat) : Int), .pointer (pE ao i 0), .pointer (pE ao i 0), .agg (paA ((L.getD i zE).p)), .pointer (some ⟨g1, 0, none⟩), .agg (paA x.p), .bool true, .bool true, .slice ao1 l2.length cap1, .pointer (some ⟨r, 0, none⟩), .pointer (some ⟨r, 0, none⟩), .pointer (some ⟨r, 0, none⟩), .slice ao L.length cap, .int .i64 ((i : Nat) : Int), .pointer (pE ao i 0), .agg (enA (L.getD i zE)), .slice (some ⟨q1, 0, none⟩) (([(L.getD i zE)] : List En).length) (([(L.getD i zE)] : List En).length), .slice ao2 ((l2 ++ ([(L.getD i zE)] : List En)).length) cap2, .int .i64 ((i : Nat) : Int), .int .i64 ((i + 1 : Nat) : Int)] : List Value).getD kz undef), rfl, rfl, by omega, GG, kr, kg1, HL, HZ, HO, by rw [hl2, tk_step L i hjl], fun k hk => (Nat.lt_succ_iff_lt_or_eq.1 hk).elim (hlo k) (fun e => e ▸ of_decide_eq_true (of_decide_eq_true hls))⟩
      · refine s_val 29 rfl rfl (.bool true) (run_geqT 3 _ _ _ rfl ((L.length : Nat) : Int) ((most : Nat) : Int) rfl rfl true hf _) ?_
        refine nr ?_; intro U h; simp only [z0, z1] at h; subst h
        refine wpList_nil ?_
        refine then_n ?_
        refine wp_cond_true rfl ?_
        refine wp_seq ?_
        refine wp_region_lit ?_
        refine s_val 4 rfl rfl (.int .i64 5) (rfl) ?_
        refine nr ?_; intro U h; simp only [z0, z1] at h; subst h
        refine wpList_nil ?_
        refine then_n ?_
        refine wp_ret ?_
        refine then_r ?_
        refine bodyPost_ret (results_tmp Try.results23 _ _ _) rfl ?_
        have ec : addC most L x = _ := addC_5 (of_decide_eq_true hr) (Bool.eq_false_iff.2 (of_decide_eq_false hh)) (by have := of_decide_eq_true hf; omega)
        exact ⟨congrArg (fun z => Ending.returned (.int .i64 z)) ec.symm, ao, cap, by rw [addL_no ec (by decide)]; exact kr, by rw [addL_no ec (by decide)]; exact HL, .of GG⟩
    · refine wp_region_lit ?_
      refine s_val 13 rfl rfl (.pointer (some ⟨r, 0, none⟩)) (rfl) ?_
      refine nr ?_; intro U h; simp only [z0, z1] at h; subst h
      refine s_val 14 rfl rfl (.pointer (some ⟨g1, 0, none⟩)) (run_fld 52 _ 0 rfl g1 0 rfl 0 (by kernel_rfl)) ?_
      refine nr ?_; intro U h; simp only [z0, z1] at h; subst h
      refine s_val 15 rfl rfl (.agg (paA x.p)) (ldEp _ rfl g1 rfl (kg1)) ?_
      refine nr ?_; intro U h; simp only [z0, z1] at h; subst h
      refine s_callv 16 rfl rfl _ 29 Try.call29 rfl rfl _ rfl [.pointer (some ⟨r, 0, none⟩), .agg (paA x.p)] rfl (Calls.valV (rget_any _ r most ao cap L kr HL hLb hk x.p hx.p) (by rw [(of_decide_eq_true hh)])) ?_
      intro w3 G
      replace kr := G.has kr
      replace kg1 := G.has kg1
      replace HL := HL.gro G
      replace GG := GG.trans G
      clear G
      refine nr ?_; intro U h; simp only [z0, z1] at h; subst h
      refine s_val 12 rfl rfl (.tuple #[.agg (enA (getV L x.p)), .bool true]) (rfl) ?_
      refine nr ?_; intro U h; simp only [z0, z1] at h; subst h
      refine s_val 17 rfl rfl (.agg (enA (getV L x.p))) (rfl) ?_
      refine nr ?_; intro U h; simp only [z0, z1] at h; subst h
      refine s_val 18 rfl rfl (.bool true) (rfl) ?_
      refine nr ?_; intro U h; simp only [z0, z1] at h; subst h
      refine s_alloc 5 rfl rfl 52 rfl _ zero33 (enA zE) rfl ?_
      intro w4 g2 G eg2 kg2
      have bg2 := size_base GG eg2
      have drg2 := lt_new kr eg2
      have dg1g2 := lt_new kg1 eg2
      have dHLg2 := HL.ne eg2
      replace kr := G.has kr
      replace kg1 := G.has kg1
      replace HL := HL.gro G
      replace GG := GG.trans G
      clear G
      clear eg2
      refine nr ?_; intro U h; simp only [z0, z1] at h; subst h
      refine s_store rfl rfl 52 _ _ rfl g2 0 rfl (.agg (enA (getV L x.p))) rfl 52 _ kg2 (enA (getV L x.p)) rfl (si33' _) (enA_fit _ _) (enA_one _) (enA (getV L x.p)) (splice_whole _ _ (enA_sz _ _)) ?_
      intro w5 St
      have kS := kg2
      replace kr := St.has (by omega) kr
      replace kg1 := St.has (by omega) kg1
      replace HL := HL.st St dHLg2
      replace GG := GG.store St bg2
      replace kg2 := St.new
      clear St
      refine s_val 6 rfl rfl (.bool true) (rfl) ?_
      refine nr ?_; intro U h; simp only [z0, z1] at h; subst h
      refine wpList_nil ?_
      refine then_n ?_
      refine wp_seq ?_
      refine wp_region_lit ?_
      refine s_val 19 rfl rfl (.bool true) (rfl) ?_
      refine nr ?_; intro U h; simp only [z0, z1] at h; subst h
      refine wpList_nil ?_
      refine then_n ?_
      refine wp_cond_true rfl ?_
      refine wp_seq ?_
      refine wp_region_lit ?_
      refine s_val 4 rfl rfl (.int .i64 7) (rfl) ?_
      refine nr ?_; intro U h; simp only [z0, z1] at h; subst h
      refine wpList_nil ?_
      refine then_n ?_
      refine wp_ret ?_
      refine then_r ?_
      refine bodyPost_ret (results_tmp Try.results23 _ _ _) rfl ?_
      have ec : addC most L x = _ := addC_7 (of_decide_eq_true hr) (of_decide_eq_true hh)
      exact ⟨congrArg (fun z => Ending.returned (.int .i64 z)) ec.symm, ao, cap, by rw [addL_no ec (by decide)]; exact kr, by rw [addL_no ec (by decide)]; exact HL, .of GG⟩
set_option maxRecDepth 100000 in
set_option maxHeartbeats 4000000 in
theorem rrem_any (w : World) (r most : Nat) (ao : Option Addr) (cap : Nat) (L : List En) (kr : w.heap[r]? = some (.cells (rbA ao L.length cap most) 43 (0, 0))) (HL : OE w 0 ao cap L) (hLb : L.length ≤ 1000) (hk : KN L) (p : Pa) (hp : p.ok) : Calls Try.prog 30 #[.pointer (some ⟨r, 0, none⟩), .agg (paA p)] w (fun e w' => e = .returned (.tuple #[.agg (enA (getV L p)), .bool (hasL L p)]) ∧ ∃ ao2 cap2, w'.heap[r]? = some (.cells (rbA ao2 (delL p L).length cap2 most) 43 (0, 0)) ∧ OE w' 0 ao2 cap2 (delL p L) ∧ GroS [r] w w') := by
  refine s_enter Try.func30 rfl Try.ntmps30 [.pointer (some ⟨r, 0, none⟩), .agg (paA p)] [.pointer (some ⟨r, 0, none⟩), .agg (paA p), undef, undef, undef, undef, undef, undef, undef, undef, undef, undef, undef, undef, undef, undef, undef, undef, undef, undef, undef, undef, undef, undef, undef, undef, undef, undef, undef, undef, undef, undef, undef, undef, undef, undef, undef, undef, undef, undef, undef, undef, undef, undef, undef, undef, undef, undef, undef, undef, undef] rfl ?_
  have GG := Gro.refl w
  refine wp_seq ?_
  refine wp_region_lit ?_
  refine s_box 3 rfl rfl 26 _ rfl _ rfl (paA p) rfl ?_
  intro w1 g1 G eg1 kg1
  have bg1 := size_base GG eg1
  have drg1 := lt_new kr eg1
  replace kr := G.has kr
  replace HL := HL.gro G
  replace GG := GG.trans G
  clear G
  clear eg1
  refine nr ?_; intro U h; simp only [z0, z1] at h; subst h
  refine s_alloc 4 rfl rfl 52 rfl _ zero33 (enA zE) rfl ?_
  intro w2 g2 G eg2 kg2
  have bg2 := size_base GG eg2
  have drg2 := lt_new kr eg2
  have dg1g2 := lt_new kg1 eg2
  have dHLg2 := HL.ne eg2
  replace kr := G.has kr
  replace kg1 := G.has kg1
  replace HL := HL.gro G
  replace GG := GG.trans G
  clear G
  clear eg2
  refine nr ?_; intro U h; simp only [z0, z1] at h; subst h
  refine s_val 5 rfl rfl (.bool false) (rfl) ?_
  refine nr ?_; intro U h; simp only [z0, z1] at h; subst h
  refine wpList_nil ?_
  refine then_n ?_
  refine wp_seq ?_
  cases hh : decide (hasL L p = true)
  · refine wp_region_lit ?_
    refine s_val 11 rfl rfl (.pointer (some ⟨r, 0, none⟩)) (rfl) ?_
    refine nr ?_; intro U h; simp only [z0, z1] at h; subst h
    refine s_val 12 rfl rfl (.agg (paA p)) (ldP0 _ rfl g1 rfl (kg1)) ?_
    refine nr ?_; intro U h; simp only [z0, z1] at h; subst h
    refine s_callv 13 rfl rfl _ 29 Try.call29 rfl rfl _ rfl [.pointer (some ⟨r, 0, none⟩), .agg (paA p)] rfl (Calls.valV (rget_any _ r most ao cap L kr HL hLb hk p hp) (by rw [(Bool.eq_false_iff.2 (of_decide_eq_false hh))])) ?_
    intro w3 G
    replace kr := G.has kr
    replace kg1 := G.has kg1
    replace kg2 := G.has kg2
    replace HL := HL.gro G
    replace GG := GG.trans G
    clear G
    refine nr ?_; intro U h; simp only [z0, z1] at h; subst h
    refine s_val 10 rfl rfl (.tuple #[.agg (enA (getV L p)), .bool false]) (rfl) ?_
    refine nr ?_; intro U h; simp only [z0, z1] at h; subst h
    refine s_val 14 rfl rfl (.agg (enA (getV L p))) (rfl) ?_
    refine nr ?_; intro U h; simp only [z0, z1] at h; subst h
    refine s_val 15 rfl rfl (.bool false) (rfl) ?_
    refine nr ?_; intro U h; simp only [z0, z1] at h; subst h
    refine s_alloc 6 rfl rfl 52 rfl _ zero33 (enA zE) rfl ?_
    intro w4 g3 G eg3 kg3
    have bg3 := size_base GG eg3
    have drg3 := lt_new kr eg3
    have dg1g3 := lt_new kg1 eg3
    have dg2g3 := lt_new kg2 eg3
    have dHLg3 := HL.ne eg3
    replace kr := G.has kr
    replace kg1 := G.has kg1
    replace kg2 := G.has kg2
    replace HL := HL.gro G
    replace GG := GG.trans G
    clear G
    clear eg3
    refine nr ?_; intro U h; simp only [z0, z1] at h; subst h
    refine s_store rfl rfl 52 _ _ rfl g3 0 rfl (.agg (enA (getV L p))) rfl 52 _ kg3 (enA (getV L p)) rfl (si33' _) (enA_fit _ _) (enA_one _) (enA (getV L p)) (splice_whole _ _ (enA_sz _ _)) ?_
    intro w5 St
    have kS := kg3
    replace kr := St.has (by omega) kr
    replace kg1 := St.has (by omega) kg1
    replace kg2 := St.has (by omega) kg2
    replace HL := HL.st St dHLg3
    replace GG := GG.store St bg3
    replace kg3 := St.new
    clear St
    refine s_val 7 rfl rfl (.bool false) (rfl) ?_
    refine nr ?_; intro U h; simp only [z0, z1] at h; subst h
    refine wpList_nil ?_
    refine then_n ?_
    refine wp_seq ?_
    refine wp_region_lit ?_
    refine s_val 8 rfl rfl (.slice none 0 0) (rfl) ?_
    refine nr ?_; intro U h; simp only [z0, z1] at h; subst h
    refine wpList_nil ?_
    refine then_n ?_
    refine wp_seq ?_
    refine wp_seq ?_
    refine wp_region_lit ?_
    refine s_val 9 rfl rfl (.int .i64 0) (rfl) ?_
    refine nr ?_; intro U h; simp only [z0, z1] at h; subst h
    refine wpList_nil ?_
    refine then_n ?_
    refine wp_block ?_
    obtain ⟨BB, hBB⟩ : ∃ B, w5.heap.size = B := ⟨_, rfl⟩
    have hwB : w.heap.size ≤ BB := hBB ▸ GG.size
    have HZ : SZ BB w5 := Nat.le_of_eq hBB.symm
    have lr : r < BB := hBB ▸ lt_of_heap kr
    have lg1 : g1 < BB := hBB ▸ lt_of_heap kg1
    have lg2 : g2 < BB := hBB ▸ lt_of_heap kg2
    have lg3 : g3 < BB := hBB ▸ lt_of_heap kg3
    have hLl : ∀ k ∈ blk ao, k < BB := fun k hk => hBB ▸ HL.own.lt k hk
    clear hBB
    refine wp_loopN (fun mz az wv => ∃ (i : Nat) (ao1 : Option Addr) (cap1 : Nat) (l2 : List En) (us1 : Nat → Value), mz = L.length + 1 - i ∧ az = ⟨[.pointer (some ⟨r, 0, none⟩), .agg (paA p), undef, .pointer (some ⟨g1, 0, none⟩), .pointer (some ⟨g2, 0, none⟩), .bool false, .pointer (some ⟨g3, 0, none⟩), .bool false, .slice ao1 l2.length cap1, .int .i64 ((i : Nat) : Int), .tuple #[.agg (enA (getV L p)), .bool false], .pointer (some ⟨r, 0, none⟩), .agg (paA p), .tuple #[.agg (enA (getV L p)), .bool false], .agg (enA (getV L p)), .bool false, us1 0, us1 1, us1 2, us1 3, us1 4, us1 5, us1 6, us1 7, us1 8, us1 9, us1 10, us1 11, us1 12, us1 13, us1 14, us1 15, us1 16, us1 17, us1 18, us1 19, us1 20, us1 21, us1 22, us1 23, us1 24, us1 25, us1 26, us1 27, us1 28, undef, undef, undef, undef, undef, undef].toArray, []⟩ ∧ i ≤ L.length ∧ Gro w wv ∧ wv.heap[r]? = some (.cells (rbA ao L.length cap most) 43 (0, 0)) ∧ wv.heap[g1]? = some (.cells (paA p) 26 (0, 0)) ∧ wv.heap[g2]? = some (.cells (enA zE) 52 (0, 0)) ∧ wv.heap[g3]? = some (.cells (enA (getV L p)) 52 (0, 0)) ∧ OE wv 0 ao cap L ∧ SZ BB wv ∧ OE wv BB ao1 cap1 l2 ∧ l2 = (L.take i).filter (fun y => !decide (y.p = p))) ?_ _ ⟨0, none, 0, [], (fun kz => ([undef, undef, undef, undef, undef, undef, undef, undef, undef, undef, undef, undef, undef, undef, undef, undef, undef, undef, undef, undef, undef, undef, undef, undef, undef, undef, undef, undef, undef] : List Value).getD kz undef), rfl, rfl, Nat.zero_le _, GG, kr, kg1, kg2, kg3, HL, HZ, OE.nil _ _, rfl⟩
    clear GG kr kg1 kg2 kg3 HL
    rintro mz az wv ⟨i, ao1, cap1, l2, us1, rfl, rfl, hi, GG, kr, kg1, kg2, kg3, HL, HZ, HO, hl2⟩
    have hLt : (L.take i).length = i := by rw [List.length_take]; omega
    have hLf := List.length_filter_le (fun y => !decide (y.p = p)) (L.take i)
    refine wp_seq ?_
    refine wp_seq ?_
    refine wp_region_lit ?_
    refine s_val 16 rfl rfl (.int .i64 ((i : Nat) : Int)) (rfl) ?_
    refine nr ?_; intro U h; simp only [z0, z1] at h; subst h
    refine s_val 17 rfl rfl (.pointer (some ⟨r, 0, none⟩)) (rfl) ?_
    refine nr ?_; intro U h; simp only [z0, z1] at h; subst h
    refine s_val 18 rfl rfl (.pointer (some ⟨r, 0, none⟩)) (run_nc _ rfl _ rfl) ?_
    refine nr ?_; intro U h; simp only [z0, z1] at h; subst h
    refine s_val 19 rfl rfl (.pointer (some ⟨r, 0, none⟩)) (run_fld 43 _ 0 rfl r 0 rfl 0 (by kernel_rfl)) ?_
    refine nr ?_; intro U h; simp only [z0, z1] at h; subst h
    refine s_val 20 rfl rfl (.slice ao L.length cap) (ldRl _ rfl r rfl (kr)) ?_
    refine nr ?_; intro U h; simp only [z0, z1] at h; subst h
    refine s_val 21 rfl rfl (.int .i64 ((L.length : Nat) : Int)) (run_len Try.underlying22 _ rfl _ _ _ rfl _) ?_
    refine nr ?_; intro U h; simp only [z0, z1] at h; subst h
    cases hj1 : decide (((i : Nat) : Int) < ((L.length : Nat) : Int))
    · have hje : i = L.length := by have := of_decide_eq_false hj1; omega
      refine s_val 22 rfl rfl (.bool false) (run_lssT 3 _ _ _ rfl ((i : Nat) : Int) ((L.length : Nat) : Int) rfl rfl false hj1 _) ?_
      refine nr ?_; intro U h; simp only [z0, z1] at h; subst h
      refine wpList_nil ?_
      refine then_n ?_
      refine wp_cond_false rfl ?_
      refine wp_exit ?_
      refine then_x ?_
      refine then_x ?_
      refine blk_x ?_
      refine then_n ?_
      refine wp_seq ?_
      refine wp_region_lit ?_
      refine s_val 45 rfl rfl (.pointer (some ⟨r, 0, none⟩)) (rfl) ?_
      refine nr ?_; intro U h; simp only [z0, z1] at h; subst h
      refine s_val 46 rfl rfl (.slice ao1 l2.length cap1) (rfl) ?_
      refine nr ?_; intro U h; simp only [z0, z1] at h; subst h
      refine s_val 47 rfl rfl (.pointer (some ⟨r, 0, none⟩)) (run_nc _ rfl _ rfl) ?_
      refine nr ?_; intro U h; simp only [z0, z1] at h; subst h
      refine s_val 48 rfl rfl (.pointer (some ⟨r, 0, none⟩)) (run_fld 43 _ 0 rfl r 0 rfl 0 (by kernel_rfl)) ?_
      refine nr ?_; intro U h; simp only [z0, z1] at h; subst h
      refine s_store rfl rfl 22 _ _ rfl r 0 rfl (.slice ao1 l2.length cap1) rfl 43 _ kr #[.slice ao1 l2.length cap1] rfl si41 (show (0 + 1 : Nat) ≤ 2 from by decide) (s_one _ _ _) _ (sprb _ _ _ _ _ _ _) ?_
      intro w6 St
      replace HO := HO.st St (HO.own.ne kr (by decide))
      replace kg1 := St.has (fun e => by subst e; rw [kg1] at kr; cases kr) kg1
      replace kg2 := St.has (fun e => by subst e; rw [kg2] at kr; cases kr) kg2
      replace kg3 := St.has (fun e => by subst e; rw [kg3] at kr; cases kr) kg3
      have GG2 := (GroS.of GG).st St (.inr (by simp) : _ ∨ r ∈ [r])
      clear GG
      have GG := GG2
      clear GG2
      replace kr := St.new
      clear St
      refine wpList_nil ?_
      refine then_n ?_
      refine wp_seq ?_
      refine wp_region_lit ?_
      refine s_val 49 rfl rfl (.agg (enA (getV L p))) (ldE0 _ rfl g3 rfl (kg3)) ?_
      refine nr ?_; intro U h; simp only [z0, z1] at h; subst h
      refine s_val 50 rfl rfl (.bool false) (rfl) ?_
      refine nr ?_; intro U h; simp only [z0, z1] at h; subst h
      refine s_store rfl rfl 52 _ _ rfl g2 0 rfl (.agg (enA (getV L p))) rfl 52 _ kg2 (enA (getV L p)) rfl (si33' _) (enA_fit _ _) (enA_one _) (enA (getV L p)) (splice_whole _ _ (enA_sz _ _)) ?_
      intro w7 St
      replace kr := St.has (fun e => by subst e; rw [kg2] at kr; cases kr) kr
      replace kg1 := St.has (fun e => by omega) kg1
      replace kg3 := St.has (fun e => by omega) kg3
      replace HO := HO.st St (fun hm => by have := HO.own.base _ hm; omega)
      replace GG := GG.st St (.inl bg2)
      replace kg2 := St.new
      clear St
      refine s_val 5 rfl rfl (.bool false) (rfl) ?_
      refine nr ?_; intro U h; simp only [z0, z1] at h; subst h
      refine wpList_nil ?_
      refine then_n ?_
      refine wp_ret ?_
      refine bodyPost_ret (results_cell_tmp Try.results30 _ _ g2 52 _ (0, 0) _ rfl (.bool false) rfl kg2 Try.underlying52 rfl (si33' _)) rfl ?_
      have e1 : l2 = delL p L := by rw [hl2, hje, List.take_length]; simp only [delL, eqP_eq]
      rw [e1] at HO kr
      exact ⟨by rw [(Bool.eq_false_iff.2 (of_decide_eq_false hh))], ao1, cap1, kr, HO.mono (Nat.zero_le _), GG⟩
    · have hjl : i < L.length := by have := of_decide_eq_true hj1; omega
      refine s_val 22 rfl rfl (.bool true) (run_lssT 3 _ _ _ rfl ((i : Nat) : Int) ((L.length : Nat) : Int) rfl rfl true hj1 _) ?_
      refine nr ?_; intro U h; simp only [z0, z1] at h; subst h
      refine wpList_nil ?_
      refine then_n ?_
      refine wp_cond_true rfl ?_
      refine wp_skip ?_
      refine then_n ?_
      refine wp_seq ?_
      refine wp_block ?_
      refine wp_seq ?_
      cases hx : decide ((L.getD i zE).p = p)
      · refine wp_region_exA (A := ?Ax12) 9 [(0, 25), (1, 26), (2, 27), (3, 28), (4, 29), (5, 30), (6, 31), (7, 32), (8, 33)] [.val (.pointer (some ⟨r, 0, none⟩)), .val (.pointer (some ⟨r, 0, none⟩)), .val (.pointer (some ⟨r, 0, none⟩)), .val (.slice ao L.length cap), .val (.int .i64 ((i : Nat) : Int)), .val (.pointer (pE ao i 0)), .val (.pointer (pE ao i 0)), .val (.agg (paA ((L.getD i zE).p))), .val (.agg (paA p))] follows (by kernel_rfl) rfl ?hAx12 (opsA_cons ?o0x12 (opsA_cons ?o1x12 (opsA_cons ?o2x12 (opsA_cons ?o3x12 (opsA_cons ?o4x12 (opsA_cons ?o5x12 (opsA_cons ?o6x12 (opsA_cons ?o7x12 (opsA_cons ?o8x12 opsA_nil))))))))) ?restx12
        case hAx12 =>
          intro ptrs
          simp only [full, foldSlots, filledE, postE, List.foldl_cons, List.foldl_nil, List.getD_cons_zero, List.getD_cons_succ, fill_val, List.set_cons_zero, List.set_cons_succ]
          exact rfl
        case o0x12 => exact fun _ _ _ _ => opE_move (v := .pointer (some ⟨r, 0, none⟩)) _ rfl rfl rfl
        case o1x12 => exact fun _ _ _ _ => opE_value (v := .pointer (some ⟨r, 0, none⟩)) rfl (run_nc _ rfl _ rfl)
        case o2x12 => exact fun _ _ _ _ => opE_value (v := .pointer (some ⟨r, 0, none⟩)) rfl (run_fld 43 _ 0 rfl r 0 rfl 0 (by kernel_rfl))
        case o3x12 => exact fun _ _ hw _ => opE_value (v := .slice ao L.length cap) rfl (ldRl _ rfl r rfl (hw.has kr))
        case o4x12 => exact fun _ _ _ _ => opE_move (v := .int .i64 ((i : Nat) : Int)) _ rfl rfl rfl
        case o5x12 => exact fun _ _ hw _ => opE_value (v := .pointer (pE ao i 0)) rfl (run_ixE ((HL.gro ((Gro.refl _).drew.trans hw)).re) _ _ rfl rfl i rfl (by omega))
        case o6x12 => exact fun _ _ hw _ => opE_value (v := .pointer (pE ao i 0)) rfl (run_fdE ((HL.gro ((Gro.refl _).drew.trans hw)).re) _ 0 0 (fd33_0 _) rfl i rfl (by omega))
        case o7x12 => exact fun _ _ hw _ => opE_value (v := .agg (paA ((L.getD i zE).p))) rfl (run_ldEp ((HL.gro ((Gro.refl _).drew.trans hw)).re) _ rfl i rfl (by omega))
        case o8x12 => exact fun _ _ hw _ => opE_value (v := .agg (paA p)) rfl (ldP0 _ rfl g1 rfl (hw.has kg1))
        intro ptrs w6 GD hxE
        simp only [List.drop_succ_cons, List.drop_zero]
        replace kr := GD.has kr
        replace kg1 := GD.has kg1
        replace kg2 := GD.has kg2
        replace kg3 := GD.has kg3
        replace HL := HL.gro ((Gro.refl _).drew.trans GD)
        replace HZ := HZ.gro ((Gro.refl _).drew.trans GD)
        replace HO := HO.gro ((Gro.refl _).drew.trans GD)
        replace GG := GG.drew.trans GD
        clear GD
        refine s_val 34 rfl rfl (.bool true) (run_neP _ _ _ rfl _ _ rfl rfl (HL.all.at (by omega)).p hp true hx) ?_
        refine nr ?_; intro U h; simp only [z0, z1] at h; subst h
        refine wpList_nil ?_
        refine then_n ?_
        refine wp_cond_true rfl ?_
        refine wp_region_lit ?_
        refine s_val 35 rfl rfl (.slice ao1 l2.length cap1) (rfl) ?_
        refine nr ?_; intro U h; simp only [z0, z1] at h; subst h
        refine s_val 36 rfl rfl (.pointer (some ⟨r, 0, none⟩)) (rfl) ?_
        refine nr ?_; intro U h; simp only [z0, z1] at h; subst h
        refine s_val 37 rfl rfl (.pointer (some ⟨r, 0, none⟩)) (run_nc _ rfl _ rfl) ?_
        refine nr ?_; intro U h; simp only [z0, z1] at h; subst h
        refine s_val 38 rfl rfl (.pointer (some ⟨r, 0, none⟩)) (run_fld 43 _ 0 rfl r 0 rfl 0 (by kernel_rfl)) ?_
        refine nr ?_; intro U h; simp only [z0, z1] at h; subst h
        refine s_val 39 rfl rfl (.slice ao L.length cap) (ldRl _ rfl r rfl (kr)) ?_
        refine nr ?_; intro U h; simp only [z0, z1] at h; subst h
        refine s_val 40 rfl rfl (.int .i64 ((i : Nat) : Int)) (rfl) ?_
        refine nr ?_; intro U h; simp only [z0, z1] at h; subst h
        refine s_val 41 rfl rfl (.pointer (pE ao i 0)) (run_ixE (HL.re) _ _ rfl rfl i rfl (by omega)) ?_
        refine nr ?_; intro U h; simp only [z0, z1] at h; subst h
        refine s_val 42 rfl rfl (.agg (enA (L.getD i zE))) (run_ldE (HL.re) _ rfl i rfl (by omega)) ?_
        refine nr ?_; intro U h; simp only [z0, z1] at h; subst h
        refine s_bsl 43 rfl rfl 22 1 _ rfl [(0, .agg (enA (L.getD i zE)))] rfl (flE ([(L.getD i zE)] : List En)).toArray 52 (bs1 (L.getD i zE) _) ?_
        intro w7 q1 G eq1 kq1
        have bq1 := size_base GG eq1
        replace kr := G.has kr
        replace kg1 := G.has kg1
        replace kg2 := G.has kg2
        replace kg3 := G.has kg3
        replace HL := HL.gro G
        replace HZ := HZ.gro G
        replace HO := HO.gro G
        replace GG := GG.trans G
        clear G
        have HR1 : RE _ (some ⟨q1, 0, none⟩) ([(L.getD i zE)] : List En).length ([(L.getD i zE)] : List En) := RE.blk kq1 (AllE.one (HL.all.at (by omega))) (Nat.le_refl _)
        clear eq1
        refine nr ?_; intro U h; simp only [z0, z1] at h; subst h
        refine s_appE 44 rfl rfl _ _ rfl rfl HO rfl HR1 (by rw [hl2]; simp only [List.length_cons, List.length_nil]; omega) HZ ?_
        intro ao2 cap2 w8 HO2 G2 _
        have GB := HO.belowB G2 HZ
        replace kr := bel_has GB kr (by omega)
        replace kg1 := bel_has GB kg1 (by omega)
        replace kg2 := bel_has GB kg2 (by omega)
        replace kg3 := bel_has GB kg3 (by omega)
        replace HL := HL.bel GB hLl
        replace GG := G2.gro GG (fun k hk => by have := HO.own.base k hk; omega)
        replace HZ := HZ.le G2.size
        clear G2 GB HO
        have HO := HO2
        clear HO2
        refine nr ?_; intro U h; simp only [z0, z1] at h; subst h
        refine s_val 8 rfl rfl (.slice ao2 ((l2 ++ ([(L.getD i zE)] : List En)).length) cap2) (rfl) ?_
        refine nr ?_; intro U h; simp only [z0, z1] at h; subst h
        refine wpList_nil ?_
        refine blk_n ?_
        refine then_n ?_
        refine wp_region_lit ?_
        refine s_val 23 rfl rfl (.int .i64 ((i : Nat) : Int)) (rfl) ?_
        refine nr ?_; intro U h; simp only [z0, z1] at h; subst h
        refine s_val 24 rfl rfl (.int .i64 ((i + 1 : Nat) : Int)) (run_addI 3 _ _ _ rfl ((i : Nat) : Int) 1 ((i + 1 : Nat) : Int) rfl rfl (by omega) (by omega) (by omega) _) ?_
        refine nr ?_; intro U h; simp only [z0, z1] at h; subst h
        refine s_val 9 rfl rfl (.int .i64 ((i + 1 : Nat) : Int)) (rfl) ?_
        refine nr ?_; intro U h; simp only [z0, z1] at h; subst h
        refine wpList_nil ?_
        refine then_n ?_
        exact ⟨L.length + 1 - (i + 1), by omega, i + 1, ao2, cap2, l2 ++ [L.getD i zE], (fun kz => ([.int .i64 ((i : Nat) : Int), .pointer (some ⟨r, 0, none⟩), .pointer (some ⟨r, 0, none⟩), .pointer (some ⟨r, 0, none⟩), .slice ao L.length cap, .int .i64 ((L.length : Nat) : Int), .bool true, .int .i64 ((i : Nat) : Int), .int .i64 ((i + 1 : Nat) : Int), .pointer (some ⟨r, 0, none⟩), .pointer (some ⟨r, 0, none⟩), .pointer (some ⟨r, 0, none⟩), .slice ao L.length cap, .int .i64 ((i : Nat) : Int), .pointer (pE ao i 0), .pointer (pE ao i 0), .agg (paA ((L.getD i zE).p)), .agg (paA p), .bool true, .slice ao1 l2.length cap1, .pointer (some ⟨r, 0, none⟩), .pointer (some ⟨r, 0, none⟩), .pointer (some ⟨r, 0, none⟩), .slice ao L.length cap, .int .i64 ((i : Nat) : Int), .pointer (pE ao i 0), .agg (enA (L.getD i zE)), .slice (some ⟨q1, 0, none⟩) (([(L.getD i zE)] : List En).length) (([(L.getD i zE)] : List En).length), .slice ao2 ((l2 ++ ([(L.getD i zE)] : List En)).length) cap2] : List Value).getD kz undef), rfl, rfl, by omega, GG, kr, kg1, kg2, kg3, HL, HZ, HO, by rw [hl2, tfil_step (fun y => !decide (y.p = p)) L i hjl, if_pos (show (!decide ((L.getD i zE).p = p)) = true from by rw [hx]; rfl)]⟩
      · refine wp_region_exA (A := ?Ax13) 9 [(0, 25), (1, 26), (2, 27), (3, 28), (4, 29), (5, 30), (6, 31), (7, 32), (8, 33)] [.val (.pointer (some ⟨r, 0, none⟩)), .val (.pointer (some ⟨r, 0, none⟩)), .val (.pointer (some ⟨r, 0, none⟩)), .val (.slice ao L.length cap), .val (.int .i64 ((i : Nat) : Int)), .val (.pointer (pE ao i 0)), .val (.pointer (pE ao i 0)), .val (.agg (paA ((L.getD i zE).p))), .val (.agg (paA p))] follows (by kernel_rfl) rfl ?hAx13 (opsA_cons ?o0x13 (opsA_cons ?o1x13 (opsA_cons ?o2x13 (opsA_cons ?o3x13 (opsA_cons ?o4x13 (opsA_cons ?o5x13 (opsA_cons ?o6x13 (opsA_cons ?o7x13 (opsA_cons ?o8x13 opsA_nil))))))))) ?restx13
        case hAx13 =>
          intro ptrs
          simp only [full, foldSlots, filledE, postE, List.foldl_cons, List.foldl_nil, List.getD_cons_zero, List.getD_cons_succ, fill_val, List.set_cons_zero, List.set_cons_succ]
          exact rfl
        case o0x13 => exact fun _ _ _ _ => opE_move (v := .pointer (some ⟨r, 0, none⟩)) _ rfl rfl rfl
        case o1x13 => exact fun _ _ _ _ => opE_value (v := .pointer (some ⟨r, 0, none⟩)) rfl (run_nc _ rfl _ rfl)
        case o2x13 => exact fun _ _ _ _ => opE_value (v := .pointer (some ⟨r, 0, none⟩)) rfl (run_fld 43 _ 0 rfl r 0 rfl 0 (by kernel_rfl))
        case o3x13 => exact fun _ _ hw _ => opE_value (v := .slice ao L.length cap) rfl (ldRl _ rfl r rfl (hw.has kr))
        case o4x13 => exact fun _ _ _ _ => opE_move (v := .int .i64 ((i : Nat) : Int)) _ rfl rfl rfl
        case o5x13 => exact fun _ _ hw _ => opE_value (v := .pointer (pE ao i 0)) rfl (run_ixE ((HL.gro ((Gro.refl _).drew.trans hw)).re) _ _ rfl rfl i rfl (by omega))
        case o6x13 => exact fun _ _ hw _ => opE_value (v := .pointer (pE ao i 0)) rfl (run_fdE ((HL.gro ((Gro.refl _).drew.trans hw)).re) _ 0 0 (fd33_0 _) rfl i rfl (by omega))
        case o7x13 => exact fun _ _ hw _ => opE_value (v := .agg (paA ((L.getD i zE).p))) rfl (run_ldEp ((HL.gro ((Gro.refl _).drew.trans hw)).re) _ rfl i rfl (by omega))
        case o8x13 => exact fun _ _ hw _ => opE_value (v := .agg (paA p)) rfl (ldP0 _ rfl g1 rfl (hw.has kg1))
        intro ptrs w6 GD hxE
        simp only [List.drop_succ_cons, List.drop_zero]
        replace kr := GD.has kr
        replace kg1 := GD.has kg1
        replace kg2 := GD.has kg2
        replace kg3 := GD.has kg3
        replace HL := HL.gro ((Gro.refl _).drew.trans GD)
        replace HZ := HZ.gro ((Gro.refl _).drew.trans GD)
        replace HO := HO.gro ((Gro.refl _).drew.trans GD)
        replace GG := GG.drew.trans GD
        clear GD
        refine s_val 34 rfl rfl (.bool false) (run_neP _ _ _ rfl _ _ rfl rfl (HL.all.at (by omega)).p hp false hx) ?_
        refine nr ?_; intro U h; simp only [z0, z1] at h; subst h
        refine wpList_nil ?_
        refine then_n ?_
        refine wp_cond_false rfl ?_
        refine wp_skip ?_
        refine blk_n ?_
        refine then_n ?_
        refine wp_region_lit ?_
        refine s_val 23 rfl rfl (.int .i64 ((i : Nat) : Int)) (rfl) ?_
        refine nr ?_; intro U h; simp only [z0, z1] at h; subst h
        refine s_val 24 rfl rfl (.int .i64 ((i + 1 : Nat) : Int)) (run_addI 3 _ _ _ rfl ((i : Nat) : Int) 1 ((i + 1 : Nat) : Int) rfl rfl (by omega) (by omega) (by omega) _) ?_
        refine nr ?_; intro U h; simp only [z0, z1] at h; subst h
        refine s_val 9 rfl rfl (.int .i64 ((i + 1 : Nat) : Int)) (rfl) ?_
        refine nr ?_; intro U h; simp only [z0, z1] at h; subst h
        refine wpList_nil ?_
        refine then_n ?_
        exact ⟨L.length + 1 - (i + 1), by omega, i + 1, ao1, cap1, l2, (fun kz => ([.int .i64 ((i : Nat) : Int), .pointer (some ⟨r, 0, none⟩), .pointer (some ⟨r, 0, none⟩), .pointer (some ⟨r, 0, none⟩), .slice ao L.length cap, .int .i64 ((L.length : Nat) : Int), .bool true, .int .i64 ((i : Nat) : Int), .int .i64 ((i + 1 : Nat) : Int), .pointer (some ⟨r, 0, none⟩), .pointer (some ⟨r, 0, none⟩), .pointer (some ⟨r, 0, none⟩), .slice ao L.length cap, .int .i64 ((i : Nat) : Int), .pointer (pE ao i 0), .pointer (pE ao i 0), .agg (paA ((L.getD i zE).p)), .agg (paA p), .bool false, us1 19, us1 20, us1 21, us1 22, us1 23, us1 24, us1 25, us1 26, us1 27, us1 28] : List Value).getD kz undef), rfl, rfl, by omega, GG, kr, kg1, kg2, kg3, HL, HZ, HO, by rw [hl2, tfil_step (fun y => !decide (y.p = p)) L i hjl, if_neg (by rw [(show (!decide ((L.getD i zE).p = p)) = false from by rw [hx]; rfl)]; decide), List.append_nil]⟩
  · refine wp_region_lit ?_
    refine s_val 11 rfl rfl (.pointer (some ⟨r, 0, none⟩)) (rfl) ?_
    refine nr ?_; intro U h; simp only [z0, z1] at h; subst h
    refine s_val 12 rfl rfl (.agg (paA p)) (ldP0 _ rfl g1 rfl (kg1)) ?_
    refine nr ?_; intro U h; simp only [z0, z1] at h; subst h
    refine s_callv 13 rfl rfl _ 29 Try.call29 rfl rfl _ rfl [.pointer (some ⟨r, 0, none⟩), .agg (paA p)] rfl (Calls.valV (rget_any _ r most ao cap L kr HL hLb hk p hp) (by rw [(of_decide_eq_true hh)])) ?_
    intro w3 G
    replace kr := G.has kr
    replace kg1 := G.has kg1
    replace kg2 := G.has kg2
    replace HL := HL.gro G
    replace GG := GG.trans G
    clear G
    refine nr ?_; intro U h; simp only [z0, z1] at h; subst h
    refine s_val 10 rfl rfl (.tuple #[.agg (enA (getV L p)), .bool true]) (rfl) ?_
    refine nr ?_; intro U h; simp only [z0, z1] at h; subst h
    refine s_val 14 rfl rfl (.agg (enA (getV L p))) (rfl) ?_
    refine nr ?_; intro U h; simp only [z0, z1] at h; subst h
    refine s_val 15 rfl rfl (.bool true) (rfl) ?_
    refine nr ?_; intro U h; simp only [z0, z1] at h; subst h
    refine s_alloc 6 rfl rfl 52 rfl _ zero33 (enA zE) rfl ?_
    intro w4 g3 G eg3 kg3
    have bg3 := size_base GG eg3
    have drg3 := lt_new kr eg3
    have dg1g3 := lt_new kg1 eg3
    have dg2g3 := lt_new kg2 eg3
    have dHLg3 := HL.ne eg3
    replace kr := G.has kr
    replace kg1 := G.has kg1
    replace kg2 := G.has kg2
    replace HL := HL.gro G
    replace GG := GG.trans G
    clear G
    clear eg3
    refine nr ?_; intro U h; simp only [z0, z1] at h; subst h
    refine s_store rfl rfl 52 _ _ rfl g3 0 rfl (.agg (enA (getV L p))) rfl 52 _ kg3 (enA (getV L p)) rfl (si33' _) (enA_fit _ _) (enA_one _) (enA (getV L p)) (splice_whole _ _ (enA_sz _ _)) ?_
    intro w5 St
    have kS := kg3
    replace kr := St.has (by omega) kr
    replace kg1 := St.has (by omega) kg1
    replace kg2 := St.has (by omega) kg2
    replace HL := HL.st St dHLg3
    replace GG := GG.store St bg3
    replace kg3 := St.new
    clear St
    refine s_val 7 rfl rfl (.bool true) (rfl) ?_
    refine nr ?_; intro U h; simp only [z0, z1] at h; subst h
    refine wpList_nil ?_
    refine then_n ?_
    refine wp_seq ?_
    refine wp_region_lit ?_
    refine s_val 8 rfl rfl (.slice none 0 0) (rfl) ?_
    refine nr ?_; intro U h; simp only [z0, z1] at h; subst h
    refine wpList_nil ?_
    refine then_n ?_
    refine wp_seq ?_
    refine wp_seq ?_
    refine wp_region_lit ?_
    refine s_val 9 rfl rfl (.int .i64 0) (rfl) ?_
    refine nr ?_; intro U h; simp only [z0, z1] at h; subst h
    refine wpList_nil ?_
    refine then_n ?_
    refine wp_block ?_
    obtain ⟨BB, hBB⟩ : ∃ B, w5.heap.size = B := ⟨_, rfl⟩
    have hwB : w.heap.size ≤ BB := hBB ▸ GG.size
    have HZ : SZ BB w5 := Nat.le_of_eq hBB.symm
    have lr : r < BB := hBB ▸ lt_of_heap kr
    have lg1 : g1 < BB := hBB ▸ lt_of_heap kg1
    have lg2 : g2 < BB := hBB ▸ lt_of_heap kg2
    have lg3 : g3 < BB := hBB ▸ lt_of_heap kg3
    have hLl : ∀ k ∈ blk ao, k < BB := fun k hk => hBB ▸ HL.own.lt k hk
    clear hBB
    refine wp_loopN (fun mz az wv => ∃ (i : Nat) (ao1 : Option Addr) (cap1 : Nat) (l2 : List En) (us1 : Nat → Value), mz = L.length + 1 - i ∧ az = ⟨[.pointer (some ⟨r, 0, none⟩), .agg (paA p), undef, .pointer (some ⟨g1, 0, none⟩), .pointer (some ⟨g2, 0, none⟩), .bool false, .pointer (some ⟨g3, 0, none⟩), .bool true, .slice ao1 l2.length cap1, .int .i64 ((i : Nat) : Int), .tuple #[.agg (enA (getV L p)), .bool true], .pointer (some ⟨r, 0, none⟩), .agg (paA p), .tuple #[.agg (enA (getV L p)), .bool true], .agg (enA (getV L p)), .bool true, us1 0, us1 1, us1 2, us1 3, us1 4, us1 5, us1 6, us1 7, us1 8, us1 9, us1 10, us1 11, us1 12, us1 13, us1 14, us1 15, us1 16, us1 17, us1 18, us1 19, us1 20, us1 21, us1 22, us1 23, us1 24, us1 25, us1 26, us1 27, us1 28, undef, undef, undef, undef, undef, undef].toArray, []⟩ ∧ i ≤ L.length ∧ Gro w wv ∧ wv.heap[r]? = some (.cells (rbA ao L.length cap most) 43 (0, 0)) ∧ wv.heap[g1]? = some (.cells (paA p) 26 (0, 0)) ∧ wv.heap[g2]? = some (.cells (enA zE) 52 (0, 0)) ∧ wv.heap[g3]? = some (.cells (enA (getV L p)) 52 (0, 0)) ∧ OE wv 0 ao cap L ∧ SZ BB wv ∧ OE wv BB ao1 cap1 l2 ∧ l2 = (L.take i).filter (fun y => !decide (y.p = p))) ?_ _ ⟨0, none, 0, [], (fun kz => ([undef, undef, undef, undef, undef, undef, undef, undef, undef, undef, undef, undef, undef, undef, undef, undef, undef, undef, undef, undef, undef, undef, undef, undef, undef, undef, undef, undef, undef] : List Value).getD kz undef), rfl, rfl, Nat.zero_le _, GG, kr, kg1, kg2, kg3, HL, HZ, OE.nil _ _, rfl⟩
    clear GG kr kg1 kg2 kg3 HL
    rintro mz az wv ⟨i, ao1, cap1, l2, us1, rfl, rfl, hi, GG, kr, kg1, kg2, kg3, HL, HZ, HO, hl2⟩
    have hLt : (L.take i).length = i := by rw [List.length_take]; omega
    have hLf := List.length_filter_le (fun y => !decide (y.p = p)) (L.take i)
    refine wp_seq ?_
    refine wp_seq ?_
    refine wp_region_lit ?_
    refine s_val 16 rfl rfl (.int .i64 ((i : Nat) : Int)) (rfl) ?_
    refine nr ?_; intro U h; simp only [z0, z1] at h; subst h
    refine s_val 17 rfl rfl (.pointer (some ⟨r, 0, none⟩)) (rfl) ?_
    refine nr ?_; intro U h; simp only [z0, z1] at h; subst h
    refine s_val 18 rfl rfl (.pointer (some ⟨r, 0, none⟩)) (run_nc _ rfl _ rfl) ?_
    refine nr ?_; intro U h; simp only [z0, z1] at h; subst h
    refine s_val 19 rfl rfl (.pointer (some ⟨r, 0, none⟩)) (run_fld 43 _ 0 rfl r 0 rfl 0 (by kernel_rfl)) ?_
    refine nr ?_; intro U h; simp only [z0, z1] at h; subst h
    refine s_val 20 rfl rfl (.slice ao L.length cap) (ldRl _ rfl r rfl (kr)) ?_
    refine nr ?_; intro U h; simp only [z0, z1] at h; subst h
    refine s_val 21 rfl rfl (.int .i64 ((L.length : Nat) : Int)) (run_len Try.underlying22 _ rfl _ _ _ rfl _) ?_
    refine nr ?_; intro U h; simp only [z0, z1] at h; subst h
    cases hj1 : decide (((i : Nat) : Int) < ((L.length : Nat) : Int))
    · have hje : i = L.length := by have := of_decide_eq_false hj1; omega
      refine s_val 22 rfl rfl (.bool false) (run_lssT 3 _ _ _ rfl ((i : Nat) : Int) ((L.length : Nat) : Int) rfl rfl false hj1 _) ?_
      refine nr ?_; intro U h; simp only [z0, z1] at h; subst h
      refine wpList_nil ?_
      refine then_n ?_
      refine wp_cond_false rfl ?_
      refine wp_exit ?_
      refine then_x ?_
      refine then_x ?_
      refine blk_x ?_
      refine then_n ?_
      refine wp_seq ?_
      refine wp_region_lit ?_
      refine s_val 45 rfl rfl (.pointer (some ⟨r, 0, none⟩)) (rfl) ?_
      refine nr ?_; intro U h; simp only [z0, z1] at h; subst h
      refine s_val 46 rfl rfl (.slice ao1 l2.length cap1) (rfl) ?_
      refine nr ?_; intro U h; simp only [z0, z1] at h; subst h
      refine s_val 47 rfl rfl (.pointer (some ⟨r, 0, none⟩)) (run_nc _ rfl _ rfl) ?_
      refine nr ?_; intro U h; simp only [z0, z1] at h; subst h
      refine s_val 48 rfl rfl (.pointer (some ⟨r, 0, none⟩)) (run_fld 43 _ 0 rfl r 0 rfl 0 (by kernel_rfl)) ?_
      refine nr ?_; intro U h; simp only [z0, z1] at h; subst h
      refine s_store rfl rfl 22 _ _ rfl r 0 rfl (.slice ao1 l2.length cap1) rfl 43 _ kr #[.slice ao1 l2.length cap1] rfl si41 (show (0 + 1 : Nat) ≤ 2 from by decide) (s_one _ _ _) _ (sprb _ _ _ _ _ _ _) ?_
      intro w6 St
      replace HO := HO.st St (HO.own.ne kr (by decide))
      replace kg1 := St.has (fun e => by subst e; rw [kg1] at kr; cases kr) kg1
      replace kg2 := St.has (fun e => by subst e; rw [kg2] at kr; cases kr) kg2
      replace kg3 := St.has (fun e => by subst e; rw [kg3] at kr; cases kr) kg3
      have GG2 := (GroS.of GG).st St (.inr (by simp) : _ ∨ r ∈ [r])
      clear GG
      have GG := GG2
      clear GG2
      replace kr := St.new
      clear St
      refine wpList_nil ?_
      refine then_n ?_
      refine wp_seq ?_
      refine wp_region_lit ?_
      refine s_val 49 rfl rfl (.agg (enA (getV L p))) (ldE0 _ rfl g3 rfl (kg3)) ?_
      refine nr ?_; intro U h; simp only [z0, z1] at h; subst h
      refine s_val 50 rfl rfl (.bool true) (rfl) ?_
      refine nr ?_; intro U h; simp only [z0, z1] at h; subst h
      refine s_store rfl rfl 52 _ _ rfl g2 0 rfl (.agg (enA (getV L p))) rfl 52 _ kg2 (enA (getV L p)) rfl (si33' _) (enA_fit _ _) (enA_one _) (enA (getV L p)) (splice_whole _ _ (enA_sz _ _)) ?_
      intro w7 St
      replace kr := St.has (fun e => by subst e; rw [kg2] at kr; cases kr) kr
      replace kg1 := St.has (fun e => by omega) kg1
      replace kg3 := St.has (fun e => by omega) kg3
      replace HO := HO.st St (fun hm => by have := HO.own.base _ hm; omega)
      replace GG := GG.st St (.inl bg2)
      replace kg2 := St.new
      clear St
      refine s_val 5 rfl rfl (.bool true) (rfl) ?_
      refine nr ?_; intro U h; simp only [z0, z1] at h; subst h
      refine wpList_nil ?_
      refine then_n ?_
      refine wp_ret ?_
      refine bodyPost_ret (results_cell_tmp Try.results30 _ _ g2 52 _ (0, 0) _ rfl (.bool true) rfl kg2 Try.underlying52 rfl (si33' _)) rfl ?_
      have e1 : l2 = delL p L := by rw [hl2, hje, List.take_length]; simp only [delL, eqP_eq]
      rw [e1] at HO kr
      exact ⟨by rw [(of_decide_eq_true hh)], ao1, cap1, kr, HO.mono (Nat.zero_le _), GG⟩
    · have hjl : i < L.length := by have := of_decide_eq_true hj1; omega
      refine s_val 22 rfl rfl (.bool true) (run_lssT 3 _ _ _ rfl ((i : Nat) : Int) ((L.length : Nat) : Int) rfl rfl true hj1 _) ?_
      refine nr ?_; intro U h; simp only [z0, z1] at h; subst h
      refine wpList_nil ?_
      refine then_n ?_
      refine wp_cond_true rfl ?_
      refine wp_skip ?_
      refine then_n ?_
      refine wp_seq ?_
      refine wp_block ?_
      refine wp_seq ?_
      cases hx : decide ((L.getD i zE).p = p)
      · refine wp_region_exA (A := ?Ax14) 9 [(0, 25), (1, 26), (2, 27), (3, 28), (4, 29), (5, 30), (6, 31), (7, 32), (8, 33)] [.val (.pointer (some ⟨r, 0, none⟩)), .val (.pointer (some ⟨r, 0, none⟩)), .val (.pointer (some ⟨r, 0, none⟩)), .val (.slice ao L.length cap), .val (.int .i64 ((i : Nat) : Int)), .val (.pointer (pE ao i 0)), .val (.pointer (pE ao i 0)), .val (.agg (paA ((L.getD i zE).p))), .val (.agg (paA p))] follows (by kernel_rfl) rfl ?hAx14 (opsA_cons ?o0x14 (opsA_cons ?o1x14 (opsA_cons ?o2x14 (opsA_cons ?o3x14 (opsA_cons ?o4x14 (opsA_cons ?o5x14 (opsA_cons ?o6x14 (opsA_cons ?o7x14 (opsA_cons ?o8x14 opsA_nil))))))))) ?restx14
        case hAx14 =>
          intro ptrs
          simp only [full, foldSlots, filledE, postE, List.foldl_cons, List.foldl_nil, List.getD_cons_zero, List.getD_cons_succ, fill_val, List.set_cons_zero, List.set_cons_succ]
          exact rfl
        case o0x14 => exact fun _ _ _ _ => opE_move (v := .pointer (some ⟨r, 0, none⟩)) _ rfl rfl rfl
        case o1x14 => exact fun _ _ _ _ => opE_value (v := .pointer (some ⟨r, 0, none⟩)) rfl (run_nc _ rfl _ rfl)
        case o2x14 => exact fun _ _ _ _ => opE_value (v := .pointer (some ⟨r, 0, none⟩)) rfl (run_fld 43 _ 0 rfl r 0 rfl 0 (by kernel_rfl))
        case o3x14 => exact fun _ _ hw _ => opE_value (v := .slice ao L.length cap) rfl (ldRl _ rfl r rfl (hw.has kr))
        case o4x14 => exact fun _ _ _ _ => opE_move (v := .int .i64 ((i : Nat) : Int)) _ rfl rfl rfl
        case o5x14 => exact fun _ _ hw _ => opE_value (v := .pointer (pE ao i 0)) rfl (run_ixE ((HL.gro ((Gro.refl _).drew.trans hw)).re) _ _ rfl rfl i rfl (by omega))
        case o6x14 => exact fun _ _ hw _ => opE_value (v := .pointer (pE ao i 0)) rfl (run_fdE ((HL.gro ((Gro.refl _).drew.trans hw)).re) _ 0 0 (fd33_0 _) rfl i rfl (by omega))
        case o7x14 => exact fun _ _ hw _ => opE_value (v := .agg (paA ((L.getD i zE).p))) rfl (run_ldEp ((HL.gro ((Gro.refl _).drew.trans hw)).re) _ rfl i rfl (by omega))
        case o8x14 => exact fun _ _ hw _ => opE_value (v := .agg (paA p)) rfl (ldP0 _ rfl g1 rfl (hw.has kg1))
        intro ptrs w6 GD hxE
        simp only [List.drop_succ_cons, List.drop_zero]
        replace kr := GD.has kr
        replace kg1 := GD.has kg1
        replace kg2 := GD.has kg2
        replace kg3 := GD.has kg3
        replace HL := HL.gro ((Gro.refl _).drew.trans GD)
        replace HZ := HZ.gro ((Gro.refl _).drew.trans GD)
        replace HO := HO.gro ((Gro.refl _).drew.trans GD)
        replace GG := GG.drew.trans GD
        clear GD
        refine s_val 34 rfl rfl (.bool true) (run_neP _ _ _ rfl _ _ rfl rfl (HL.all.at (by omega)).p hp true hx) ?_
        refine nr ?_; intro U h; simp only [z0, z1] at h; subst h
        refine wpList_nil ?_
        refine then_n ?_
        refine wp_cond_true rfl ?_
        refine wp_region_lit ?_
        refine s_val 35 rfl rfl (.slice ao1 l2.length cap1) (rfl) ?_
        refine nr ?_; intro U h; simp only [z0, z1] at h; subst h
        refine s_val 36 rfl rfl (.pointer (some ⟨r, 0, none⟩)) (rfl) ?_
        refine nr ?_; intro U h; simp only [z0, z1] at h; subst h
        refine s_val 37 rfl rfl (.pointer (some ⟨r, 0, none⟩)) (run_nc _ rfl _ rfl) ?_
        refine nr ?_; intro U h; simp only [z0, z1] at h; subst h
        refine s_val 38 rfl rfl (.pointer (some ⟨r, 0, none⟩)) (run_fld 43 _ 0 rfl r 0 rfl 0 (by kernel_rfl)) ?_
        refine nr ?_; intro U h; simp only [z0, z1] at h; subst h
        refine s_val 39 rfl rfl (.slice ao L.length cap) (ldRl _ rfl r rfl (kr)) ?_
        refine nr ?_; intro U h; simp only [z0, z1] at h; subst h
        refine s_val 40 rfl rfl (.int .i64 ((i : Nat) : Int)) (rfl) ?_
        refine nr ?_; intro U h; simp only [z0, z1] at h; subst h
        refine s_val 41 rfl rfl (.pointer (pE ao i 0)) (run_ixE (HL.re) _ _ rfl rfl i rfl (by omega)) ?_
        refine nr ?_; intro U h; simp only [z0, z1] at h; subst h
        refine s_val 42 rfl rfl (.agg (enA (L.getD i zE))) (run_ldE (HL.re) _ rfl i rfl (by omega)) ?_
        refine nr ?_; intro U h; simp only [z0, z1] at h; subst h
        refine s_bsl 43 rfl rfl 22 1 _ rfl [(0, .agg (enA (L.getD i zE)))] rfl (flE ([(L.getD i zE)] : List En)).toArray 52 (bs1 (L.getD i zE) _) ?_
        intro w7 q1 G eq1 kq1
        have bq1 := size_base GG eq1
        replace kr := G.has kr
        replace kg1 := G.has kg1
        replace kg2 := G.has kg2
        replace kg3 := G.has kg3
        replace HL := HL.gro G
        replace HZ := HZ.gro G
        replace HO := HO.gro G
        replace GG := GG.trans G
        clear G
        have HR1 : RE _ (some ⟨q1, 0, none⟩) ([(L.getD i zE)] : List En).length ([(L.getD i zE)] : List En) := RE.blk kq1 (AllE.one (HL.all.at (by omega))) (Nat.le_refl _)
        clear eq1
        refine nr ?_; intro U h; simp only [z0, z1] at h; subst h
        refine s_appE 44 rfl rfl _ _ rfl rfl HO rfl HR1 (by rw [hl2]; simp only [List.length_cons, List.length_nil]; omega) HZ ?_
        intro ao2 cap2 w8 HO2 G2 _
        have GB := HO.belowB G2 HZ
        replace kr := bel_has GB kr (by omega)
        replace kg1 := bel_has GB kg1 (by omega)
        replace kg2 := bel_has GB kg2 (by omega)
        replace kg3 := bel_has GB kg3 (by omega)
        replace HL := HL.bel GB hLl
        replace GG := G2.gro GG (fun k hk => by have := HO.own.base k hk; omega)
        replace HZ := HZ.le G2.size
        clear G2 GB HO
        have HO := HO2
        clear HO2
        refine nr ?_; intro U h; simp only [z0, z1] at h; subst h
        refine s_val 8 rfl rfl (.slice ao2 ((l2 ++ ([(L.getD i zE)] : List En)).length) cap2) (rfl) ?_
        refine nr ?_; intro U h; simp only [z0, z1] at h; subst h
        refine wpList_nil ?_
        refine blk_n ?_
        refine then_n ?_
        refine wp_region_lit ?_
        refine s_val 23 rfl rfl (.int .i64 ((i : Nat) : Int)) (rfl) ?_
        refine nr ?_; intro U h; simp only [z0, z1] at h; subst h
        refine s_val 24 rfl rfl (.int .i64 ((i + 1 : Nat) : Int)) (run_addI 3 _ _ _ rfl ((i : Nat) : Int) 1 ((i + 1 : Nat) : Int) rfl rfl (by omega) (by omega) (by omega) _) ?_
        refine nr ?_; intro U h; simp only [z0, z1] at h; subst h
        refine s_val 9 rfl rfl (.int .i64 ((i + 1 : Nat) : Int)) (rfl) ?_
        refine nr ?_; intro U h; simp only [z0, z1] at h; subst h
        refine wpList_nil ?_
        refine then_n ?_
        exact ⟨L.length + 1 - (i + 1), by omega, i + 1, ao2, cap2, l2 ++ [L.getD i zE], (fun kz => ([.int .i64 ((i : Nat) : Int), .pointer (some ⟨r, 0, none⟩), .pointer (some ⟨r, 0, none⟩), .pointer (some ⟨r, 0, none⟩), .slice ao L.length cap, .int .i64 ((L.length : Nat) : Int), .bool true, .int .i64 ((i : Nat) : Int), .int .i64 ((i + 1 : Nat) : Int), .pointer (some ⟨r, 0, none⟩), .pointer (some ⟨r, 0, none⟩), .pointer (some ⟨r, 0, none⟩), .slice ao L.length cap, .int .i64 ((i : Nat) : Int), .pointer (pE ao i 0), .pointer (pE ao i 0), .agg (paA ((L.getD i zE).p)), .agg (paA p), .bool true, .slice ao1 l2.length cap1, .pointer (some ⟨r, 0, none⟩), .pointer (some ⟨r, 0, none⟩), .pointer (some ⟨r, 0, none⟩), .slice ao L.length cap, .int .i64 ((i : Nat) : Int), .pointer (pE ao i 0), .agg (enA (L.getD i zE)), .slice (some ⟨q1, 0, none⟩) (([(L.getD i zE)] : List En).length) (([(L.getD i zE)] : List En).length), .slice ao2 ((l2 ++ ([(L.getD i zE)] : List En)).length) cap2] : List Value).getD kz undef), rfl, rfl, by omega, GG, kr, kg1, kg2, kg3, HL, HZ, HO, by rw [hl2, tfil_step (fun y => !decide (y.p = p)) L i hjl, if_pos (show (!decide ((L.getD i zE).p = p)) = true from by rw [hx]; rfl)]⟩
      · refine wp_region_exA (A := ?Ax15) 9 [(0, 25), (1, 26), (2, 27), (3, 28), (4, 29), (5, 30), (6, 31), (7, 32), (8, 33)] [.val (.pointer (some ⟨r, 0, none⟩)), .val (.pointer (some ⟨r, 0, none⟩)), .val (.pointer (some ⟨r, 0, none⟩)), .val (.slice ao L.length cap), .val (.int .i64 ((i : Nat) : Int)), .val (.pointer (pE ao i 0)), .val (.pointer (pE ao i 0)), .val (.agg (paA ((L.getD i zE).p))), .val (.agg (paA p))] follows (by kernel_rfl) rfl ?hAx15 (opsA_cons ?o0x15 (opsA_cons ?o1x15 (opsA_cons ?o2x15 (opsA_cons ?o3x15 (opsA_cons ?o4x15 (opsA_cons ?o5x15 (opsA_cons ?o6x15 (opsA_cons ?o7x15 (opsA_cons ?o8x15 opsA_nil))))))))) ?restx15
        case hAx15 =>
          intro ptrs
          simp only [full, foldSlots, filledE, postE, List.foldl_cons, List.foldl_nil, List.getD_cons_zero, List.getD_cons_succ, fill_val, List.set_cons_zero, List.set_cons_succ]
          exact rfl
        case o0x15 => exact fun _ _ _ _ => opE_move (v := .pointer (some ⟨r, 0, none⟩)) _ rfl rfl rfl
        case o1x15 => exact fun _ _ _ _ => opE_value (v := .pointer (some ⟨r, 0, none⟩)) rfl (run_nc _ rfl _ rfl)
        case o2x15 => exact fun _ _ _ _ => opE_value (v := .pointer (some ⟨r, 0, none⟩)) rfl (run_fld 43 _ 0 rfl r 0 rfl 0 (by kernel_rfl))
        case o3x15 => exact fun _ _ hw _ => opE_value (v := .slice ao L.length cap) rfl (ldRl _ rfl r rfl (hw.has kr))
        case o4x15 => exact fun _ _ _ _ => opE_move (v := .int .i64 ((i : Nat) : Int)) _ rfl rfl rfl
        case o5x15 => exact fun _ _ hw _ => opE_value (v := .pointer (pE ao i 0)) rfl (run_ixE ((HL.gro ((Gro.refl _).drew.trans hw)).re) _ _ rfl rfl i rfl (by omega))
        case o6x15 => exact fun _ _ hw _ => opE_value (v := .pointer (pE ao i 0)) rfl (run_fdE ((HL.gro ((Gro.refl _).drew.trans hw)).re) _ 0 0 (fd33_0 _) rfl i rfl (by omega))
        case o7x15 => exact fun _ _ hw _ => opE_value (v := .agg (paA ((L.getD i zE).p))) rfl (run_ldEp ((HL.gro ((Gro.refl _).drew.trans hw)).re) _ rfl i rfl (by omega))
        case o8x15 => exact fun _ _ hw _ => opE_value (v := .agg (paA p)) rfl (ldP0 _ rfl g1 rfl (hw.has kg1))
        intro ptrs w6 GD hxE
        simp only [List.drop_succ_cons, List.drop_zero]
        replace kr := GD.has kr
        replace kg1 := GD.has kg1
        replace kg2 := GD.has kg2
        replace kg3 := GD.has kg3
        replace HL := HL.gro ((Gro.refl _).drew.trans GD)
        replace HZ := HZ.gro ((Gro.refl _).drew.trans GD)
        replace HO := HO.gro ((Gro.refl _).drew.trans GD)
        replace GG := GG.drew.trans GD
        clear GD
        refine s_val 34 rfl rfl (.bool false) (run_neP _ _ _ rfl _ _ rfl rfl (HL.all.at (by omega)).p hp false hx) ?_
        refine nr ?_; intro U h; simp only [z0, z1] at h; subst h
        refine wpList_nil ?_
        refine then_n ?_
        refine wp_cond_false rfl ?_
        refine wp_skip ?_
        refine blk_n ?_
        refine then_n ?_
        refine wp_region_lit ?_
        refine s_val 23 rfl rfl (.int .i64 ((i : Nat) : Int)) (rfl) ?_
        refine nr ?_; intro U h; simp only [z0, z1] at h; subst h
        refine s_val 24 rfl rfl (.int .i64 ((i + 1 : Nat) : Int)) (run_addI 3 _ _ _ rfl ((i : Nat) : Int) 1 ((i + 1 : Nat) : Int) rfl rfl (by omega) (by omega) (by omega) _) ?_
        refine nr ?_; intro U h; simp only [z0, z1] at h; subst h
        refine s_val 9 rfl rfl (.int .i64 ((i + 1 : Nat) : Int)) (rfl) ?_
        refine nr ?_; intro U h; simp only [z0, z1] at h; subst h
        refine wpList_nil ?_
        refine then_n ?_
        exact ⟨L.length + 1 - (i + 1), by omega, i + 1, ao1, cap1, l2, (fun kz => ([.int .i64 ((i : Nat) : Int), .pointer (some ⟨r, 0, none⟩), .pointer (some ⟨r, 0, none⟩), .pointer (some ⟨r, 0, none⟩), .slice ao L.length cap, .int .i64 ((L.length : Nat) : Int), .bool true, .int .i64 ((i : Nat) : Int), .int .i64 ((i + 1 : Nat) : Int), .pointer (some ⟨r, 0, none⟩), .pointer (some ⟨r, 0, none⟩), .pointer (some ⟨r, 0, none⟩), .slice ao L.length cap, .int .i64 ((i : Nat) : Int), .pointer (pE ao i 0), .pointer (pE ao i 0), .agg (paA ((L.getD i zE).p)), .agg (paA p), .bool false, us1 19, us1 20, us1 21, us1 22, us1 23, us1 24, us1 25, us1 26, us1 27, us1 28] : List Value).getD kz undef), rfl, rfl, by omega, GG, kr, kg1, kg2, kg3, HL, HZ, HO, by rw [hl2, tfil_step (fun y => !decide (y.p = p)) L i hjl, if_neg (by rw [(show (!decide ((L.getD i zE).p = p)) = false from by rw [hx]; rfl)]; decide), List.append_nil]⟩
end Go.Proofs.Ytmpnepbmpmkmkaa
