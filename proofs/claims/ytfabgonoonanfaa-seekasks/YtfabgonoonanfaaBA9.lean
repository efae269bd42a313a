/- The document's: copies, what comes ahead, for whom one asks; the example. -/
import Derived.Test.YtfabgonoonanfaaBA8
import Derived.Test.YtfabgonoonanfaaBI13
namespace Go.Proofs.Ytfabgonoonanfaa
open Go.RowKit
theorem refwantK (w : World) (ao : Option Addr) (cap : Nat) (l : List Nat) (H : RK kI w ao cap l) (hl : l.length ≤ 1000000) (s : Nat) (hs : s < top) (half : Int) : Calls Try.prog 15 #[.agg (idA s), .slice ao l.length cap, .int .i64 half] w (RowR kI w (want s l half)) :=
  (refwant_any w ao cap l H.rc hl s hs half).mono fun _ _ ⟨ao, cap, h1, h2, h3⟩ => ⟨ao, cap, h1, h2, ofRC h3⟩
theorem refhasK (w : World) (ao : Option Addr) (cap : Nat) (l : List Nat) (H : RK kI w ao cap l) (hl : l.length ≤ 1000000) (x : Nat) (hx : x < top) : Calls Try.prog 16 #[.slice ao l.length cap, .agg (idA x)] w (fun e w' => e = .returned (.bool (decide (x ∈ l))) ∧ Gro w w') := refhas_any w ao cap l H.rc hl x hx
theorem RK.take {α : Type} {K : Kd α} {w : World} {ao : Option Addr} {cap : Nat} {l : List α} (h : RK K w ao cap l) (k : Nat) : RK K w ao (l.take k).length (l.take k) := by
  have hx := h.xc
  refine ⟨⟨flx_len K.len _, Nat.le_refl _, fun hn => ?_, fun ad ha j v hv => ?_, fl_oneK⟩, fun x hx => h.all x (List.mem_of_mem_take hx)⟩
  · have h1 := hx.bare hn
    have h2 := hx.fit
    rw [List.length_take]
    omega
  · rw [← flx_take K.len, List.getElem?_take] at hv
    split at hv
    · exact hx.cell ad ha j v hv
    · cases hv
theorem run_cut3K {P : Program} {o : Oper} {A : Act} {t e : TypeId} {sz b : Nat} {z : Value} (T : RowT P t e sz b z) (x z u : Operand) (ho : o.op = .slice t x none (some z) (some u)) (ao : Option Addr) (n cap j : Nat) (m : Int) (hm : m = (j : Int)) (hx : A.eval x = .slice ao n cap) (hz : A.eval z = .int .i64 m) (hu : A.eval u = .int .i64 m) (hj : j ≤ cap) (w : World) : (execOp A.eval o).run P w = .ok (.value (.slice ao j j)) w := by
  subst hm
  exact run_cut3Xi T x z u ho ao n cap j hx hz hu hj w
set_option maxRecDepth 100000 in
set_option maxHeartbeats 4000000 in
theorem cutI_any (w : World) (ao : Option Addr) (cap : Nat) (l : List Nat) (HL : RK kI w ao cap l) (k : Nat) : Calls Try.prog 7 #[.slice ao l.length cap, .int .i64 ((k : Nat) : Int)] w (fun e w' => e = .returned (.slice ao (l.take k).length (l.take k).length) ∧ Gro w w') := by
  refine s_enter Try.func7 rfl Try.ntmps7 [.slice ao l.length cap, .int .i64 ((k : Nat) : Int)] [.slice ao l.length cap, .int .i64 ((k : Nat) : Int), undef, undef, undef, undef, undef, undef, undef, undef, undef, undef, undef, undef, undef] rfl ?_
  have GG := Gro.refl w
  refine wp_seq ?_
  refine wp_region_lit ?_
  refine s_val 4 rfl rfl (.slice none 0 0) (rfl) ?_
  refine nr ?_; intro U h; simp only [z0, z1] at h; subst h
  refine wpList_nil ?_
  refine then_n ?_
  refine wp_seq ?_
  refine wp_region_lit ?_
  refine s_val 5 rfl rfl (.slice ao l.length cap) (rfl) ?_
  refine nr ?_; intro U h; simp only [z0, z1] at h; subst h
  refine s_val 6 rfl rfl (.slice ao l.length cap) (rfl) ?_
  refine nr ?_; intro U h; simp only [z0, z1] at h; subst h
  refine s_val 7 rfl rfl (.int .i64 ((l.length : Nat) : Int)) (run_len Try.underlying24 _ rfl _ _ _ rfl _) ?_
  refine nr ?_; intro U h; simp only [z0, z1] at h; subst h
  refine s_val 8 rfl rfl (.int .i64 ((k : Nat) : Int)) (rfl) ?_
  refine nr ?_; intro U h; simp only [z0, z1] at h; subst h
  refine s_val 9 rfl rfl (.int .i64 (min ((l.length : Nat) : Int) ((k : Nat) : Int))) (run_minI _ _ _ rfl ((l.length : Nat) : Int) ((k : Nat) : Int) rfl rfl _) ?_
  refine nr ?_; intro U h; simp only [z0, z1] at h; subst h
  refine s_val 10 rfl rfl (.slice ao l.length cap) (rfl) ?_
  refine nr ?_; intro U h; simp only [z0, z1] at h; subst h
  refine s_val 11 rfl rfl (.int .i64 ((l.length : Nat) : Int)) (run_len Try.underlying24 _ rfl _ _ _ rfl _) ?_
  refine nr ?_; intro U h; simp only [z0, z1] at h; subst h
  refine s_val 12 rfl rfl (.int .i64 ((k : Nat) : Int)) (rfl) ?_
  refine nr ?_; intro U h; simp only [z0, z1] at h; subst h
  refine s_val 13 rfl rfl (.int .i64 (min ((l.length : Nat) : Int) ((k : Nat) : Int))) (run_minI _ _ _ rfl ((l.length : Nat) : Int) ((k : Nat) : Int) rfl rfl _) ?_
  refine nr ?_; intro U h; simp only [z0, z1] at h; subst h
  refine s_val 14 rfl rfl (.slice ao (l.take k).length (l.take k).length) (run_cut3K rIk _ _ _ rfl ao l.length cap (l.take k).length (min (((l.length : Nat)) : Int) ((k : Nat) : Int)) (by rw [List.length_take]; omega) rfl rfl rfl (by have := HL.xc.fit; rw [List.length_take]; omega) _) ?_
  refine nr ?_; intro U h; simp only [z0, z1] at h; subst h
  refine s_val 4 rfl rfl (.slice ao (l.take k).length (l.take k).length) (rfl) ?_
  refine nr ?_; intro U h; simp only [z0, z1] at h; subst h
  refine wpList_nil ?_
  refine then_n ?_
  refine wp_ret ?_
  refine bodyPost_ret (results_tmp Try.results7 _ _ _) rfl ?_
  exact ⟨rfl, GG⟩
set_option maxRecDepth 100000 in
set_option maxHeartbeats 4000000 in
theorem cutC_any (w : World) (ao : Option Addr) (cap : Nat) (l : List Cd) (HL : RK kC w ao cap l) (k : Nat) : Calls Try.prog 8 #[.slice ao l.length cap, .int .i64 ((k : Nat) : Int)] w (fun e w' => e = .returned (.slice ao (l.take k).length (l.take k).length) ∧ Gro w w') := by
  refine s_enter Try.func8 rfl Try.ntmps8 [.slice ao l.length cap, .int .i64 ((k : Nat) : Int)] [.slice ao l.length cap, .int .i64 ((k : Nat) : Int), undef, undef, undef, undef, undef, undef, undef, undef, undef, undef, undef, undef, undef] rfl ?_
  have GG := Gro.refl w
  refine wp_seq ?_
  refine wp_region_lit ?_
  refine s_val 4 rfl rfl (.slice none 0 0) (rfl) ?_
  refine nr ?_; intro U h; simp only [z0, z1] at h; subst h
  refine wpList_nil ?_
  refine then_n ?_
  refine wp_seq ?_
  refine wp_region_lit ?_
  refine s_val 5 rfl rfl (.slice ao l.length cap) (rfl) ?_
  refine nr ?_; intro U h; simp only [z0, z1] at h; subst h
  refine s_val 6 rfl rfl (.slice ao l.length cap) (rfl) ?_
  refine nr ?_; intro U h; simp only [z0, z1] at h; subst h
  refine s_val 7 rfl rfl (.int .i64 ((l.length : Nat) : Int)) (run_len Try.underlying25 _ rfl _ _ _ rfl _) ?_
  refine nr ?_; intro U h; simp only [z0, z1] at h; subst h
  refine s_val 8 rfl rfl (.int .i64 ((k : Nat) : Int)) (rfl) ?_
  refine nr ?_; intro U h; simp only [z0, z1] at h; subst h
  refine s_val 9 rfl rfl (.int .i64 (min ((l.length : Nat) : Int) ((k : Nat) : Int))) (run_minI _ _ _ rfl ((l.length : Nat) : Int) ((k : Nat) : Int) rfl rfl _) ?_
  refine nr ?_; intro U h; simp only [z0, z1] at h; subst h
  refine s_val 10 rfl rfl (.slice ao l.length cap) (rfl) ?_
  refine nr ?_; intro U h; simp only [z0, z1] at h; subst h
  refine s_val 11 rfl rfl (.int .i64 ((l.length : Nat) : Int)) (run_len Try.underlying25 _ rfl _ _ _ rfl _) ?_
  refine nr ?_; intro U h; simp only [z0, z1] at h; subst h
  refine s_val 12 rfl rfl (.int .i64 ((k : Nat) : Int)) (rfl) ?_
  refine nr ?_; intro U h; simp only [z0, z1] at h; subst h
  refine s_val 13 rfl rfl (.int .i64 (min ((l.length : Nat) : Int) ((k : Nat) : Int))) (run_minI _ _ _ rfl ((l.length : Nat) : Int) ((k : Nat) : Int) rfl rfl _) ?_
  refine nr ?_; intro U h; simp only [z0, z1] at h; subst h
  refine s_val 14 rfl rfl (.slice ao (l.take k).length (l.take k).length) (run_cut3K rC _ _ _ rfl ao l.length cap (l.take k).length (min (((l.length : Nat)) : Int) ((k : Nat) : Int)) (by rw [List.length_take]; omega) rfl rfl rfl (by have := HL.xc.fit; rw [List.length_take]; omega) _) ?_
  refine nr ?_; intro U h; simp only [z0, z1] at h; subst h
  refine s_val 4 rfl rfl (.slice ao (l.take k).length (l.take k).length) (rfl) ?_
  refine nr ?_; intro U h; simp only [z0, z1] at h; subst h
  refine wpList_nil ?_
  refine then_n ?_
  refine wp_ret ?_
  refine bodyPost_ret (results_tmp Try.results8 _ _ _) rfl ?_
  exact ⟨rfl, GG⟩
set_option maxRecDepth 100000 in
set_option maxHeartbeats 4000000 in
theorem n_any (x : Nat) (hx : x < 256) (w : World) : Calls Try.prog 28 #[.int .u8 ((x : Nat) : Int)] w (fun e w' => e = .returned (.agg (idA x)) ∧ Gro w w') := by
  refine s_enter Try.func28 rfl Try.ntmps28 [.int .u8 ((x : Nat) : Int)] [.int .u8 ((x : Nat) : Int), undef, undef, undef, undef] rfl ?_
  have GG := Gro.refl w
  refine wp_seq ?_
  refine wp_region_lit ?_
  refine s_alloc 2 rfl rfl 23 rfl _ zero23 (idA 0) rfl ?_
  intro w1 g1 G eg1 kg1
  have bg1 := size_base GG eg1
  replace GG := GG.trans G
  clear G
  clear eg1
  refine nr ?_; intro U h; simp only [z0, z1] at h; subst h
  refine wpList_nil ?_
  refine then_n ?_
  refine wp_seq ?_
  refine wp_region_lit ?_
  refine s_val 3 rfl rfl (.int .u8 ((x : Nat) : Int)) (rfl) ?_
  refine nr ?_; intro U h; simp only [z0, z1] at h; subst h
  refine s_val 4 rfl rfl (.agg (idA x)) (run_build_n _ rfl x rfl hx _) ?_
  refine nr ?_; intro U h; simp only [z0, z1] at h; subst h
  refine s_store rfl rfl 23 _ _ rfl g1 0 rfl (.agg (idA x)) rfl 23 _ kg1 (idA x) rfl (size23' _) (idA_fit _ _) (idA_one _) (idA x) (splice_whole _ _ (idA_sz _ _)) ?_
  intro w2 St
  have kS := kg1
  replace GG := GG.store St bg1
  replace kg1 := St.new
  clear St
  refine wpList_nil ?_
  refine then_n ?_
  refine wp_ret ?_
  refine bodyPost_ret (results_cell_row Try.results28 _ _ g1 23 _ (0, 0) _ rfl kg1 Try.underlying23 rfl (size23' _)) rfl ?_
  exact ⟨rfl, GG⟩
set_option maxRecDepth 100000 in
set_option maxHeartbeats 4000000 in
theorem copy_any (w : World) (ao : Option Addr) (cap : Nat) (l : List Nat) (HL : RK kI w ao cap l) (hl : l.length ≤ 1000) : Calls Try.prog 9 #[.slice ao l.length cap] w (RowK kI 23 w l) := by
  refine s_enter Try.func9 rfl Try.ntmps9 [.slice ao l.length cap] [.slice ao l.length cap, undef, undef, undef, undef, undef] rfl ?_
  have GG := Gro.refl w
  refine wp_seq ?_
  refine wp_region_lit ?_
  refine s_val 2 rfl rfl (.slice none 0 0) (rfl) ?_
  refine nr ?_; intro U h; simp only [z0, z1] at h; subst h
  refine wpList_nil ?_
  refine then_n ?_
  refine wp_seq ?_
  refine wp_region_lit ?_
  refine s_bsl 3 rfl rfl 24 0 _ rfl [] rfl (([] : List Nat).flatMap kI.E).toArray 23 (bsI0 _) ?_
  intro w1 q0 G eq0 kq0
  have bq0 := size_base GG eq0
  replace GG := GG.trans G
  clear G
  have HO : OW kI 23 _ w.heap.size (some ⟨q0, 0, none⟩) 0 [] := OW.blk kq0 (fun _ h => by cases h) bq0 (by decide)
  clear eq0 kq0
  refine nr ?_; intro U h; simp only [z0, z1] at h; subst h
  refine s_val 4 rfl rfl (.slice ao l.length cap) (rfl) ?_
  refine nr ?_; intro U h; simp only [z0, z1] at h; subst h
  refine s_appK rIk (by decide) 5 rfl rfl _ _ rfl rfl HO rfl (HL.gro GG) (by simp; omega) GG.size ?_
  intro no0 nc0 w2 HO2 G2 _
  replace GG := G2.gro GG (fun k hk => HO.own.base k hk)
  clear G2 HO
  have HO := HO2
  clear HO2
  simp only [List.nil_append] at HO ⊢
  refine nr ?_; intro U h; simp only [z0, z1] at h; subst h
  refine s_val 2 rfl rfl (.slice no0 l.length nc0) (rfl) ?_
  refine nr ?_; intro U h; simp only [z0, z1] at h; subst h
  refine wpList_nil ?_
  refine then_n ?_
  refine wp_ret ?_
  refine bodyPost_ret (results_tmp Try.results9 _ _ _) rfl ?_
  exact ⟨no0, nc0, rfl, GG, HO⟩
set_option maxRecDepth 100000 in
set_option maxHeartbeats 4000000 in
theorem plain_any (w : World) (ao : Option Addr) (cap : Nat) (l : List Cd) (HC : RK kC w ao cap l) (hl : l.length ≤ 1000) : Calls Try.prog 10 #[.slice ao l.length cap] w (RowK kC 40 w l) := by
  refine s_enter Try.func10 rfl Try.ntmps10 [.slice ao l.length cap] [.slice ao l.length cap, undef, undef, undef, undef, undef, undef, undef, undef, undef, undef, undef, undef, undef, undef, undef, undef, undef, undef, undef, undef, undef, undef, undef, undef, undef] rfl ?_
  have GG := Gro.refl w
  refine wp_seq ?_
  refine wp_region_lit ?_
  refine s_val 2 rfl rfl (.slice none 0 0) (rfl) ?_
  refine nr ?_; intro U h; simp only [z0, z1] at h; subst h
  refine wpList_nil ?_
  refine then_n ?_
  refine wp_seq ?_
  refine wp_region_lit ?_
  refine s_val 3 rfl rfl (.slice none 0 0) (rfl) ?_
  refine nr ?_; intro U h; simp only [z0, z1] at h; subst h
  refine wpList_nil ?_
  refine then_n ?_
  refine wp_seq ?_
  refine wp_seq ?_
  refine wp_region_lit ?_
  refine s_val 6 rfl rfl (.slice ao l.length cap) (rfl) ?_
  refine nr ?_; intro U h; simp only [z0, z1] at h; subst h
  refine s_val 7 rfl rfl (.int .i64 ((l.length : Nat) : Int)) (run_len Try.underlying25 _ rfl _ _ _ rfl _) ?_
  refine nr ?_; intro U h; simp only [z0, z1] at h; subst h
  refine s_val 8 rfl rfl (.int .i64 0) (rfl) ?_
  refine nr ?_; intro U h; simp only [z0, z1] at h; subst h
  refine wpList_nil ?_
  refine then_n ?_
  refine wp_block ?_
  refine wp_loopN (fun mz az wv => ∃ (i : Nat) (no : Option Addr) (nc : Nat) (us1 : Nat → Value), mz = l.length + 1 - i ∧ az = ⟨[.slice ao l.length cap, undef, .slice none 0 0, .slice no (l.take i).length nc, undef, us1 0, .slice ao l.length cap, .int .i64 ((l.length : Nat) : Int), .int .i64 ((i : Nat) : Int), us1 1, us1 2, us1 3, us1 4, us1 5, us1 6, us1 7, us1 8, us1 9, us1 10, us1 11, us1 12, us1 13, us1 14, us1 15, us1 16, undef].toArray, []⟩ ∧ i ≤ l.length ∧ Gro w wv ∧ OW kC 40 wv w.heap.size no nc (l.take i)) ?_ _ ⟨0, none, 0, (fun kz => ([undef, undef, undef, undef, undef, undef, undef, undef, undef, undef, undef, undef, undef, undef, undef, undef, undef] : List Value).getD kz undef), rfl, rfl, Nat.zero_le _, GG, OW.nil _ _⟩
  clear GG
  rintro mz az wv ⟨i, no, nc, us1, rfl, rfl, hi, GG, HO⟩
  refine wp_seq ?_
  refine wp_region_lit ?_
  cases hi1 : decide (((i : Nat) : Int) < ((l.length : Nat) : Int))
  · have hie : i = l.length := by have := of_decide_eq_false hi1; omega
    refine s_val 9 rfl rfl (.bool false) (run_lssT 3 _ _ _ rfl ((i : Nat) : Int) ((l.length : Nat) : Int) rfl rfl false hi1 _) ?_
    refine nr ?_; intro U h; simp only [z0, z1] at h; subst h
    refine wpList_nil ?_
    refine then_n ?_
    refine wp_seq ?_
    refine wp_cond_false rfl ?_
    refine wp_exit ?_
    refine then_x ?_
    refine then_x ?_
    refine blk_x ?_
    refine then_n ?_
    refine wp_seq ?_
    refine wp_region_lit ?_
    refine s_val 25 rfl rfl (.slice no (l.take i).length nc) (rfl) ?_
    refine nr ?_; intro U h; simp only [z0, z1] at h; subst h
    refine s_val 2 rfl rfl (.slice no (l.take i).length nc) (rfl) ?_
    refine nr ?_; intro U h; simp only [z0, z1] at h; subst h
    refine wpList_nil ?_
    refine then_n ?_
    refine wp_ret ?_
    refine bodyPost_ret (results_tmp Try.results10 _ _ _) rfl ?_
    rw [hie, List.take_length] at HO
    exact ⟨no, nc, by rw [hie, List.take_length]; rfl, GG, HO⟩
  · have hil : i < l.length := by have := of_decide_eq_true hi1; omega
    refine s_val 9 rfl rfl (.bool true) (run_lssT 3 _ _ _ rfl ((i : Nat) : Int) ((l.length : Nat) : Int) rfl rfl true hi1 _) ?_
    refine nr ?_; intro U h; simp only [z0, z1] at h; subst h
    refine wpList_nil ?_
    refine then_n ?_
    refine wp_seq ?_
    refine wp_cond_true rfl ?_
    refine wp_skip ?_
    refine then_n ?_
    refine wp_seq ?_
    refine wp_block ?_
    refine wp_seq ?_
    refine wp_region_lit ?_
    refine s_val 10 rfl rfl (.pointer (pK kC ao i 0)) (run_ixK rC (HC.gro GG) _ _ rfl rfl i rfl (by omega)) ?_
    refine nr ?_; intro U h; simp only [z0, z1] at h; subst h
    refine s_val 11 rfl rfl (.agg (cdA (l.getD i zC))) (run_ldKC (HC.gro GG) _ rfl i rfl (by omega)) ?_
    refine nr ?_; intro U h; simp only [z0, z1] at h; subst h
    refine s_alloc 5 rfl rfl 33 rfl _ zeroC (cdA zC) rfl ?_
    intro w1 g1 G eg1 kg1
    have bg1 := size_base GG eg1
    have dHOg1 := HO.ne eg1
    replace HO := HO.gro G
    replace GG := GG.trans G
    clear G
    clear eg1
    refine nr ?_; intro U h; simp only [z0, z1] at h; subst h
    refine s_store rfl rfl 33 _ _ rfl g1 0 rfl (.agg (cdA (l.getD i zC))) rfl 33 _ kg1 (cdA (l.getD i zC)) rfl (siC' _) (cdA_fit _ _) (cdA_one _) (cdA (l.getD i zC)) (splice_whole _ _ (cdA_sz _ _)) ?_
    intro w2 St
    have kS := kg1
    replace HO := HO.st St dHOg1
    replace GG := GG.store St bg1
    replace kg1 := St.new
    clear St
    refine wpList_nil ?_
    refine then_n ?_
    refine wp_region_lit ?_
    refine s_val 12 rfl rfl (.slice no (l.take i).length nc) (rfl) ?_
    refine nr ?_; intro U h; simp only [z0, z1] at h; subst h
    refine s_val 13 rfl rfl (.pointer (some ⟨g1, 0, none⟩)) (run_fld 33 _ 0 rfl g1 0 rfl 0 (by kernel_rfl)) ?_
    refine nr ?_; intro U h; simp only [z0, z1] at h; subst h
    refine s_val 14 rfl rfl (.agg (idA (l.getD i zC).id)) (ldCi _ rfl g1 rfl (kg1)) ?_
    refine nr ?_; intro U h; simp only [z0, z1] at h; subst h
    refine s_val 15 rfl rfl (.pointer (some ⟨g1, 16, none⟩)) (run_fld 33 _ 1 rfl g1 0 rfl 16 (by kernel_rfl)) ?_
    refine nr ?_; intro U h; simp only [z0, z1] at h; subst h
    refine s_val 16 rfl rfl (.int .i64 (l.getD i zC).leg) (ldCl _ rfl g1 rfl (kg1)) ?_
    refine nr ?_; intro U h; simp only [z0, z1] at h; subst h
    refine s_val 17 rfl rfl (.pointer (some ⟨g1, 17, none⟩)) (run_fld 33 _ 2 rfl g1 0 rfl 17 (by kernel_rfl)) ?_
    refine nr ?_; intro U h; simp only [z0, z1] at h; subst h
    refine s_val 18 rfl rfl (.int .i64 (l.getD i zC).n) (ldCn _ rfl g1 rfl (kg1)) ?_
    refine nr ?_; intro U h; simp only [z0, z1] at h; subst h
    refine s_val 19 rfl rfl (.pointer (some ⟨g1, 18, none⟩)) (run_fld 33 _ 3 rfl g1 0 rfl 18 (by kernel_rfl)) ?_
    refine nr ?_; intro U h; simp only [z0, z1] at h; subst h
    refine s_val 20 rfl rfl (.agg (paA (l.getD i zC).p)) (ldCp _ rfl g1 rfl (kg1)) ?_
    refine nr ?_; intro U h; simp only [z0, z1] at h; subst h
    refine s_val 21 rfl rfl (.agg (cdA (mkC (l.getD i zC).id (l.getD i zC).leg (l.getD i zC).n (l.getD i zC).p))) (run_bd 40 _ rfl [(0, .agg (idA (l.getD i zC).id)), (1, .int .i64 (l.getD i zC).leg), (2, .int .i64 (l.getD i zC).n), (3, .agg (paA (l.getD i zC).p))] rfl _ (bdD0123 _ _ _ _ _)) ?_
    refine nr ?_; intro U h; simp only [z0, z1] at h; subst h
    refine s_bsl 22 rfl rfl 35 1 _ rfl [(0, .agg (cdA (mkC (l.getD i zC).id (l.getD i zC).leg (l.getD i zC).n (l.getD i zC).p)))] rfl ([(mkC (l.getD i zC).id (l.getD i zC).leg (l.getD i zC).n (l.getD i zC).p)].flatMap kC.E).toArray 40 (bsD (mkC (l.getD i zC).id (l.getD i zC).leg (l.getD i zC).n (l.getD i zC).p) _) ?_
    intro w3 q1 G eq1 kq1
    have bq1 := size_base GG eq1
    replace kg1 := G.has kg1
    replace HO := HO.gro G
    replace GG := GG.trans G
    clear G
    have HR1 : RK kC _ (some ⟨q1, 0, none⟩) 1 [(mkC (l.getD i zC).id (l.getD i zC).leg (l.getD i zC).n (l.getD i zC).p)] := RK.blk kq1 (one_all (atC HC hil)) (Nat.le_refl _)
    clear eq1
    refine nr ?_; intro U h; simp only [z0, z1] at h; subst h
    refine s_appK rD (by decide) 23 rfl rfl _ _ rfl rfl HO rfl HR1 (by rw [List.length_take]; simp; omega) GG.size ?_
    intro no2 nc2 w4 HO2z G2 _
    replace kg1 := G2.has kg1 (HO.own.ne kg1 (by decide))
    replace GG := G2.gro GG (fun k hk => HO.own.base k hk)
    clear G2 HO
    have HO := HO2z
    clear HO2z
    refine nr ?_; intro U h; simp only [z0, z1] at h; subst h
    refine s_val 3 rfl rfl (.slice no2 ((l.take i) ++ [(mkC (l.getD i zC).id (l.getD i zC).leg (l.getD i zC).n (l.getD i zC).p)]).length nc2) (rfl) ?_
    refine nr ?_; intro U h; simp only [z0, z1] at h; subst h
    refine wpList_nil ?_
    refine blk_n ?_
    refine then_n ?_
    refine wp_region_lit ?_
    refine s_val 24 rfl rfl (.int .i64 ((i + 1 : Nat) : Int)) (run_addI 3 _ _ _ rfl ((i : Nat) : Int) 1 ((i + 1 : Nat) : Int) rfl rfl (by omega) (by omega) (by omega) _) ?_
    refine nr ?_; intro U h; simp only [z0, z1] at h; subst h
    refine s_val 8 rfl rfl (.int .i64 ((i + 1 : Nat) : Int)) (rfl) ?_
    refine nr ?_; intro U h; simp only [z0, z1] at h; subst h
    refine wpList_nil ?_
    refine then_n ?_
    exact ⟨l.length + 1 - (i + 1), by omega, i + 1, no2, nc2, (fun kz => ([.pointer (some ⟨g1, 0, none⟩), .bool true, .pointer (pK kC ao i 0), .agg (cdA (l.getD i zC)), .slice no (l.take i).length nc, .pointer (some ⟨g1, 0, none⟩), .agg (idA (l.getD i zC).id), .pointer (some ⟨g1, 16, none⟩), .int .i64 (l.getD i zC).leg, .pointer (some ⟨g1, 17, none⟩), .int .i64 (l.getD i zC).n, .pointer (some ⟨g1, 18, none⟩), .agg (paA (l.getD i zC).p), .agg (cdA (mkC (l.getD i zC).id (l.getD i zC).leg (l.getD i zC).n (l.getD i zC).p)), .slice (some ⟨q1, 0, none⟩) 1 1, .slice no2 ((l.take i) ++ [(mkC (l.getD i zC).id (l.getD i zC).leg (l.getD i zC).n (l.getD i zC).p)]).length nc2, .int .i64 ((i + 1 : Nat) : Int)] : List Value).getD kz undef), rfl, by rw [take_at zC l i hil]; rfl, by omega, GG, by rw [take_at zC l i hil]; exact HO⟩
set_option maxRecDepth 100000 in
set_option maxHeartbeats 4000000 in
theorem rless_any (p q : Pa) (hp : p.ok) (hq : q.ok) (w : World) : Calls Try.prog 44 #[.agg (paA p), .agg (paA q)] w (fun e w' => e = .returned (.bool (lessB p q)) ∧ Gro w w') := by
  refine s_enter Try.func44 rfl Try.ntmps44 [.agg (paA p), .agg (paA q)] [.agg (paA p), .agg (paA q), undef, undef, undef, undef, undef, undef, undef, undef, undef, undef, undef, undef, undef, undef, undef, undef, undef, undef] rfl ?_
  have GG := Gro.refl w
  refine wp_seq ?_
  refine wp_region_lit ?_
  refine s_box 2 rfl rfl 31 _ rfl _ rfl (paA p) rfl ?_
  intro w1 g1 G eg1 kg1
  have bg1 := size_base GG eg1
  replace GG := GG.trans G
  clear G
  clear eg1
  refine nr ?_; intro U h; simp only [z0, z1] at h; subst h
  refine s_box 3 rfl rfl 31 _ rfl _ rfl (paA q) rfl ?_
  intro w2 g2 G eg2 kg2
  have bg2 := size_base GG eg2
  have dg1g2 := lt_new kg1 eg2
  replace kg1 := G.has kg1
  replace GG := GG.trans G
  clear G
  clear eg2
  refine nr ?_; intro U h; simp only [z0, z1] at h; subst h
  refine s_val 4 rfl rfl (.bool false) (rfl) ?_
  refine nr ?_; intro U h; simp only [z0, z1] at h; subst h
  refine wpList_nil ?_
  refine then_n ?_
  refine wp_seq ?_
  refine wp_seq ?_
  refine wp_region_lit ?_
  refine s_val 5 rfl rfl (.pointer (some ⟨g1, 0, none⟩)) (run_fld 31 _ 0 rfl g1 0 rfl 0 (by kernel_rfl)) ?_
  refine nr ?_; intro U h; simp only [z0, z1] at h; subst h
  refine s_val 6 rfl rfl (.agg (idA p.who)) (ldPw _ rfl g1 rfl (kg1)) ?_
  refine nr ?_; intro U h; simp only [z0, z1] at h; subst h
  refine s_val 7 rfl rfl (.pointer (some ⟨g2, 0, none⟩)) (run_fld 31 _ 0 rfl g2 0 rfl 0 (by kernel_rfl)) ?_
  refine nr ?_; intro U h; simp only [z0, z1] at h; subst h
  refine s_val 8 rfl rfl (.agg (idA q.who)) (ldPw _ rfl g2 rfl (kg2)) ?_
  refine nr ?_; intro U h; simp only [z0, z1] at h; subst h
  cases h1 : decide (p.who = q.who)
  · refine s_val 9 rfl rfl (.bool true) (run_neI _ _ _ rfl _ _ rfl rfl hp.who hq.who true h1) ?_
    refine nr ?_; intro U h; simp only [z0, z1] at h; subst h
    refine wpList_nil ?_
    refine then_n ?_
    refine wp_cond_true rfl ?_
    refine wp_seq ?_
    refine wp_region_lit ?_
    refine s_val 10 rfl rfl (.pointer (some ⟨g1, 0, none⟩)) (run_fld 31 _ 0 rfl g1 0 rfl 0 (by kernel_rfl)) ?_
    refine nr ?_; intro U h; simp only [z0, z1] at h; subst h
    refine s_val 11 rfl rfl (.agg (idA p.who)) (ldPw _ rfl g1 rfl (kg1)) ?_
    refine nr ?_; intro U h; simp only [z0, z1] at h; subst h
    refine s_val 12 rfl rfl (.pointer (some ⟨g2, 0, none⟩)) (run_fld 31 _ 0 rfl g2 0 rfl 0 (by kernel_rfl)) ?_
    refine nr ?_; intro U h; simp only [z0, z1] at h; subst h
    refine s_val 13 rfl rfl (.agg (idA q.who)) (ldPw _ rfl g2 rfl (kg2)) ?_
    refine nr ?_; intro U h; simp only [z0, z1] at h; subst h
    refine s_callv 14 rfl rfl _ 17 Try.call17 rfl rfl _ rfl [.agg (idA p.who), .agg (idA q.who)] rfl (less_any p.who q.who hp.who hq.who _) ?_
    intro w3 G
    replace kg1 := G.has kg1
    replace kg2 := G.has kg2
    replace GG := GG.trans G
    clear G
    refine nr ?_; intro U h; simp only [z0, z1] at h; subst h
    refine s_val 4 rfl rfl (.bool (decide (p.who < q.who))) (rfl) ?_
    refine nr ?_; intro U h; simp only [z0, z1] at h; subst h
    refine wpList_nil ?_
    refine then_n ?_
    refine wp_ret ?_
    refine then_r ?_
    refine bodyPost_ret (results_tmp Try.results44 _ _ _) rfl ?_
    refine ⟨congrArg (fun b => Ending.returned (.bool b)) ?_, GG⟩
    have h0 := of_decide_eq_false h1
    unfold lessB
    rw [decide_eq_decide, ky_lt hp hq]
    omega
  · refine s_val 9 rfl rfl (.bool false) (run_neI _ _ _ rfl _ _ rfl rfl hp.who hq.who false h1) ?_
    refine nr ?_; intro U h; simp only [z0, z1] at h; subst h
    refine wpList_nil ?_
    refine then_n ?_
    refine wp_cond_false rfl ?_
    refine wp_skip ?_
    refine then_n ?_
    refine wp_seq ?_
    refine wp_region_lit ?_
    refine s_val 15 rfl rfl (.pointer (some ⟨g1, 16, none⟩)) (run_fld 31 _ 1 rfl g1 0 rfl 16 (by kernel_rfl)) ?_
    refine nr ?_; intro U h; simp only [z0, z1] at h; subst h
    refine s_val 16 rfl rfl (.int .i64 p.n) (ldPn _ rfl g1 rfl (kg1)) ?_
    refine nr ?_; intro U h; simp only [z0, z1] at h; subst h
    refine s_val 17 rfl rfl (.pointer (some ⟨g2, 16, none⟩)) (run_fld 31 _ 1 rfl g2 0 rfl 16 (by kernel_rfl)) ?_
    refine nr ?_; intro U h; simp only [z0, z1] at h; subst h
    refine s_val 18 rfl rfl (.int .i64 q.n) (ldPn _ rfl g2 rfl (kg2)) ?_
    refine nr ?_; intro U h; simp only [z0, z1] at h; subst h
    cases h2 : decide (p.n < q.n)
    · refine s_val 19 rfl rfl (.bool false) (run_lssT 2 _ _ _ rfl p.n q.n rfl rfl false h2 _) ?_
      refine nr ?_; intro U h; simp only [z0, z1] at h; subst h
      refine s_val 4 rfl rfl (.bool false) (rfl) ?_
      refine nr ?_; intro U h; simp only [z0, z1] at h; subst h
      refine wpList_nil ?_
      refine then_n ?_
      refine wp_ret ?_
      refine bodyPost_ret (results_tmp Try.results44 _ _ _) rfl ?_
      refine ⟨congrArg (fun b => Ending.returned (.bool b)) ?_, GG⟩
      have h0 := of_decide_eq_true h1
      rw [← h2]
      unfold lessB
      rw [decide_eq_decide, ky_lt hp hq]
      omega
    · refine s_val 19 rfl rfl (.bool true) (run_lssT 2 _ _ _ rfl p.n q.n rfl rfl true h2 _) ?_
      refine nr ?_; intro U h; simp only [z0, z1] at h; subst h
      refine s_val 4 rfl rfl (.bool true) (rfl) ?_
      refine nr ?_; intro U h; simp only [z0, z1] at h; subst h
      refine wpList_nil ?_
      refine then_n ?_
      refine wp_ret ?_
      refine bodyPost_ret (results_tmp Try.results44 _ _ _) rfl ?_
      refine ⟨congrArg (fun b => Ending.returned (.bool b)) ?_, GG⟩
      have h0 := of_decide_eq_true h1
      rw [← h2]
      unfold lessB
      rw [decide_eq_decide, ky_lt hp hq]
      omega
set_option maxRecDepth 100000 in
set_option maxHeartbeats 4000000 in
theorem ahead_any (a b : Cd) (ha : a.ok) (hb : b.ok) (w : World) : Calls Try.prog 27 #[.agg (cdA a), .agg (cdA b)] w (fun e w' => e = .returned (.bool (ahd a b)) ∧ Gro w w') := by
  refine s_enter Try.func27 rfl Try.ntmps27 [.agg (cdA a), .agg (cdA b)] [.agg (cdA a), .agg (cdA b), undef, undef, undef, undef, undef, undef, undef, undef, undef, undef, undef, undef, undef, undef, undef, undef, undef, undef, undef, undef, undef, undef, undef, undef, undef, undef] rfl ?_
  have GG := Gro.refl w
  refine wp_seq ?_
  refine wp_region_lit ?_
  refine s_box 2 rfl rfl 40 _ rfl _ rfl (cdA a) rfl ?_
  intro w1 g1 G eg1 kg1
  have bg1 := size_base GG eg1
  replace GG := GG.trans G
  clear G
  clear eg1
  refine nr ?_; intro U h; simp only [z0, z1] at h; subst h
  refine s_box 3 rfl rfl 40 _ rfl _ rfl (cdA b) rfl ?_
  intro w2 g2 G eg2 kg2
  have bg2 := size_base GG eg2
  have dg1g2 := lt_new kg1 eg2
  replace kg1 := G.has kg1
  replace GG := GG.trans G
  clear G
  clear eg2
  refine nr ?_; intro U h; simp only [z0, z1] at h; subst h
  refine s_val 4 rfl rfl (.bool false) (rfl) ?_
  refine nr ?_; intro U h; simp only [z0, z1] at h; subst h
  refine wpList_nil ?_
  refine then_n ?_
  refine wp_seq ?_
  refine wp_seq ?_
  cases h1 : decide (a.leg = b.leg)
  · refine wp_region_lit ?_
    refine s_val 5 rfl rfl (.pointer (some ⟨g1, 16, none⟩)) (run_fld 40 _ 1 rfl g1 0 rfl 16 (by kernel_rfl)) ?_
    refine nr ?_; intro U h; simp only [z0, z1] at h; subst h
    refine s_val 6 rfl rfl (.int .i64 a.leg) (ldDl _ rfl g1 rfl (kg1)) ?_
    refine nr ?_; intro U h; simp only [z0, z1] at h; subst h
    refine s_val 7 rfl rfl (.pointer (some ⟨g2, 16, none⟩)) (run_fld 40 _ 1 rfl g2 0 rfl 16 (by kernel_rfl)) ?_
    refine nr ?_; intro U h; simp only [z0, z1] at h; subst h
    refine s_val 8 rfl rfl (.int .i64 b.leg) (ldDl _ rfl g2 rfl (kg2)) ?_
    refine nr ?_; intro U h; simp only [z0, z1] at h; subst h
    refine s_val 9 rfl rfl (.bool true) (run_neq_k 3 .i64 _ _ _ rfl Try.underlying3 a.leg b.leg rfl rfl true h1 _) ?_
    refine nr ?_; intro U h; simp only [z0, z1] at h; subst h
    refine wpList_nil ?_
    refine then_n ?_
    refine wp_cond_true rfl ?_
    refine wp_seq ?_
    refine wp_region_lit ?_
    refine s_val 10 rfl rfl (.pointer (some ⟨g1, 16, none⟩)) (run_fld 40 _ 1 rfl g1 0 rfl 16 (by kernel_rfl)) ?_
    refine nr ?_; intro U h; simp only [z0, z1] at h; subst h
    refine s_val 11 rfl rfl (.int .i64 a.leg) (ldDl _ rfl g1 rfl (kg1)) ?_
    refine nr ?_; intro U h; simp only [z0, z1] at h; subst h
    refine s_val 12 rfl rfl (.pointer (some ⟨g2, 16, none⟩)) (run_fld 40 _ 1 rfl g2 0 rfl 16 (by kernel_rfl)) ?_
    refine nr ?_; intro U h; simp only [z0, z1] at h; subst h
    refine s_val 13 rfl rfl (.int .i64 b.leg) (ldDl _ rfl g2 rfl (kg2)) ?_
    refine nr ?_; intro U h; simp only [z0, z1] at h; subst h
    refine s_val 14 rfl rfl (.bool (decide (a.leg < b.leg))) (run_lssT 3 _ _ _ rfl a.leg b.leg rfl rfl _ rfl _) ?_
    refine nr ?_; intro U h; simp only [z0, z1] at h; subst h
    refine s_val 4 rfl rfl (.bool (decide (a.leg < b.leg))) (rfl) ?_
    refine nr ?_; intro U h; simp only [z0, z1] at h; subst h
    refine wpList_nil ?_
    refine then_n ?_
    refine wp_ret ?_
    refine then_r ?_
    refine bodyPost_ret (results_tmp Try.results27 _ _ _) rfl ?_
    exact ⟨congrArg (fun b => Ending.returned (.bool b)) ((if_neg (of_decide_eq_false h1)).symm), GG⟩
  · refine wp_region_lit ?_
    refine s_val 5 rfl rfl (.pointer (some ⟨g1, 16, none⟩)) (run_fld 40 _ 1 rfl g1 0 rfl 16 (by kernel_rfl)) ?_
    refine nr ?_; intro U h; simp only [z0, z1] at h; subst h
    refine s_val 6 rfl rfl (.int .i64 a.leg) (ldDl _ rfl g1 rfl (kg1)) ?_
    refine nr ?_; intro U h; simp only [z0, z1] at h; subst h
    refine s_val 7 rfl rfl (.pointer (some ⟨g2, 16, none⟩)) (run_fld 40 _ 1 rfl g2 0 rfl 16 (by kernel_rfl)) ?_
    refine nr ?_; intro U h; simp only [z0, z1] at h; subst h
    refine s_val 8 rfl rfl (.int .i64 b.leg) (ldDl _ rfl g2 rfl (kg2)) ?_
    refine nr ?_; intro U h; simp only [z0, z1] at h; subst h
    refine s_val 9 rfl rfl (.bool false) (run_neq_k 3 .i64 _ _ _ rfl Try.underlying3 a.leg b.leg rfl rfl false h1 _) ?_
    refine nr ?_; intro U h; simp only [z0, z1] at h; subst h
    refine wpList_nil ?_
    refine then_n ?_
    refine wp_cond_false rfl ?_
    refine wp_skip ?_
    refine then_n ?_
    refine wp_seq ?_
    refine wp_seq ?_
    cases h2 : decide (a.leg = 1)
    · refine wp_region_lit ?_
      refine s_val 15 rfl rfl (.pointer (some ⟨g1, 16, none⟩)) (run_fld 40 _ 1 rfl g1 0 rfl 16 (by kernel_rfl)) ?_
      refine nr ?_; intro U h; simp only [z0, z1] at h; subst h
      refine s_val 16 rfl rfl (.int .i64 a.leg) (ldDl _ rfl g1 rfl (kg1)) ?_
      refine nr ?_; intro U h; simp only [z0, z1] at h; subst h
      refine s_val 17 rfl rfl (.bool false) (run_eq_k 3 .i64 _ _ _ rfl Try.underlying3 a.leg 1 rfl rfl false h2 _) ?_
      refine nr ?_; intro U h; simp only [z0, z1] at h; subst h
      refine wpList_nil ?_
      refine then_n ?_
      refine wp_cond_false rfl ?_
      refine wp_skip ?_
      refine then_n ?_
      refine wp_seq ?_
      refine wp_region_lit ?_
      refine s_val 23 rfl rfl (.pointer (some ⟨g1, 17, none⟩)) (run_fld 40 _ 2 rfl g1 0 rfl 17 (by kernel_rfl)) ?_
      refine nr ?_; intro U h; simp only [z0, z1] at h; subst h
      refine s_val 24 rfl rfl (.int .i64 a.n) (ldDn _ rfl g1 rfl (kg1)) ?_
      refine nr ?_; intro U h; simp only [z0, z1] at h; subst h
      refine s_val 25 rfl rfl (.pointer (some ⟨g2, 17, none⟩)) (run_fld 40 _ 2 rfl g2 0 rfl 17 (by kernel_rfl)) ?_
      refine nr ?_; intro U h; simp only [z0, z1] at h; subst h
      refine s_val 26 rfl rfl (.int .i64 b.n) (ldDn _ rfl g2 rfl (kg2)) ?_
      refine nr ?_; intro U h; simp only [z0, z1] at h; subst h
      refine s_val 27 rfl rfl (.bool (decide (a.n < b.n))) (run_lssT 3 _ _ _ rfl a.n b.n rfl rfl _ rfl _) ?_
      refine nr ?_; intro U h; simp only [z0, z1] at h; subst h
      refine s_val 4 rfl rfl (.bool (decide (a.n < b.n))) (rfl) ?_
      refine nr ?_; intro U h; simp only [z0, z1] at h; subst h
      refine wpList_nil ?_
      refine then_n ?_
      refine wp_ret ?_
      refine bodyPost_ret (results_tmp Try.results27 _ _ _) rfl ?_
      exact ⟨congrArg (fun b => Ending.returned (.bool b)) (((if_pos (of_decide_eq_true h1)).trans (if_neg (of_decide_eq_false h2))).symm), GG⟩
    · refine wp_region_lit ?_
      refine s_val 15 rfl rfl (.pointer (some ⟨g1, 16, none⟩)) (run_fld 40 _ 1 rfl g1 0 rfl 16 (by kernel_rfl)) ?_
      refine nr ?_; intro U h; simp only [z0, z1] at h; subst h
      refine s_val 16 rfl rfl (.int .i64 a.leg) (ldDl _ rfl g1 rfl (kg1)) ?_
      refine nr ?_; intro U h; simp only [z0, z1] at h; subst h
      refine s_val 17 rfl rfl (.bool true) (run_eq_k 3 .i64 _ _ _ rfl Try.underlying3 a.leg 1 rfl rfl true h2 _) ?_
      refine nr ?_; intro U h; simp only [z0, z1] at h; subst h
      refine wpList_nil ?_
      refine then_n ?_
      refine wp_cond_true rfl ?_
      refine wp_seq ?_
      refine wp_region_lit ?_
      refine s_val 18 rfl rfl (.pointer (some ⟨g1, 18, none⟩)) (run_fld 40 _ 3 rfl g1 0 rfl 18 (by kernel_rfl)) ?_
      refine nr ?_; intro U h; simp only [z0, z1] at h; subst h
      refine s_val 19 rfl rfl (.agg (paA a.p)) (ldDp _ rfl g1 rfl (kg1)) ?_
      refine nr ?_; intro U h; simp only [z0, z1] at h; subst h
      refine s_val 20 rfl rfl (.pointer (some ⟨g2, 18, none⟩)) (run_fld 40 _ 3 rfl g2 0 rfl 18 (by kernel_rfl)) ?_
      refine nr ?_; intro U h; simp only [z0, z1] at h; subst h
      refine s_val 21 rfl rfl (.agg (paA b.p)) (ldDp _ rfl g2 rfl (kg2)) ?_
      refine nr ?_; intro U h; simp only [z0, z1] at h; subst h
      refine s_callv 22 rfl rfl _ 44 Try.call44 rfl rfl _ rfl [.agg (paA a.p), .agg (paA b.p)] rfl (rless_any a.p b.p ha.p hb.p _) ?_
      intro w3 G
      replace kg1 := G.has kg1
      replace kg2 := G.has kg2
      replace GG := GG.trans G
      clear G
      refine nr ?_; intro U h; simp only [z0, z1] at h; subst h
      refine s_val 4 rfl rfl (.bool (lessB a.p b.p)) (rfl) ?_
      refine nr ?_; intro U h; simp only [z0, z1] at h; subst h
      refine wpList_nil ?_
      refine then_n ?_
      refine wp_ret ?_
      refine then_r ?_
      refine bodyPost_ret (results_tmp Try.results27 _ _ _) rfl ?_
      exact ⟨congrArg (fun b => Ending.returned (.bool b)) (((if_pos (of_decide_eq_true h1)).trans (if_pos (of_decide_eq_true h2))).symm), GG⟩
def askP (s : Nat) (fr : List Nat) (l : List Cd) (half : Int) (i : Nat) : List Cd := (((want s (allC fr l) half).take i).filter fun x => !fr.contains x).map fun x => (bstC x l).getD zC
theorem askP_step (s : Nat) (fr : List Nat) (l : List Cd) (half : Int) (i : Nat) (hi : i < (want s (allC fr l) half).length) : askP s fr l half (i + 1) = askP s fr l half i ++ if (want s (allC fr l) half).getD i 0 ∈ fr then [] else [(bstC ((want s (allC fr l) half).getD i 0) l).getD zC] := by
  unfold askP
  rw [take_at 0 _ i hi, List.filter_append, List.map_append]
  congr 1
  by_cases h : (want s (allC fr l) half).getD i 0 ∈ fr
  · rw [if_pos h, List.filter_cons, if_neg (by rw [List.contains_iff_mem.2 h]; decide)]; rfl
  · rw [if_neg h, List.filter_cons, if_pos (by simpa using h)]; rfl
theorem askP_len (s : Nat) (fr : List Nat) (l : List Cd) (half : Int) (i : Nat) : (askP s fr l half i).length ≤ (want s (allC fr l) half).length := by
  unfold askP
  rw [List.length_map]
  exact Nat.le_trans (List.length_filter_le _ _) (by rw [List.length_take]; omega)
theorem askP_all (s : Nat) (fr : List Nat) (l : List Cd) (half : Int) : askP s fr l half (want s (allC fr l) half).length = askC s fr l half := by
  unfold askP askC askI
  rw [List.take_length]
/-- Which one was found: its place, or none. -/
def AtC (x : Nat) (l : List Cd) (k : Nat) (t : Int) : Prop := (t = -1 ∧ bstC x (l.take k) = none) ∨ ∃ a : Nat, t = (a : Int) ∧ a < k ∧ a < l.length ∧ bstC x (l.take k) = some (l.getD a zC)
theorem AtC.no {x : Nat} {l : List Cd} {k : Nat} {t : Int} (h : AtC x l k t) (hk : k < l.length) (hx : (l.getD k zC).id ≠ x) : AtC x l (k + 1) t := by
  have e : bstC x (l.take (k + 1)) = bstC x (l.take k) := by rw [take_at zC l k hk, bstC_step]; unfold bstS; rw [if_neg hx]
  rcases h with ⟨h1, h2⟩ | ⟨a, h1, h2, h3, h4⟩
  · exact .inl ⟨h1, e.trans h2⟩
  · exact .inr ⟨a, h1, by omega, h3, e.trans h4⟩
theorem AtC.first {x : Nat} {l : List Cd} {k : Nat} {t : Int} (h : AtC x l k t) (hk : k < l.length) (hx : (l.getD k zC).id = x) (ht : t < 0) : AtC x l (k + 1) (k : Int) := by
  rcases h with ⟨h1, h2⟩ | ⟨a, h1, _⟩
  · refine .inr ⟨k, rfl, by omega, hk, ?_⟩
    rw [take_at zC l k hk, bstC_step, h2]
    unfold bstS
    rw [if_pos hx]
  · omega
theorem AtC.some {x : Nat} {l : List Cd} {k : Nat} {t : Int} (h : AtC x l k t) (ht : ¬ t < 0) : ∃ a : Nat, t = (a : Int) ∧ a < k ∧ a < l.length ∧ bstC x (l.take k) = some (l.getD a zC) := by
  rcases h with ⟨h1, _⟩ | h
  · omega
  · exact h
theorem AtC.yes {x : Nat} {l : List Cd} {k a : Nat} (hk : k < l.length) (hx : (l.getD k zC).id = x) (hb : bstC x (l.take k) = Option.some (l.getD a zC)) (ha : ahd (l.getD k zC) (l.getD a zC) = true) : AtC x l (k + 1) (k : Int) := by
  refine .inr ⟨k, rfl, by omega, hk, ?_⟩
  rw [take_at zC l k hk, bstC_step, hb]
  unfold bstS
  rw [if_pos hx]
  simp only
  rw [if_pos ha]
theorem AtC.stay {x : Nat} {l : List Cd} {k a : Nat} {t : Int} (hk : k < l.length) (hx : (l.getD k zC).id = x) (ht : t = (a : Int)) (hak : a < k) (hb : bstC x (l.take k) = Option.some (l.getD a zC)) (ha : ahd (l.getD k zC) (l.getD a zC) = false) : AtC x l (k + 1) t := by
  refine .inr ⟨a, ht, by omega, by omega, ?_⟩
  rw [take_at zC l k hk, bstC_step, hb]
  unfold bstS
  rw [if_pos hx]
  simp only
  rw [if_neg (by rw [ha]; decide)]
set_option maxRecDepth 100000 in
set_option maxHeartbeats 4000000 in
theorem refasks_any (w : World) (s : Nat) (hs : s < top) (half : Int) (fo : Option Addr) (fc : Nat) (fr : List Nat) (HF : RK kI w fo fc fr) (hf : fr.length ≤ 100) (ao : Option Addr) (cap : Nat) (l : List Cd) (HC : RK kC w ao cap l) (hl : l.length ≤ 100) : Calls Try.prog 12 #[.agg (idA s), .slice fo fr.length fc, .slice ao l.length cap, .int .i64 half] w (RowK kC 40 w (askC s fr l half)) := by
  refine s_enter Try.func12 rfl Try.ntmps12 [.agg (idA s), .slice fo fr.length fc, .slice ao l.length cap, .int .i64 half] [.agg (idA s), .slice fo fr.length fc, .slice ao l.length cap, .int .i64 half, undef, undef, undef, undef, undef, undef, undef, undef, undef, undef, undef, undef, undef, undef, undef, undef, undef, undef, undef, undef, undef, undef, undef, undef, undef, undef, undef, undef, undef, undef, undef, undef, undef, undef, undef, undef, undef, undef, undef, undef, undef, undef, undef, undef, undef, undef, undef, undef, undef, undef, undef, undef, undef, undef, undef, undef, undef, undef, undef, undef, undef, undef, undef, undef, undef, undef, undef, undef, undef, undef, undef, undef, undef, undef, undef, undef, undef, undef, undef, undef, undef, undef, undef, undef, undef] rfl ?_
  have GG := Gro.refl w
  refine wp_seq ?_
  refine wp_region_lit ?_
  refine s_box 4 rfl rfl 23 _ rfl _ rfl (idA s) rfl ?_
  intro w1 g1 G eg1 kg1
  have bg1 := size_base GG eg1
  replace GG := GG.trans G
  clear G
  clear eg1
  refine nr ?_; intro U h; simp only [z0, z1] at h; subst h
  refine s_val 8 rfl rfl (.slice none 0 0) (rfl) ?_
  refine nr ?_; intro U h; simp only [z0, z1] at h; subst h
  refine wpList_nil ?_
  refine then_n ?_
  refine wp_seq ?_
  refine wp_region_lit ?_
  obtain ⟨B0, hB0e⟩ : ∃ B0, w1.heap.size = B0 := ⟨_, rfl⟩
  have hB0 : w.heap.size ≤ B0 := hB0e ▸ GG.size
  have hgB : g1 < B0 := hB0e ▸ lt_of_heap kg1
  refine s_bsl 16 rfl rfl 24 0 _ rfl [] rfl (([] : List Nat).flatMap kI.E).toArray 23 (bsI0 _) ?_
  intro w2 q0 G eq0 kq0
  have hBw : B0 ≤ _ := hB0e ▸ G.size
  replace kg1 := G.has kg1
  replace GG := GG.trans G
  clear G
  have HO : OW kI 23 _ B0 (some ⟨q0, 0, none⟩) 0 [] := OW.blk kq0 (fun _ h => by cases h) (by omega) (by decide)
  clear eq0 kq0
  refine nr ?_; intro U h; simp only [z0, z1] at h; subst h
  refine s_val 17 rfl rfl (.slice fo fr.length fc) (rfl) ?_
  refine nr ?_; intro U h; simp only [z0, z1] at h; subst h
  refine s_appK rIk (by decide) 18 rfl rfl _ _ rfl rfl HO rfl (HF.gro GG) (by simp; omega) hBw ?_
  intro no0 nc0 w3 HO2 G2 _
  replace kg1 := G2.has kg1 (fun hm => by have := HO.own.base _ hm; omega)
  replace hBw := Nat.le_trans hBw G2.size
  replace GG := G2.gro GG (fun k hk => Nat.le_trans hB0 (HO.own.base k hk))
  clear G2 HO
  have HO := HO2
  clear HO2
  simp only [List.nil_append] at HO ⊢
  refine nr ?_; intro U h; simp only [z0, z1] at h; subst h
  refine s_val 9 rfl rfl (.slice no0 fr.length nc0) (rfl) ?_
  refine nr ?_; intro U h; simp only [z0, z1] at h; subst h
  refine wpList_nil ?_
  refine then_n ?_
  refine wp_seq ?_
  refine wp_seq ?_
  refine wp_region_lit ?_
  refine s_val 10 rfl rfl (.int .i64 0) (rfl) ?_
  refine nr ?_; intro U h; simp only [z0, z1] at h; subst h
  refine wpList_nil ?_
  refine then_n ?_
  refine wp_block ?_
  refine wp_loopN (fun mz az wv => ∃ (i : Nat) (no : Option Addr) (nc : Nat) (us1 : Nat → Value), mz = l.length + 1 - i ∧ az = ⟨[.agg (idA s), .slice fo fr.length fc, .slice ao l.length cap, .int .i64 half, .pointer (some ⟨g1, 0, none⟩), undef, undef, undef, .slice none 0 0, .slice no (fr.length + i) nc, .int .i64 ((i : Nat) : Int), undef, undef, undef, undef, undef, .slice (some ⟨q0, 0, none⟩) 0 0, .slice fo fr.length fc, .slice no0 fr.length nc0, us1 0, us1 1, us1 2, us1 3, us1 4, us1 5, us1 6, us1 7, us1 8, us1 9, us1 10, us1 11, us1 12, us1 13, undef, undef, undef, undef, undef, undef, undef, undef, undef, undef, undef, undef, undef, undef, undef, undef, undef, undef, undef, undef, undef, undef, undef, undef, undef, undef, undef, undef, undef, undef, undef, undef, undef, undef, undef, undef, undef, undef, undef, undef, undef, undef, undef, undef, undef, undef, undef, undef, undef, undef, undef, undef, undef, undef, undef, undef].toArray, []⟩ ∧ i ≤ l.length ∧ Gro w wv ∧ wv.heap[g1]? = some (.cells (idA s) 23 (0, 0)) ∧ g1 < B0 ∧ OW kI 23 wv B0 no nc (fr ++ ids (l.take i)) ∧ w.heap.size ≤ B0 ∧ B0 ≤ wv.heap.size) ?_ _ ⟨0, no0, nc0, (fun kz => ([undef, undef, undef, undef, undef, undef, undef, undef, undef, undef, undef, undef, undef, undef] : List Value).getD kz undef), rfl, rfl, Nat.zero_le _, GG, kg1, hgB, by simp only [List.take_zero, ids, List.map_nil, List.append_nil]; exact HO, hB0, hBw⟩
  clear GG kg1 HO
  rintro mz az wv ⟨i, no, nc, us1, rfl, rfl, hi, GG, kg1, hgB, HO, hB0, hBw⟩
  refine wp_seq ?_
  refine wp_seq ?_
  refine wp_region_lit ?_
  refine s_val 19 rfl rfl (.int .i64 ((i : Nat) : Int)) (rfl) ?_
  refine nr ?_; intro U h; simp only [z0, z1] at h; subst h
  refine s_val 20 rfl rfl (.slice ao l.length cap) (rfl) ?_
  refine nr ?_; intro U h; simp only [z0, z1] at h; subst h
  refine s_val 21 rfl rfl (.int .i64 ((l.length : Nat) : Int)) (run_len Try.underlying35 _ rfl _ _ _ rfl _) ?_
  refine nr ?_; intro U h; simp only [z0, z1] at h; subst h
  cases hi1 : decide (((i : Nat) : Int) < ((l.length : Nat) : Int))
  · have hie : i = l.length := by have := of_decide_eq_false hi1; omega
    refine s_val 22 rfl rfl (.bool false) (run_lssT 3 _ _ _ rfl ((i : Nat) : Int) ((l.length : Nat) : Int) rfl rfl false hi1 _) ?_
    refine nr ?_; intro U h; simp only [z0, z1] at h; subst h
    refine wpList_nil ?_
    refine then_n ?_
    refine wp_cond_false rfl ?_
    refine wp_exit ?_
    refine then_x ?_
    refine then_x ?_
    refine blk_x ?_
    refine then_n ?_
    refine wp_seq ?_
    refine wp_region_lit ?_
    refine s_val 33 rfl rfl (.agg (idA s)) (ldI0 _ rfl g1 rfl (kg1)) ?_
    refine nr ?_; intro U h; simp only [z0, z1] at h; subst h
    refine s_val 34 rfl rfl (.slice no (fr.length + i) nc) (rfl) ?_
    refine nr ?_; intro U h; simp only [z0, z1] at h; subst h
    refine s_val 35 rfl rfl (.int .i64 half) (rfl) ?_
    refine nr ?_; intro U h; simp only [z0, z1] at h; subst h
    rw [hie, List.take_length] at HO
    have hAL : (allC fr l).length = fr.length + l.length := by simp [allC, ids]
    refine s_callx 36 rfl rfl _ 15 Try.call15 rfl rfl _ rfl [.agg (idA s), .slice no (fr.length + i) nc, .int .i64 half] rfl (by have h_ := refwantK _ no nc (allC fr l) HO.re (by rw [hAL]; omega) s hs half; rw [hAL, ← hie] at h_; exact h_) (by rintro _ _ ⟨_, _, he, _⟩; exact ⟨_, he⟩) ?_
    rintro v w4 ⟨mo, mc, he, G, HM⟩
    cases he
    clear HO
    replace kg1 := G.has kg1
    replace GG := GG.trans G
    clear G
    refine nr ?_; intro U h; simp only [z0, z1] at h; subst h
    refine s_val 11 rfl rfl (.slice mo (want s (allC fr l) half).length mc) (rfl) ?_
    refine nr ?_; intro U h; simp only [z0, z1] at h; subst h
    refine wpList_nil ?_
    refine then_n ?_
    refine wp_seq ?_
    refine wp_region_lit ?_
    refine s_val 12 rfl rfl (.slice none 0 0) (rfl) ?_
    refine nr ?_; intro U h; simp only [z0, z1] at h; subst h
    refine wpList_nil ?_
    refine then_n ?_
    refine wp_seq ?_
    refine wp_seq ?_
    refine wp_region_lit ?_
    refine s_val 13 rfl rfl (.int .i64 0) (rfl) ?_
    refine nr ?_; intro U h; simp only [z0, z1] at h; subst h
    refine wpList_nil ?_
    refine then_n ?_
    refine wp_block ?_
    obtain ⟨B, hB⟩ : ∃ B, w4.heap.size = B := ⟨_, rfl⟩
    have hwB : w.heap.size ≤ B := hB ▸ GG.size
    have hMB : ∀ ad, mo = some ad → 0 < ((want s (allC fr l) half).flatMap kI.E).length → ad.block < B := hB ▸ HM.lt
    have hWL := want_len s (allC fr l) half
    clear hBw
    refine wp_loopN (fun mz az wv => ∃ (j : Nat) (po : Option Addr) (pc : Nat) (us2 : Nat → Value), mz = (want s (allC fr l) half).length + 1 - j ∧ az = ⟨[.agg (idA s), .slice fo fr.length fc, .slice ao l.length cap, .int .i64 half, .pointer (some ⟨g1, 0, none⟩), undef, undef, undef, .slice none 0 0, .slice no (fr.length + i) nc, .int .i64 ((i : Nat) : Int), .slice mo (want s (allC fr l) half).length mc, .slice po (askP s fr l half j).length pc, .int .i64 ((j : Nat) : Int), us2 0, us2 1, .slice (some ⟨q0, 0, none⟩) 0 0, .slice fo fr.length fc, .slice no0 fr.length nc0, .int .i64 ((i : Nat) : Int), .slice ao l.length cap, .int .i64 ((l.length : Nat) : Int), .bool false, us1 4, us1 5, us1 6, us1 7, us1 8, us1 9, us1 10, us1 11, us1 12, us1 13, .agg (idA s), .slice no (fr.length + i) nc, .int .i64 half, .slice mo (want s (allC fr l) half).length mc, us2 2, us2 3, us2 4, us2 5, us2 6, us2 7, us2 8, us2 9, us2 10, us2 11, us2 12, us2 13, us2 14, us2 15, us2 16, us2 17, us2 18, us2 19, us2 20, us2 21, us2 22, us2 23, us2 24, us2 25, us2 26, us2 27, us2 28, us2 29, us2 30, us2 31, us2 32, us2 33, us2 34, us2 35, us2 36, us2 37, us2 38, us2 39, us2 40, us2 41, us2 42, us2 43, us2 44, us2 45, us2 46, us2 47, us2 48, us2 49, us2 50, us2 51, us2 52, undef].toArray, []⟩ ∧ j ≤ (want s (allC fr l) half).length ∧ Gro w wv ∧ B ≤ wv.heap.size ∧ RK kI wv mo mc (want s (allC fr l) half) ∧ OW kC 40 wv B po pc (askP s fr l half j)) ?_ _ ⟨0, none, 0, (fun kz => ([undef, undef, undef, undef, undef, undef, undef, undef, undef, undef, undef, undef, undef, undef, undef, undef, undef, undef, undef, undef, undef, undef, undef, undef, undef, undef, undef, undef, undef, undef, undef, undef, undef, undef, undef, undef, undef, undef, undef, undef, undef, undef, undef, undef, undef, undef, undef, undef, undef, undef, undef, undef, undef] : List Value).getD kz undef), rfl, rfl, Nat.zero_le _, GG, Nat.le_of_eq hB.symm, HM, OW.nil _ _⟩
    clear GG HM
    rintro mz az wv ⟨j, po, pc, us2, rfl, rfl, hj, GG, hBw, HM, HO⟩
    refine wp_seq ?_
    refine wp_seq ?_
    refine wp_region_lit ?_
    refine s_val 37 rfl rfl (.int .i64 ((j : Nat) : Int)) (rfl) ?_
    refine nr ?_; intro U h; simp only [z0, z1] at h; subst h
    refine s_val 38 rfl rfl (.slice mo (want s (allC fr l) half).length mc) (rfl) ?_
    refine nr ?_; intro U h; simp only [z0, z1] at h; subst h
    refine s_val 39 rfl rfl (.int .i64 (((want s (allC fr l) half).length : Nat) : Int)) (run_len Try.underlying24 _ rfl _ _ _ rfl _) ?_
    refine nr ?_; intro U h; simp only [z0, z1] at h; subst h
    cases hj1 : decide (((j : Nat) : Int) < (((want s (allC fr l) half).length : Nat) : Int))
    · have hje : j = (want s (allC fr l) half).length := by have := of_decide_eq_false hj1; omega
      refine s_val 40 rfl rfl (.bool false) (run_lssT 3 _ _ _ rfl ((j : Nat) : Int) (((want s (allC fr l) half).length : Nat) : Int) rfl rfl false hj1 _) ?_
      refine nr ?_; intro U h; simp only [z0, z1] at h; subst h
      refine wpList_nil ?_
      refine then_n ?_
      refine wp_cond_false rfl ?_
      refine wp_exit ?_
      refine then_x ?_
      refine then_x ?_
      refine blk_x ?_
      refine then_n ?_
      refine wp_seq ?_
      refine wp_region_lit ?_
      refine s_val 88 rfl rfl (.slice po (askP s fr l half j).length pc) (rfl) ?_
      refine nr ?_; intro U h; simp only [z0, z1] at h; subst h
      refine s_val 8 rfl rfl (.slice po (askP s fr l half j).length pc) (rfl) ?_
      refine nr ?_; intro U h; simp only [z0, z1] at h; subst h
      refine wpList_nil ?_
      refine then_n ?_
      refine wp_ret ?_
      refine bodyPost_ret (results_tmp Try.results12 _ _ _) rfl ?_
      rw [hje, askP_all] at HO
      exact ⟨po, pc, by rw [hje, askP_all]; rfl, GG, HO.mono hwB⟩
    · have hjl : j < (want s (allC fr l) half).length := by have := of_decide_eq_true hj1; omega
      refine s_val 40 rfl rfl (.bool true) (run_lssT 3 _ _ _ rfl ((j : Nat) : Int) (((want s (allC fr l) half).length : Nat) : Int) rfl rfl true hj1 _) ?_
      refine nr ?_; intro U h; simp only [z0, z1] at h; subst h
      refine wpList_nil ?_
      refine then_n ?_
      refine wp_cond_true rfl ?_
      refine wp_skip ?_
      refine then_n ?_
      refine wp_seq ?_
      refine wp_block ?_
      refine wp_seq ?_
      refine wp_seq ?_
      cases hh : decide (((want s (allC fr l) half).getD j 0) ∈ fr)
      · refine wp_region_lit ?_
        refine s_val 43 rfl rfl (.slice fo fr.length fc) (rfl) ?_
        refine nr ?_; intro U h; simp only [z0, z1] at h; subst h
        refine s_val 44 rfl rfl (.slice mo (want s (allC fr l) half).length mc) (rfl) ?_
        refine nr ?_; intro U h; simp only [z0, z1] at h; subst h
        refine s_val 45 rfl rfl (.int .i64 ((j : Nat) : Int)) (rfl) ?_
        refine nr ?_; intro U h; simp only [z0, z1] at h; subst h
        refine s_val 46 rfl rfl (.pointer (pK kI mo j 0)) (run_ixK rIk (HM) _ _ rfl rfl j rfl (by omega)) ?_
        refine nr ?_; intro U h; simp only [z0, z1] at h; subst h
        refine s_val 47 rfl rfl (.agg (idA ((want s (allC fr l) half).getD j 0))) (run_ldKI (HM) _ rfl j rfl (by omega)) ?_
        refine nr ?_; intro U h; simp only [z0, z1] at h; subst h
        refine s_callv 48 rfl rfl _ 16 Try.call16 rfl rfl _ rfl [.slice fo fr.length fc, .agg (idA ((want s (allC fr l) half).getD j 0))] rfl (Calls.bool (refhasK _ fo fc fr (HF.gro GG) (by omega) ((want s (allC fr l) half).getD j 0) (atI HM hjl)) hh) ?_
        intro w5 G
        replace hBw := Nat.le_trans hBw G.size
        replace HM := HM.gro G
        replace HO := HO.gro G
        replace GG := GG.trans G
        clear G
        refine nr ?_; intro U h; simp only [z0, z1] at h; subst h
        refine wpList_nil ?_
        refine then_n ?_
        refine wp_cond_false rfl ?_
        refine wp_skip ?_
        refine then_n ?_
        refine wp_seq ?_
        refine wp_region_lit ?_
        refine s_val 14 rfl rfl (.int .i64 (-1)) (rfl) ?_
        refine nr ?_; intro U h; simp only [z0, z1] at h; subst h
        refine wpList_nil ?_
        refine then_n ?_
        refine wp_seq ?_
        refine wp_seq ?_
        refine wp_region_lit ?_
        refine s_val 15 rfl rfl (.int .i64 0) (rfl) ?_
        refine nr ?_; intro U h; simp only [z0, z1] at h; subst h
        refine wpList_nil ?_
        refine then_n ?_
        refine wp_block ?_
        refine wp_loopN (fun mz az wv => ∃ (k : Nat) (t : Int) (us3 : Nat → Value), mz = l.length + 1 - k ∧ az = ⟨[.agg (idA s), .slice fo fr.length fc, .slice ao l.length cap, .int .i64 half, .pointer (some ⟨g1, 0, none⟩), undef, undef, undef, .slice none 0 0, .slice no (fr.length + i) nc, .int .i64 ((i : Nat) : Int), .slice mo (want s (allC fr l) half).length mc, .slice po (askP s fr l half j).length pc, .int .i64 ((j : Nat) : Int), .int .i64 t, .int .i64 ((k : Nat) : Int), .slice (some ⟨q0, 0, none⟩) 0 0, .slice fo fr.length fc, .slice no0 fr.length nc0, .int .i64 ((i : Nat) : Int), .slice ao l.length cap, .int .i64 ((l.length : Nat) : Int), .bool false, us1 4, us1 5, us1 6, us1 7, us1 8, us1 9, us1 10, us1 11, us1 12, us1 13, .agg (idA s), .slice no (fr.length + i) nc, .int .i64 half, .slice mo (want s (allC fr l) half).length mc, .int .i64 ((j : Nat) : Int), .slice mo (want s (allC fr l) half).length mc, .int .i64 (((want s (allC fr l) half).length : Nat) : Int), .bool true, us2 6, us2 7, .slice fo fr.length fc, .slice mo (want s (allC fr l) half).length mc, .int .i64 ((j : Nat) : Int), .pointer (pK kI mo j 0), .agg (idA ((want s (allC fr l) half).getD j 0)), .bool false, us3 0, us3 1, us3 2, us3 3, us3 4, us3 5, us3 6, us3 7, us3 8, us3 9, us3 10, us3 11, us3 12, us3 13, us3 14, us3 15, us3 16, us3 17, us3 18, us3 19, us3 20, us3 21, us3 22, us3 23, us3 24, us3 25, us3 26, us3 27, us3 28, us3 29, us3 30, us3 31, us2 46, us2 47, us2 48, us2 49, us2 50, us2 51, us2 52, undef].toArray, []⟩ ∧ k ≤ l.length ∧ AtC ((want s (allC fr l) half).getD j 0) l k t ∧ Gro w wv ∧ B ≤ wv.heap.size ∧ RK kI wv mo mc (want s (allC fr l) half) ∧ OW kC 40 wv B po pc (askP s fr l half j)) ?_ _ ⟨0, (-1), (fun kz => ([us2 14, us2 15, us2 16, us2 17, us2 18, us2 19, us2 20, us2 21, us2 22, us2 23, us2 24, us2 25, us2 26, us2 27, us2 28, us2 29, us2 30, us2 31, us2 32, us2 33, us2 34, us2 35, us2 36, us2 37, us2 38, us2 39, us2 40, us2 41, us2 42, us2 43, us2 44, us2 45] : List Value).getD kz undef), rfl, rfl, Nat.zero_le _, .inl ⟨rfl, rfl⟩, GG, hBw, HM, HO⟩
        clear GG HM HO
        rintro mz az wv ⟨k, t, us3, rfl, rfl, hk, hat, GG, hBw, HM, HO⟩
        refine wp_seq ?_
        refine wp_seq ?_
        refine wp_region_lit ?_
        refine s_val 49 rfl rfl (.int .i64 ((k : Nat) : Int)) (rfl) ?_
        refine nr ?_; intro U h; simp only [z0, z1] at h; subst h
        refine s_val 50 rfl rfl (.slice ao l.length cap) (rfl) ?_
        refine nr ?_; intro U h; simp only [z0, z1] at h; subst h
        refine s_val 51 rfl rfl (.int .i64 ((l.length : Nat) : Int)) (run_len Try.underlying35 _ rfl _ _ _ rfl _) ?_
        refine nr ?_; intro U h; simp only [z0, z1] at h; subst h
        cases hk1 : decide (((k : Nat) : Int) < ((l.length : Nat) : Int))
        · have hke : k = l.length := by have := of_decide_eq_false hk1; omega
          refine s_val 52 rfl rfl (.bool false) (run_lssT 3 _ _ _ rfl ((k : Nat) : Int) ((l.length : Nat) : Int) rfl rfl false hk1 _) ?_
          refine nr ?_; intro U h; simp only [z0, z1] at h; subst h
          refine wpList_nil ?_
          refine then_n ?_
          refine wp_cond_false rfl ?_
          refine wp_exit ?_
          refine then_x ?_
          refine then_x ?_
          refine blk_x ?_
          refine then_n ?_
          have hxm : ((want s (allC fr l) half).getD j 0) ∈ askI s fr l half := List.mem_filter.2 ⟨getD_in 0 hjl, by simpa using of_decide_eq_false hh⟩
          obtain ⟨bc, hb1, _⟩ := bstC_some (askI_mem HF.all HC.all hxm).2.2.2
          rw [hke] at hat
          obtain ⟨a, hae, _, hal, hba⟩ : ∃ a : Nat, t = (a : Int) ∧ a < l.length ∧ a < l.length ∧ bstC ((want s (allC fr l) half).getD j 0) (l.take l.length) = some (l.getD a zC) := by
            rcases hat with ⟨_, h2⟩ | h
            · rw [List.take_length, hb1] at h2; cases h2
            · exact h
          rw [List.take_length] at hba
          have hbc : (bstC ((want s (allC fr l) half).getD j 0) l).getD zC = l.getD a zC := by rw [hba]; rfl
          refine wp_region_lit ?_
          refine s_val 81 rfl rfl (.slice po (askP s fr l half j).length pc) (rfl) ?_
          refine nr ?_; intro U h; simp only [z0, z1] at h; subst h
          refine s_val 82 rfl rfl (.slice ao l.length cap) (rfl) ?_
          refine nr ?_; intro U h; simp only [z0, z1] at h; subst h
          refine s_val 83 rfl rfl (.int .i64 t) (rfl) ?_
          refine nr ?_; intro U h; simp only [z0, z1] at h; subst h
          refine s_val 84 rfl rfl (.pointer (pK kC ao a 0)) (run_ixK rD (HC.gro GG) _ _ rfl rfl a (by exact congrArg (Value.int .i64) hae) (by omega)) ?_
          refine nr ?_; intro U h; simp only [z0, z1] at h; subst h
          refine s_val 85 rfl rfl (.agg (cdA (l.getD a zC))) (run_ldKD (HC.gro GG) _ rfl a rfl (by omega)) ?_
          refine nr ?_; intro U h; simp only [z0, z1] at h; subst h
          refine s_bsl 86 rfl rfl 35 1 _ rfl [(0, .agg (cdA (l.getD a zC)))] rfl ([(l.getD a zC)].flatMap kC.E).toArray 40 (bsD (l.getD a zC) _) ?_
          intro w6 q1 G eq1 kq1
          have bq1 := size_base GG eq1
          replace hBw := Nat.le_trans hBw G.size
          replace HM := HM.gro G
          replace HO := HO.gro G
          replace GG := GG.trans G
          clear G
          have HR1 : RK kC _ (some ⟨q1, 0, none⟩) 1 [(l.getD a zC)] := RK.blk kq1 (one_all (atC HC hal)) (Nat.le_refl _)
          clear eq1
          refine nr ?_; intro U h; simp only [z0, z1] at h; subst h
          refine s_appK rD (by decide) 87 rfl rfl _ _ rfl rfl HO rfl HR1 (by have := askP_len s fr l half j; rw [hAL] at hWL; simp; omega) hBw ?_
          intro po2 pc2 w7 HO2 G2 _
          replace HM := HM.gros G2 (fun ad ha h0 hm => by have := HO.own.base _ hm; have := hMB ad ha h0; omega)
          replace GG := G2.gro GG (fun k hk => Nat.le_trans hwB (HO.own.base k hk))
          replace hBw := Nat.le_trans hBw G2.size
          clear G2 HO
          have HO := HO2
          clear HO2
          refine nr ?_; intro U h; simp only [z0, z1] at h; subst h
          refine s_val 12 rfl rfl (.slice po2 ((askP s fr l half j) ++ [(l.getD a zC)]).length pc2) (rfl) ?_
          refine nr ?_; intro U h; simp only [z0, z1] at h; subst h
          refine wpList_nil ?_
          refine blk_n ?_
          refine then_n ?_
          refine wp_region_lit ?_
          refine s_val 41 rfl rfl (.int .i64 ((j : Nat) : Int)) (rfl) ?_
          refine nr ?_; intro U h; simp only [z0, z1] at h; subst h
          refine s_val 42 rfl rfl (.int .i64 ((j + 1 : Nat) : Int)) (run_addI 3 _ _ _ rfl ((j : Nat) : Int) 1 ((j + 1 : Nat) : Int) rfl rfl (by omega) (by omega) (by omega) _) ?_
          refine nr ?_; intro U h; simp only [z0, z1] at h; subst h
          refine s_val 13 rfl rfl (.int .i64 ((j + 1 : Nat) : Int)) (rfl) ?_
          refine nr ?_; intro U h; simp only [z0, z1] at h; subst h
          refine wpList_nil ?_
          refine then_n ?_
          exact ⟨(want s (allC fr l) half).length + 1 - (j + 1), by omega, j + 1, po2, pc2, (fun kz => ([.int .i64 t, .int .i64 ((k : Nat) : Int), .int .i64 ((j : Nat) : Int), .slice mo (want s (allC fr l) half).length mc, .int .i64 (((want s (allC fr l) half).length : Nat) : Int), .bool true, .int .i64 ((j : Nat) : Int), .int .i64 ((j + 1 : Nat) : Int), .slice fo fr.length fc, .slice mo (want s (allC fr l) half).length mc, .int .i64 ((j : Nat) : Int), .pointer (pK kI mo j 0), .agg (idA ((want s (allC fr l) half).getD j 0)), .bool false, .int .i64 ((k : Nat) : Int), .slice ao l.length cap, .int .i64 ((l.length : Nat) : Int), .bool false, us3 4, us3 5, us3 6, us3 7, us3 8, us3 9, us3 10, us3 11, us3 12, us3 13, us3 14, us3 15, us3 16, us3 17, us3 18, us3 19, us3 20, us3 21, us3 22, us3 23, us3 24, us3 25, us3 26, us3 27, us3 28, us3 29, us3 30, us3 31, .slice po (askP s fr l half j).length pc, .slice ao l.length cap, .int .i64 t, .pointer (pK kC ao a 0), .agg (cdA (l.getD a zC)), .slice (some ⟨q1, 0, none⟩) 1 1, .slice po2 ((askP s fr l half j) ++ [(l.getD a zC)]).length pc2] : List Value).getD kz undef), rfl, by rw [askP_step s fr l half j hjl, if_neg (of_decide_eq_false hh), hbc]; rfl, by omega, GG, hBw, HM, by rw [askP_step s fr l half j hjl, if_neg (of_decide_eq_false hh), hbc]; exact HO⟩
        · have hkl : k < l.length := by have := of_decide_eq_true hk1; omega
          refine s_val 52 rfl rfl (.bool true) (run_lssT 3 _ _ _ rfl ((k : Nat) : Int) ((l.length : Nat) : Int) rfl rfl true hk1 _) ?_
          refine nr ?_; intro U h; simp only [z0, z1] at h; subst h
          refine wpList_nil ?_
          refine then_n ?_
          refine wp_cond_true rfl ?_
          refine wp_skip ?_
          refine then_n ?_
          refine wp_seq ?_
          refine wp_block ?_
          refine wp_seq ?_
          cases h1 : decide ((l.getD k zC).id = ((want s (allC fr l) half).getD j 0))
          · refine wp_region_exA (A := ?Ax1) 24 [(0, 55), (1, 56), (2, 57), (3, 58), (4, 59), (5, 60), (6, 61), (7, 62), (8, 63), (9, 64), (10, 65), (11, 66), (12, 67), (13, 68), (14, 69), (15, 70), (16, 71), (17, 72), (18, 73), (19, 74), (20, 75), (21, 76), (22, 77), (23, 78)] [.val (.slice ao l.length cap), .val (.int .i64 ((k : Nat) : Int)), .val (.pointer (pK kC ao k 0)), .val (.pointer (pK kC ao k 0)), .val (.agg (idA (l.getD k zC).id)), .val (.slice mo (want s (allC fr l) half).length mc), .val (.int .i64 ((j : Nat) : Int)), .val (.pointer (pK kI mo j 0)), .val (.agg (idA ((want s (allC fr l) half).getD j 0))), .val (.bool false), .val (.bool false), .val undef, .val undef, .val undef, .val undef, .val undef, .val undef, .val undef, .val undef, .val undef, .val undef, .val undef, .val undef, .val undef] follows (by kernel_rfl) rfl ?hAx1 (opsA_cons ?o0x1 (opsA_cons ?o1x1 (opsA_cons ?o2x1 (opsA_cons ?o3x1 (opsA_cons ?o4x1 (opsA_cons ?o5x1 (opsA_cons ?o6x1 (opsA_cons ?o7x1 (opsA_cons ?o8x1 (opsA_cons ?o9x1 (opsA_cons ?o10x1 (opsA_cons ?o11x1 (opsA_cons ?o12x1 (opsA_cons ?o13x1 (opsA_cons ?o14x1 (opsA_cons ?o15x1 (opsA_cons ?o16x1 (opsA_cons ?o17x1 (opsA_cons ?o18x1 (opsA_cons ?o19x1 (opsA_cons ?o20x1 (opsA_cons ?o21x1 (opsA_cons ?o22x1 (opsA_cons ?o23x1 opsA_nil)))))))))))))))))))))))) ?restx1
            case hAx1 =>
              intro ptrs
              simp only [full, foldSlots, filledE, postE, List.foldl_cons, List.foldl_nil, List.getD_cons_zero, List.getD_cons_succ, fill_val, List.set_cons_zero, List.set_cons_succ]
              exact rfl
            case o0x1 => exact fun _ _ _ _ => opE_move (v := .slice ao l.length cap) _ rfl rfl rfl
            case o1x1 => exact fun _ _ _ _ => opE_move (v := .int .i64 ((k : Nat) : Int)) _ rfl rfl rfl
            case o2x1 => exact fun _ _ hw _ => opE_value (v := .pointer (pK kC ao k 0)) rfl (run_ixK rD (HC.gro (GG.drew.trans hw)) _ _ rfl rfl k rfl (by omega))
            case o3x1 => exact fun _ _ hw _ => opE_value (v := .pointer (pK kC ao k 0)) rfl (run_fdK (HC.gro (GG.drew.trans hw)) 40 _ 0 0 (fdD_0 _) rfl k rfl (by omega))
            case o4x1 => exact fun _ _ hw _ => opE_value (v := .agg (idA (l.getD k zC).id)) rfl (run_ldKCi (HC.gro (GG.drew.trans hw)) _ rfl k rfl (by omega))
            case o5x1 => exact fun _ _ _ _ => opE_move (v := .slice mo (want s (allC fr l) half).length mc) _ rfl rfl rfl
            case o6x1 => exact fun _ _ _ _ => opE_move (v := .int .i64 ((j : Nat) : Int)) _ rfl rfl rfl
            case o7x1 => exact fun _ _ hw _ => opE_value (v := .pointer (pK kI mo j 0)) rfl (run_ixK rIk (HM.gro ((Gro.refl _).drew.trans hw)) _ _ rfl rfl j rfl (by omega))
            case o8x1 => exact fun _ _ hw _ => opE_value (v := .agg (idA ((want s (allC fr l) half).getD j 0))) rfl (run_ldKI (HM.gro ((Gro.refl _).drew.trans hw)) _ rfl j rfl (by omega))
            case o9x1 => exact fun _ _ _ _ => opE_value (v := .bool false) rfl (run_eqI _ _ _ rfl _ _ rfl rfl (atC HC hkl).id (atI HM hjl) false h1)
            case o10x1 => exact fun _ _ _ _ => opE_move (v := .bool false) _ rfl rfl rfl
            case o11x1 => exact fun _ _ _ _ => opE_skip rfl
            case o12x1 => exact fun _ _ _ _ => opE_skip rfl
            case o13x1 => exact fun _ _ _ _ => opE_skip rfl
            case o14x1 => exact fun _ _ _ _ => opE_skip rfl
            case o15x1 => exact fun _ _ _ _ => opE_skip rfl
            case o16x1 => exact fun _ _ _ _ => opE_skip rfl
            case o17x1 => exact fun _ _ _ _ => opE_skip rfl
            case o18x1 => exact fun _ _ _ _ => opE_skip rfl
            case o19x1 => exact fun _ _ _ _ => opE_skip rfl
            case o20x1 => exact fun _ _ _ _ => opE_skip rfl
            case o21x1 => exact fun _ _ _ _ => opE_skip rfl
            case o22x1 => exact fun _ _ _ _ => opE_skip rfl
            case o23x1 => exact fun _ _ _ _ => opE_skip rfl
            intro ptrs w6 GD hxE
            simp only [List.drop_succ_cons, List.drop_zero]
            replace HM := HM.gro ((Gro.refl _).drew.trans GD)
            replace HO := HO.gro ((Gro.refl _).drew.trans GD)
            replace hBw := Nat.le_trans hBw (Nat.le_trans (Gro.refl _).drew.size GD.size)
            replace GG := GG.drew.trans GD
            clear GD
            refine s_val 79 rfl rfl (.bool false) (rfl) ?_
            refine nr ?_; intro U h; simp only [z0, z1] at h; subst h
            refine wpList_nil ?_
            refine then_n ?_
            refine wp_cond_false rfl ?_
            refine wp_skip ?_
            refine blk_n ?_
            refine then_n ?_
            refine wp_region_lit ?_
            refine s_val 53 rfl rfl (.int .i64 ((k : Nat) : Int)) (rfl) ?_
            refine nr ?_; intro U h; simp only [z0, z1] at h; subst h
            refine s_val 54 rfl rfl (.int .i64 ((k + 1 : Nat) : Int)) (run_addI 3 _ _ _ rfl ((k : Nat) : Int) 1 ((k + 1 : Nat) : Int) rfl rfl (by omega) (by omega) (by omega) _) ?_
            refine nr ?_; intro U h; simp only [z0, z1] at h; subst h
            refine s_val 15 rfl rfl (.int .i64 ((k + 1 : Nat) : Int)) (rfl) ?_
            refine nr ?_; intro U h; simp only [z0, z1] at h; subst h
            refine wpList_nil ?_
            refine then_n ?_
            exact ⟨l.length + 1 - (k + 1), by omega, k + 1, t, (fun kz => ([.int .i64 ((k : Nat) : Int), .slice ao l.length cap, .int .i64 ((l.length : Nat) : Int), .bool true, .int .i64 ((k : Nat) : Int), .int .i64 ((k + 1 : Nat) : Int), .slice ao l.length cap, .int .i64 ((k : Nat) : Int), .pointer (pK kC ao k 0), .pointer (pK kC ao k 0), .agg (idA (l.getD k zC).id), .slice mo (want s (allC fr l) half).length mc, .int .i64 ((j : Nat) : Int), .pointer (pK kI mo j 0), .agg (idA ((want s (allC fr l) half).getD j 0)), .bool false, .bool false, undef, undef, undef, undef, undef, undef, undef, undef, undef, undef, undef, undef, undef, .bool false, us3 31] : List Value).getD kz undef), rfl, rfl, by omega, hat.no hkl (of_decide_eq_false h1), GG, hBw, HM, HO⟩
          · cases h2 : decide (t < 0)
            · obtain ⟨a, hae, hak, hal, hba⟩ := hat.some (of_decide_eq_false h2)
              cases h3 : decide (ahd (l.getD k zC) (l.getD a zC) = true)
              · refine wp_region_exA (A := ?Ax2) 24 [(0, 55), (1, 56), (2, 57), (3, 58), (4, 59), (5, 60), (6, 61), (7, 62), (8, 63), (9, 64), (10, 65), (11, 66), (12, 67), (13, 68), (14, 69), (15, 70), (16, 71), (17, 72), (18, 73), (19, 74), (20, 75), (21, 76), (22, 77), (23, 78)] [.val (.slice ao l.length cap), .val (.int .i64 ((k : Nat) : Int)), .val (.pointer (pK kC ao k 0)), .val (.pointer (pK kC ao k 0)), .val (.agg (idA (l.getD k zC).id)), .val (.slice mo (want s (allC fr l) half).length mc), .val (.int .i64 ((j : Nat) : Int)), .val (.pointer (pK kI mo j 0)), .val (.agg (idA ((want s (allC fr l) half).getD j 0))), .val (.bool true), .val (.bool true), .val (.int .i64 t), .val (.bool false), .val (.bool false), .val (.slice ao l.length cap), .val (.int .i64 ((k : Nat) : Int)), .val (.pointer (pK kC ao k 0)), .val (.agg (cdA (l.getD k zC))), .val (.slice ao l.length cap), .val (.int .i64 t), .val (.pointer (pK kC ao a 0)), .val (.agg (cdA (l.getD a zC))), .val (.bool false), .val (.bool false)] follows (by kernel_rfl) rfl ?hAx2 (opsA_cons ?o0x2 (opsA_cons ?o1x2 (opsA_cons ?o2x2 (opsA_cons ?o3x2 (opsA_cons ?o4x2 (opsA_cons ?o5x2 (opsA_cons ?o6x2 (opsA_cons ?o7x2 (opsA_cons ?o8x2 (opsA_cons ?o9x2 (opsA_cons ?o10x2 (opsA_cons ?o11x2 (opsA_cons ?o12x2 (opsA_cons ?o13x2 (opsA_cons ?o14x2 (opsA_cons ?o15x2 (opsA_cons ?o16x2 (opsA_cons ?o17x2 (opsA_cons ?o18x2 (opsA_cons ?o19x2 (opsA_cons ?o20x2 (opsA_cons ?o21x2 (opsA_cons ?o22x2 (opsA_cons ?o23x2 opsA_nil)))))))))))))))))))))))) ?restx2
                case hAx2 =>
                  intro ptrs
                  simp only [full, foldSlots, filledE, postE, List.foldl_cons, List.foldl_nil, List.getD_cons_zero, List.getD_cons_succ, fill_val, List.set_cons_zero, List.set_cons_succ]
                  exact rfl
                case o0x2 => exact fun _ _ _ _ => opE_move (v := .slice ao l.length cap) _ rfl rfl rfl
                case o1x2 => exact fun _ _ _ _ => opE_move (v := .int .i64 ((k : Nat) : Int)) _ rfl rfl rfl
                case o2x2 => exact fun _ _ hw _ => opE_value (v := .pointer (pK kC ao k 0)) rfl (run_ixK rD (HC.gro (GG.drew.trans hw)) _ _ rfl rfl k rfl (by omega))
                case o3x2 => exact fun _ _ hw _ => opE_value (v := .pointer (pK kC ao k 0)) rfl (run_fdK (HC.gro (GG.drew.trans hw)) 40 _ 0 0 (fdD_0 _) rfl k rfl (by omega))
                case o4x2 => exact fun _ _ hw _ => opE_value (v := .agg (idA (l.getD k zC).id)) rfl (run_ldKCi (HC.gro (GG.drew.trans hw)) _ rfl k rfl (by omega))
                case o5x2 => exact fun _ _ _ _ => opE_move (v := .slice mo (want s (allC fr l) half).length mc) _ rfl rfl rfl
                case o6x2 => exact fun _ _ _ _ => opE_move (v := .int .i64 ((j : Nat) : Int)) _ rfl rfl rfl
                case o7x2 => exact fun _ _ hw _ => opE_value (v := .pointer (pK kI mo j 0)) rfl (run_ixK rIk (HM.gro ((Gro.refl _).drew.trans hw)) _ _ rfl rfl j rfl (by omega))
                case o8x2 => exact fun _ _ hw _ => opE_value (v := .agg (idA ((want s (allC fr l) half).getD j 0))) rfl (run_ldKI (HM.gro ((Gro.refl _).drew.trans hw)) _ rfl j rfl (by omega))
                case o9x2 => exact fun _ _ _ _ => opE_value (v := .bool true) rfl (run_eqI _ _ _ rfl _ _ rfl rfl (atC HC hkl).id (atI HM hjl) true h1)
                case o10x2 => exact fun _ _ _ _ => opE_move (v := .bool true) _ rfl rfl rfl
                case o11x2 => exact fun _ _ _ _ => opE_move (v := .int .i64 t) _ rfl rfl rfl
                case o12x2 => exact fun _ _ _ _ => opE_value (v := .bool false) rfl (run_lssT 3 _ _ _ rfl t 0 rfl rfl false h2 _)
                case o13x2 => exact fun _ _ _ _ => opE_move (v := .bool false) _ rfl rfl rfl
                case o14x2 => exact fun _ _ _ _ => opE_move (v := .slice ao l.length cap) _ rfl rfl rfl
                case o15x2 => exact fun _ _ _ _ => opE_move (v := .int .i64 ((k : Nat) : Int)) _ rfl rfl rfl
                case o16x2 => exact fun _ _ hw _ => opE_value (v := .pointer (pK kC ao k 0)) rfl (run_ixK rD (HC.gro (GG.drew.trans hw)) _ _ rfl rfl k rfl (by omega))
                case o17x2 => exact fun _ _ hw _ => opE_value (v := .agg (cdA (l.getD k zC))) rfl (run_ldKD (HC.gro (GG.drew.trans hw)) _ rfl k rfl (by omega))
                case o18x2 => exact fun _ _ _ _ => opE_move (v := .slice ao l.length cap) _ rfl rfl rfl
                case o19x2 => exact fun _ _ _ _ => opE_move (v := .int .i64 t) _ rfl rfl rfl
                case o20x2 => exact fun _ _ hw _ => opE_value (v := .pointer (pK kC ao a 0)) rfl (run_ixK rD (HC.gro (GG.drew.trans hw)) _ _ rfl rfl a (by exact congrArg (Value.int .i64) hae) (by omega))
                case o21x2 => exact fun _ _ hw _ => opE_value (v := .agg (cdA (l.getD a zC))) rfl (run_ldKD (HC.gro (GG.drew.trans hw)) _ rfl a rfl (by omega))
                case o22x2 =>
                  intro ptrs w' hw hE
                  exact opE_call (.val (.bool false)) rfl _ 27 Try.call27 rfl rfl _ rfl [.agg (cdA (l.getD k zC)), .agg (cdA (l.getD a zC))] rfl ((Calls.bool (ahead_any (l.getD k zC) (l.getD a zC) (atC HC hkl) (atC HC hal) _) ((dec_b _).trans h3)).mono fun e w' ⟨he, hg⟩ => ⟨_, he, hg, rfl⟩)
                case o23x2 => exact fun _ _ _ _ => opE_pick (v := .bool false) _ _ _ rfl rfl false rfl rfl
                intro ptrs w6 GD hxE
                simp only [List.drop_succ_cons, List.drop_zero]
                replace HM := HM.gro ((Gro.refl _).drew.trans GD)
                replace HO := HO.gro ((Gro.refl _).drew.trans GD)
                replace hBw := Nat.le_trans hBw (Nat.le_trans (Gro.refl _).drew.size GD.size)
                replace GG := GG.drew.trans GD
                clear GD
                refine s_val 79 rfl rfl (.bool false) (rfl) ?_
                refine nr ?_; intro U h; simp only [z0, z1] at h; subst h
                refine wpList_nil ?_
                refine then_n ?_
                refine wp_cond_false rfl ?_
                refine wp_skip ?_
                refine blk_n ?_
                refine then_n ?_
                refine wp_region_lit ?_
                refine s_val 53 rfl rfl (.int .i64 ((k : Nat) : Int)) (rfl) ?_
                refine nr ?_; intro U h; simp only [z0, z1] at h; subst h
                refine s_val 54 rfl rfl (.int .i64 ((k + 1 : Nat) : Int)) (run_addI 3 _ _ _ rfl ((k : Nat) : Int) 1 ((k + 1 : Nat) : Int) rfl rfl (by omega) (by omega) (by omega) _) ?_
                refine nr ?_; intro U h; simp only [z0, z1] at h; subst h
                refine s_val 15 rfl rfl (.int .i64 ((k + 1 : Nat) : Int)) (rfl) ?_
                refine nr ?_; intro U h; simp only [z0, z1] at h; subst h
                refine wpList_nil ?_
                refine then_n ?_
                exact ⟨l.length + 1 - (k + 1), by omega, k + 1, t, (fun kz => ([.int .i64 ((k : Nat) : Int), .slice ao l.length cap, .int .i64 ((l.length : Nat) : Int), .bool true, .int .i64 ((k : Nat) : Int), .int .i64 ((k + 1 : Nat) : Int), .slice ao l.length cap, .int .i64 ((k : Nat) : Int), .pointer (pK kC ao k 0), .pointer (pK kC ao k 0), .agg (idA (l.getD k zC).id), .slice mo (want s (allC fr l) half).length mc, .int .i64 ((j : Nat) : Int), .pointer (pK kI mo j 0), .agg (idA ((want s (allC fr l) half).getD j 0)), .bool true, .bool true, .int .i64 t, .bool false, .bool false, .slice ao l.length cap, .int .i64 ((k : Nat) : Int), .pointer (pK kC ao k 0), .agg (cdA (l.getD k zC)), .slice ao l.length cap, .int .i64 t, .pointer (pK kC ao a 0), .agg (cdA (l.getD a zC)), .bool false, .bool false, .bool false, us3 31] : List Value).getD kz undef), rfl, rfl, by omega, AtC.stay hkl (of_decide_eq_true h1) hae hak hba (Bool.eq_false_iff.2 (of_decide_eq_false h3)), GG, hBw, HM, HO⟩
              · refine wp_region_exA (A := ?Ax3) 24 [(0, 55), (1, 56), (2, 57), (3, 58), (4, 59), (5, 60), (6, 61), (7, 62), (8, 63), (9, 64), (10, 65), (11, 66), (12, 67), (13, 68), (14, 69), (15, 70), (16, 71), (17, 72), (18, 73), (19, 74), (20, 75), (21, 76), (22, 77), (23, 78)] [.val (.slice ao l.length cap), .val (.int .i64 ((k : Nat) : Int)), .val (.pointer (pK kC ao k 0)), .val (.pointer (pK kC ao k 0)), .val (.agg (idA (l.getD k zC).id)), .val (.slice mo (want s (allC fr l) half).length mc), .val (.int .i64 ((j : Nat) : Int)), .val (.pointer (pK kI mo j 0)), .val (.agg (idA ((want s (allC fr l) half).getD j 0))), .val (.bool true), .val (.bool true), .val (.int .i64 t), .val (.bool false), .val (.bool false), .val (.slice ao l.length cap), .val (.int .i64 ((k : Nat) : Int)), .val (.pointer (pK kC ao k 0)), .val (.agg (cdA (l.getD k zC))), .val (.slice ao l.length cap), .val (.int .i64 t), .val (.pointer (pK kC ao a 0)), .val (.agg (cdA (l.getD a zC))), .val (.bool true), .val (.bool true)] follows (by kernel_rfl) rfl ?hAx3 (opsA_cons ?o0x3 (opsA_cons ?o1x3 (opsA_cons ?o2x3 (opsA_cons ?o3x3 (opsA_cons ?o4x3 (opsA_cons ?o5x3 (opsA_cons ?o6x3 (opsA_cons ?o7x3 (opsA_cons ?o8x3 (opsA_cons ?o9x3 (opsA_cons ?o10x3 (opsA_cons ?o11x3 (opsA_cons ?o12x3 (opsA_cons ?o13x3 (opsA_cons ?o14x3 (opsA_cons ?o15x3 (opsA_cons ?o16x3 (opsA_cons ?o17x3 (opsA_cons ?o18x3 (opsA_cons ?o19x3 (opsA_cons ?o20x3 (opsA_cons ?o21x3 (opsA_cons ?o22x3 (opsA_cons ?o23x3 opsA_nil)))))))))))))))))))))))) ?restx3
                case hAx3 =>
                  intro ptrs
                  simp only [full, foldSlots, filledE, postE, List.foldl_cons, List.foldl_nil, List.getD_cons_zero, List.getD_cons_succ, fill_val, List.set_cons_zero, List.set_cons_succ]
                  exact rfl
                case o0x3 => exact fun _ _ _ _ => opE_move (v := .slice ao l.length cap) _ rfl rfl rfl
                case o1x3 => exact fun _ _ _ _ => opE_move (v := .int .i64 ((k : Nat) : Int)) _ rfl rfl rfl
                case o2x3 => exact fun _ _ hw _ => opE_value (v := .pointer (pK kC ao k 0)) rfl (run_ixK rD (HC.gro (GG.drew.trans hw)) _ _ rfl rfl k rfl (by omega))
                case o3x3 => exact fun _ _ hw _ => opE_value (v := .pointer (pK kC ao k 0)) rfl (run_fdK (HC.gro (GG.drew.trans hw)) 40 _ 0 0 (fdD_0 _) rfl k rfl (by omega))
                case o4x3 => exact fun _ _ hw _ => opE_value (v := .agg (idA (l.getD k zC).id)) rfl (run_ldKCi (HC.gro (GG.drew.trans hw)) _ rfl k rfl (by omega))
                case o5x3 => exact fun _ _ _ _ => opE_move (v := .slice mo (want s (allC fr l) half).length mc) _ rfl rfl rfl
                case o6x3 => exact fun _ _ _ _ => opE_move (v := .int .i64 ((j : Nat) : Int)) _ rfl rfl rfl
                case o7x3 => exact fun _ _ hw _ => opE_value (v := .pointer (pK kI mo j 0)) rfl (run_ixK rIk (HM.gro ((Gro.refl _).drew.trans hw)) _ _ rfl rfl j rfl (by omega))
                case o8x3 => exact fun _ _ hw _ => opE_value (v := .agg (idA ((want s (allC fr l) half).getD j 0))) rfl (run_ldKI (HM.gro ((Gro.refl _).drew.trans hw)) _ rfl j rfl (by omega))
                case o9x3 => exact fun _ _ _ _ => opE_value (v := .bool true) rfl (run_eqI _ _ _ rfl _ _ rfl rfl (atC HC hkl).id (atI HM hjl) true h1)
                case o10x3 => exact fun _ _ _ _ => opE_move (v := .bool true) _ rfl rfl rfl
                case o11x3 => exact fun _ _ _ _ => opE_move (v := .int .i64 t) _ rfl rfl rfl
                case o12x3 => exact fun _ _ _ _ => opE_value (v := .bool false) rfl (run_lssT 3 _ _ _ rfl t 0 rfl rfl false h2 _)
                case o13x3 => exact fun _ _ _ _ => opE_move (v := .bool false) _ rfl rfl rfl
                case o14x3 => exact fun _ _ _ _ => opE_move (v := .slice ao l.length cap) _ rfl rfl rfl
                case o15x3 => exact fun _ _ _ _ => opE_move (v := .int .i64 ((k : Nat) : Int)) _ rfl rfl rfl
                case o16x3 => exact fun _ _ hw _ => opE_value (v := .pointer (pK kC ao k 0)) rfl (run_ixK rD (HC.gro (GG.drew.trans hw)) _ _ rfl rfl k rfl (by omega))
                case o17x3 => exact fun _ _ hw _ => opE_value (v := .agg (cdA (l.getD k zC))) rfl (run_ldKD (HC.gro (GG.drew.trans hw)) _ rfl k rfl (by omega))
                case o18x3 => exact fun _ _ _ _ => opE_move (v := .slice ao l.length cap) _ rfl rfl rfl
                case o19x3 => exact fun _ _ _ _ => opE_move (v := .int .i64 t) _ rfl rfl rfl
                case o20x3 => exact fun _ _ hw _ => opE_value (v := .pointer (pK kC ao a 0)) rfl (run_ixK rD (HC.gro (GG.drew.trans hw)) _ _ rfl rfl a (by exact congrArg (Value.int .i64) hae) (by omega))
                case o21x3 => exact fun _ _ hw _ => opE_value (v := .agg (cdA (l.getD a zC))) rfl (run_ldKD (HC.gro (GG.drew.trans hw)) _ rfl a rfl (by omega))
                case o22x3 =>
                  intro ptrs w' hw hE
                  exact opE_call (.val (.bool true)) rfl _ 27 Try.call27 rfl rfl _ rfl [.agg (cdA (l.getD k zC)), .agg (cdA (l.getD a zC))] rfl ((Calls.bool (ahead_any (l.getD k zC) (l.getD a zC) (atC HC hkl) (atC HC hal) _) ((dec_b _).trans h3)).mono fun e w' ⟨he, hg⟩ => ⟨_, he, hg, rfl⟩)
                case o23x3 => exact fun _ _ _ _ => opE_pick (v := .bool true) _ _ _ rfl rfl false rfl rfl
                intro ptrs w6 GD hxE
                simp only [List.drop_succ_cons, List.drop_zero]
                replace HM := HM.gro ((Gro.refl _).drew.trans GD)
                replace HO := HO.gro ((Gro.refl _).drew.trans GD)
                replace hBw := Nat.le_trans hBw (Nat.le_trans (Gro.refl _).drew.size GD.size)
                replace GG := GG.drew.trans GD
                clear GD
                refine s_val 79 rfl rfl (.bool true) (rfl) ?_
                refine nr ?_; intro U h; simp only [z0, z1] at h; subst h
                refine wpList_nil ?_
                refine then_n ?_
                refine wp_cond_true rfl ?_
                refine wp_region_lit ?_
                refine s_val 80 rfl rfl (.int .i64 ((k : Nat) : Int)) (rfl) ?_
                refine nr ?_; intro U h; simp only [z0, z1] at h; subst h
                refine s_val 14 rfl rfl (.int .i64 ((k : Nat) : Int)) (rfl) ?_
                refine nr ?_; intro U h; simp only [z0, z1] at h; subst h
                refine wpList_nil ?_
                refine blk_n ?_
                refine then_n ?_
                refine wp_region_lit ?_
                refine s_val 53 rfl rfl (.int .i64 ((k : Nat) : Int)) (rfl) ?_
                refine nr ?_; intro U h; simp only [z0, z1] at h; subst h
                refine s_val 54 rfl rfl (.int .i64 ((k + 1 : Nat) : Int)) (run_addI 3 _ _ _ rfl ((k : Nat) : Int) 1 ((k + 1 : Nat) : Int) rfl rfl (by omega) (by omega) (by omega) _) ?_
                refine nr ?_; intro U h; simp only [z0, z1] at h; subst h
                refine s_val 15 rfl rfl (.int .i64 ((k + 1 : Nat) : Int)) (rfl) ?_
                refine nr ?_; intro U h; simp only [z0, z1] at h; subst h
                refine wpList_nil ?_
                refine then_n ?_
                exact ⟨l.length + 1 - (k + 1), by omega, k + 1, (k : Int), (fun kz => ([.int .i64 ((k : Nat) : Int), .slice ao l.length cap, .int .i64 ((l.length : Nat) : Int), .bool true, .int .i64 ((k : Nat) : Int), .int .i64 ((k + 1 : Nat) : Int), .slice ao l.length cap, .int .i64 ((k : Nat) : Int), .pointer (pK kC ao k 0), .pointer (pK kC ao k 0), .agg (idA (l.getD k zC).id), .slice mo (want s (allC fr l) half).length mc, .int .i64 ((j : Nat) : Int), .pointer (pK kI mo j 0), .agg (idA ((want s (allC fr l) half).getD j 0)), .bool true, .bool true, .int .i64 t, .bool false, .bool false, .slice ao l.length cap, .int .i64 ((k : Nat) : Int), .pointer (pK kC ao k 0), .agg (cdA (l.getD k zC)), .slice ao l.length cap, .int .i64 t, .pointer (pK kC ao a 0), .agg (cdA (l.getD a zC)), .bool true, .bool true, .bool true, .int .i64 ((k : Nat) : Int)] : List Value).getD kz undef), rfl, rfl, by omega, AtC.yes hkl (of_decide_eq_true h1) hba (of_decide_eq_true h3), GG, hBw, HM, HO⟩
            · refine wp_region_exA (A := ?Ax4) 24 [(0, 55), (1, 56), (2, 57), (3, 58), (4, 59), (5, 60), (6, 61), (7, 62), (8, 63), (9, 64), (10, 65), (11, 66), (12, 67), (13, 68), (14, 69), (15, 70), (16, 71), (17, 72), (18, 73), (19, 74), (20, 75), (21, 76), (22, 77), (23, 78)] [.val (.slice ao l.length cap), .val (.int .i64 ((k : Nat) : Int)), .val (.pointer (pK kC ao k 0)), .val (.pointer (pK kC ao k 0)), .val (.agg (idA (l.getD k zC).id)), .val (.slice mo (want s (allC fr l) half).length mc), .val (.int .i64 ((j : Nat) : Int)), .val (.pointer (pK kI mo j 0)), .val (.agg (idA ((want s (allC fr l) half).getD j 0))), .val (.bool true), .val (.bool true), .val (.int .i64 t), .val (.bool true), .val (.bool true), .val undef, .val undef, .val undef, .val undef, .val undef, .val undef, .val undef, .val undef, .val undef, .val (.bool true)] follows (by kernel_rfl) rfl ?hAx4 (opsA_cons ?o0x4 (opsA_cons ?o1x4 (opsA_cons ?o2x4 (opsA_cons ?o3x4 (opsA_cons ?o4x4 (opsA_cons ?o5x4 (opsA_cons ?o6x4 (opsA_cons ?o7x4 (opsA_cons ?o8x4 (opsA_cons ?o9x4 (opsA_cons ?o10x4 (opsA_cons ?o11x4 (opsA_cons ?o12x4 (opsA_cons ?o13x4 (opsA_cons ?o14x4 (opsA_cons ?o15x4 (opsA_cons ?o16x4 (opsA_cons ?o17x4 (opsA_cons ?o18x4 (opsA_cons ?o19x4 (opsA_cons ?o20x4 (opsA_cons ?o21x4 (opsA_cons ?o22x4 (opsA_cons ?o23x4 opsA_nil)))))))))))))))))))))))) ?restx4
              case hAx4 =>
                intro ptrs
                simp only [full, foldSlots, filledE, postE, List.foldl_cons, List.foldl_nil, List.getD_cons_zero, List.getD_cons_succ, fill_val, List.set_cons_zero, List.set_cons_succ]
                exact rfl
              case o0x4 => exact fun _ _ _ _ => opE_move (v := .slice ao l.length cap) _ rfl rfl rfl
              case o1x4 => exact fun _ _ _ _ => opE_move (v := .int .i64 ((k : Nat) : Int)) _ rfl rfl rfl
              case o2x4 => exact fun _ _ hw _ => opE_value (v := .pointer (pK kC ao k 0)) rfl (run_ixK rD (HC.gro (GG.drew.trans hw)) _ _ rfl rfl k rfl (by omega))
              case o3x4 => exact fun _ _ hw _ => opE_value (v := .pointer (pK kC ao k 0)) rfl (run_fdK (HC.gro (GG.drew.trans hw)) 40 _ 0 0 (fdD_0 _) rfl k rfl (by omega))
              case o4x4 => exact fun _ _ hw _ => opE_value (v := .agg (idA (l.getD k zC).id)) rfl (run_ldKCi (HC.gro (GG.drew.trans hw)) _ rfl k rfl (by omega))
              case o5x4 => exact fun _ _ _ _ => opE_move (v := .slice mo (want s (allC fr l) half).length mc) _ rfl rfl rfl
              case o6x4 => exact fun _ _ _ _ => opE_move (v := .int .i64 ((j : Nat) : Int)) _ rfl rfl rfl
              case o7x4 => exact fun _ _ hw _ => opE_value (v := .pointer (pK kI mo j 0)) rfl (run_ixK rIk (HM.gro ((Gro.refl _).drew.trans hw)) _ _ rfl rfl j rfl (by omega))
              case o8x4 => exact fun _ _ hw _ => opE_value (v := .agg (idA ((want s (allC fr l) half).getD j 0))) rfl (run_ldKI (HM.gro ((Gro.refl _).drew.trans hw)) _ rfl j rfl (by omega))
              case o9x4 => exact fun _ _ _ _ => opE_value (v := .bool true) rfl (run_eqI _ _ _ rfl _ _ rfl rfl (atC HC hkl).id (atI HM hjl) true h1)
              case o10x4 => exact fun _ _ _ _ => opE_move (v := .bool true) _ rfl rfl rfl
              case o11x4 => exact fun _ _ _ _ => opE_move (v := .int .i64 t) _ rfl rfl rfl
              case o12x4 => exact fun _ _ _ _ => opE_value (v := .bool true) rfl (run_lssT 3 _ _ _ rfl t 0 rfl rfl true h2 _)
              case o13x4 => exact fun _ _ _ _ => opE_move (v := .bool true) _ rfl rfl rfl
              case o14x4 => exact fun _ _ _ _ => opE_skip rfl
              case o15x4 => exact fun _ _ _ _ => opE_skip rfl
              case o16x4 => exact fun _ _ _ _ => opE_skip rfl
              case o17x4 => exact fun _ _ _ _ => opE_skip rfl
              case o18x4 => exact fun _ _ _ _ => opE_skip rfl
              case o19x4 => exact fun _ _ _ _ => opE_skip rfl
              case o20x4 => exact fun _ _ _ _ => opE_skip rfl
              case o21x4 => exact fun _ _ _ _ => opE_skip rfl
              case o22x4 => exact fun _ _ _ _ => opE_skip rfl
              case o23x4 => exact fun _ _ _ _ => opE_pick (v := .bool true) _ _ _ rfl rfl true rfl rfl
              intro ptrs w6 GD hxE
              simp only [List.drop_succ_cons, List.drop_zero]
              replace HM := HM.gro ((Gro.refl _).drew.trans GD)
              replace HO := HO.gro ((Gro.refl _).drew.trans GD)
              replace hBw := Nat.le_trans hBw (Nat.le_trans (Gro.refl _).drew.size GD.size)
              replace GG := GG.drew.trans GD
              clear GD
              refine s_val 79 rfl rfl (.bool true) (rfl) ?_
              refine nr ?_; intro U h; simp only [z0, z1] at h; subst h
              refine wpList_nil ?_
              refine then_n ?_
              refine wp_cond_true rfl ?_
              refine wp_region_lit ?_
              refine s_val 80 rfl rfl (.int .i64 ((k : Nat) : Int)) (rfl) ?_
              refine nr ?_; intro U h; simp only [z0, z1] at h; subst h
              refine s_val 14 rfl rfl (.int .i64 ((k : Nat) : Int)) (rfl) ?_
              refine nr ?_; intro U h; simp only [z0, z1] at h; subst h
              refine wpList_nil ?_
              refine blk_n ?_
              refine then_n ?_
              refine wp_region_lit ?_
              refine s_val 53 rfl rfl (.int .i64 ((k : Nat) : Int)) (rfl) ?_
              refine nr ?_; intro U h; simp only [z0, z1] at h; subst h
              refine s_val 54 rfl rfl (.int .i64 ((k + 1 : Nat) : Int)) (run_addI 3 _ _ _ rfl ((k : Nat) : Int) 1 ((k + 1 : Nat) : Int) rfl rfl (by omega) (by omega) (by omega) _) ?_
              refine nr ?_; intro U h; simp only [z0, z1] at h; subst h
              refine s_val 15 rfl rfl (.int .i64 ((k + 1 : Nat) : Int)) (rfl) ?_
              refine nr ?_; intro U h; simp only [z0, z1] at h; subst h
              refine wpList_nil ?_
              refine then_n ?_
              exact ⟨l.length + 1 - (k + 1), by omega, k + 1, (k : Int), (fun kz => ([.int .i64 ((k : Nat) : Int), .slice ao l.length cap, .int .i64 ((l.length : Nat) : Int), .bool true, .int .i64 ((k : Nat) : Int), .int .i64 ((k + 1 : Nat) : Int), .slice ao l.length cap, .int .i64 ((k : Nat) : Int), .pointer (pK kC ao k 0), .pointer (pK kC ao k 0), .agg (idA (l.getD k zC).id), .slice mo (want s (allC fr l) half).length mc, .int .i64 ((j : Nat) : Int), .pointer (pK kI mo j 0), .agg (idA ((want s (allC fr l) half).getD j 0)), .bool true, .bool true, .int .i64 t, .bool true, .bool true, undef, undef, undef, undef, undef, undef, undef, undef, undef, .bool true, .bool true, .int .i64 ((k : Nat) : Int)] : List Value).getD kz undef), rfl, rfl, by omega, hat.first hkl (of_decide_eq_true h1) (of_decide_eq_true h2), GG, hBw, HM, HO⟩
      · refine wp_region_lit ?_
        refine s_val 43 rfl rfl (.slice fo fr.length fc) (rfl) ?_
        refine nr ?_; intro U h; simp only [z0, z1] at h; subst h
        refine s_val 44 rfl rfl (.slice mo (want s (allC fr l) half).length mc) (rfl) ?_
        refine nr ?_; intro U h; simp only [z0, z1] at h; subst h
        refine s_val 45 rfl rfl (.int .i64 ((j : Nat) : Int)) (rfl) ?_
        refine nr ?_; intro U h; simp only [z0, z1] at h; subst h
        refine s_val 46 rfl rfl (.pointer (pK kI mo j 0)) (run_ixK rIk (HM) _ _ rfl rfl j rfl (by omega)) ?_
        refine nr ?_; intro U h; simp only [z0, z1] at h; subst h
        refine s_val 47 rfl rfl (.agg (idA ((want s (allC fr l) half).getD j 0))) (run_ldKI (HM) _ rfl j rfl (by omega)) ?_
        refine nr ?_; intro U h; simp only [z0, z1] at h; subst h
        refine s_callv 48 rfl rfl _ 16 Try.call16 rfl rfl _ rfl [.slice fo fr.length fc, .agg (idA ((want s (allC fr l) half).getD j 0))] rfl (Calls.bool (refhasK _ fo fc fr (HF.gro GG) (by omega) ((want s (allC fr l) half).getD j 0) (atI HM hjl)) hh) ?_
        intro w5 G
        replace hBw := Nat.le_trans hBw G.size
        replace HM := HM.gro G
        replace HO := HO.gro G
        replace GG := GG.trans G
        clear G
        refine nr ?_; intro U h; simp only [z0, z1] at h; subst h
        refine wpList_nil ?_
        refine then_n ?_
        refine wp_cond_true rfl ?_
        refine wp_exit ?_
        refine then_x ?_
        refine blk_x ?_
        refine then_n ?_
        refine wp_region_lit ?_
        refine s_val 41 rfl rfl (.int .i64 ((j : Nat) : Int)) (rfl) ?_
        refine nr ?_; intro U h; simp only [z0, z1] at h; subst h
        refine s_val 42 rfl rfl (.int .i64 ((j + 1 : Nat) : Int)) (run_addI 3 _ _ _ rfl ((j : Nat) : Int) 1 ((j + 1 : Nat) : Int) rfl rfl (by omega) (by omega) (by omega) _) ?_
        refine nr ?_; intro U h; simp only [z0, z1] at h; subst h
        refine s_val 13 rfl rfl (.int .i64 ((j + 1 : Nat) : Int)) (rfl) ?_
        refine nr ?_; intro U h; simp only [z0, z1] at h; subst h
        refine wpList_nil ?_
        refine then_n ?_
        exact ⟨(want s (allC fr l) half).length + 1 - (j + 1), by omega, j + 1, po, pc, (fun kz => ([us2 0, us2 1, .int .i64 ((j : Nat) : Int), .slice mo (want s (allC fr l) half).length mc, .int .i64 (((want s (allC fr l) half).length : Nat) : Int), .bool true, .int .i64 ((j : Nat) : Int), .int .i64 ((j + 1 : Nat) : Int), .slice fo fr.length fc, .slice mo (want s (allC fr l) half).length mc, .int .i64 ((j : Nat) : Int), .pointer (pK kI mo j 0), .agg (idA ((want s (allC fr l) half).getD j 0)), .bool true, us2 14, us2 15, us2 16, us2 17, us2 18, us2 19, us2 20, us2 21, us2 22, us2 23, us2 24, us2 25, us2 26, us2 27, us2 28, us2 29, us2 30, us2 31, us2 32, us2 33, us2 34, us2 35, us2 36, us2 37, us2 38, us2 39, us2 40, us2 41, us2 42, us2 43, us2 44, us2 45, us2 46, us2 47, us2 48, us2 49, us2 50, us2 51, us2 52] : List Value).getD kz undef), rfl, by rw [askP_step s fr l half j hjl, if_pos (of_decide_eq_true hh), List.append_nil]; rfl, by omega, GG, hBw, HM, by rw [askP_step s fr l half j hjl, if_pos (of_decide_eq_true hh), List.append_nil]; exact HO⟩
  · have hil : i < l.length := by have := of_decide_eq_true hi1; omega
    refine s_val 22 rfl rfl (.bool true) (run_lssT 3 _ _ _ rfl ((i : Nat) : Int) ((l.length : Nat) : Int) rfl rfl true hi1 _) ?_
    refine nr ?_; intro U h; simp only [z0, z1] at h; subst h
    refine wpList_nil ?_
    refine then_n ?_
    refine wp_cond_true rfl ?_
    refine wp_skip ?_
    refine then_n ?_
    refine wp_seq ?_
    refine wp_block ?_
    refine wp_region_lit ?_
    refine s_val 25 rfl rfl (.slice no (fr.length + i) nc) (rfl) ?_
    refine nr ?_; intro U h; simp only [z0, z1] at h; subst h
    refine s_val 26 rfl rfl (.slice ao l.length cap) (rfl) ?_
    refine nr ?_; intro U h; simp only [z0, z1] at h; subst h
    refine s_val 27 rfl rfl (.int .i64 ((i : Nat) : Int)) (rfl) ?_
    refine nr ?_; intro U h; simp only [z0, z1] at h; subst h
    refine s_val 28 rfl rfl (.pointer (pK kC ao i 0)) (run_ixK rD (HC.gro GG) _ _ rfl rfl i rfl (by omega)) ?_
    refine nr ?_; intro U h; simp only [z0, z1] at h; subst h
    refine s_val 29 rfl rfl (.pointer (pK kC ao i 0)) (run_fdK (HC.gro GG) 40 _ 0 0 (fdD_0 _) rfl i rfl (by omega)) ?_
    refine nr ?_; intro U h; simp only [z0, z1] at h; subst h
    refine s_val 30 rfl rfl (.agg (idA (l.getD i zC).id)) (run_ldKCi (HC.gro GG) _ rfl i rfl (by omega)) ?_
    refine nr ?_; intro U h; simp only [z0, z1] at h; subst h
    refine s_bsl 31 rfl rfl 24 1 _ rfl [(0, .agg (idA (l.getD i zC).id))] rfl ([(l.getD i zC).id].flatMap kI.E).toArray 23 (bsI (l.getD i zC).id _) ?_
    intro w4 q1 G eq1 kq1
    have bq1 := size_base GG eq1
    replace hBw := Nat.le_trans hBw G.size
    replace kg1 := G.has kg1
    replace HO := HO.gro G
    replace GG := GG.trans G
    clear G
    have HR1 : RK kI _ (some ⟨q1, 0, none⟩) 1 [(l.getD i zC).id] := RK.blk kq1 (one_all (atC HC hil).id) (Nat.le_refl _)
    clear eq1
    refine nr ?_; intro U h; simp only [z0, z1] at h; subst h
    have hAC : (fr ++ ids (l.take i)).length = fr.length + i := by rw [List.length_append, ids, List.length_map, List.length_take]; omega
    have hAC2 : ((fr ++ ids (l.take i)) ++ [(l.getD i zC).id]).length = fr.length + (i + 1) := by rw [List.length_append, hAC]; rfl
    refine s_appK rIk (by decide) 32 rfl rfl _ _ rfl (by rw [hAC]; rfl) HO rfl HR1 (by rw [hAC]; simp; omega) hBw ?_
    intro no2 nc2 w5 HO2 G2 _
    replace kg1 := G2.has kg1 (fun hm => by have := HO.own.base _ hm; omega)
    replace hBw := Nat.le_trans hBw G2.size
    replace GG := G2.gro GG (fun k hk => Nat.le_trans hB0 (HO.own.base k hk))
    clear G2 HO
    have HO := HO2
    clear HO2
    refine nr ?_; intro U h; simp only [z0, z1] at h; subst h
    refine s_val 9 rfl rfl (.slice no2 ((fr ++ ids (l.take i)) ++ [(l.getD i zC).id]).length nc2) (rfl) ?_
    refine nr ?_; intro U h; simp only [z0, z1] at h; subst h
    refine wpList_nil ?_
    refine blk_n ?_
    refine then_n ?_
    refine wp_region_lit ?_
    refine s_val 23 rfl rfl (.int .i64 ((i : Nat) : Int)) (rfl) ?_
    refine nr ?_; intro U h; simp only [z0, z1] at h; subst h
    refine s_val 24 rfl rfl (.int .i64 ((i + 1 : Nat) : Int)) (run_addI 3 _ _ _ rfl ((i : Nat) : Int) 1 ((i + 1 : Nat) : Int) rfl rfl (by omega) (by omega) (by omega) _) ?_
    refine nr ?_; intro U h; simp only [z0, z1] at h; subst h
    refine s_val 10 rfl rfl (.int .i64 ((i + 1 : Nat) : Int)) (rfl) ?_
    refine nr ?_; intro U h; simp only [z0, z1] at h; subst h
    refine wpList_nil ?_
    refine then_n ?_
    exact ⟨l.length + 1 - (i + 1), by omega, i + 1, no2, nc2, (fun kz => ([.int .i64 ((i : Nat) : Int), .slice ao l.length cap, .int .i64 ((l.length : Nat) : Int), .bool true, .int .i64 ((i : Nat) : Int), .int .i64 ((i + 1 : Nat) : Int), .slice no (fr.length + i) nc, .slice ao l.length cap, .int .i64 ((i : Nat) : Int), .pointer (pK kC ao i 0), .pointer (pK kC ao i 0), .agg (idA (l.getD i zC).id), .slice (some ⟨q1, 0, none⟩) 1 1, .slice no2 ((fr ++ ids (l.take i)) ++ [(l.getD i zC).id]).length nc2] : List Value).getD kz undef), rfl, by rw [hAC2]; rfl, by omega, GG, kg1, hgB, by rw [← ids_step hil, ← List.append_assoc]; exact HO, hB0, hBw⟩
def fxL : List Cd := [mkC 7 1 0 (mkP 0 3), mkC 7 0 2 zP, mkC 20 3 1 zP]
theorem fxA : askC 5 [9] fxL 1 = [mkC 7 0 2 zP, mkC 20 3 1 zP] := by kernel_rfl
theorem three_all {α : Type} {p : α → Prop} {x y z : α} (h : p x) (k : p y) (m : p z) : ∀ u ∈ [x, y, z], p u := fun u hu => by
  simp only [List.mem_cons, List.not_mem_nil, or_false] at hu
  rcases hu with rfl | rfl | rfl
  · exact h
  · exact k
  · exact m
theorem sm_i64 {x : Int} (h1 : 0 ≤ x) (h2 : x ≤ 100) : I64 x := ⟨by omega, by omega⟩
end Go.Proofs.Ytfabgonoonanfaa
