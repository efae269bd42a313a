/- What is chosen: the program's and the document's; entries laid into tables. -/
import Derived.Test.YtipfllalfifheaaR4
import Derived.Test.YtipfllalfifheaaP16
namespace Go.Proofs.Ytipfllalfifheaa
open Go.RowKit Go.Maps

theorem chs_step {d : Nat} {b : Ch} {M : List Ch} {i : Nat} (hi : i < M.length) : chs d b (M.take (i + 1)) = stp d (chs d b (M.take i)) (M.getD i zC) := by rw [take_at zC M i hi, chs_app]
theorem stp_yes {d : Nat} {b c : Ch} (h : bef d c b = true) : stp d b c = c := if_pos h
theorem stp_no {d : Nat} {b c : Ch} (h : bef d c b = false) : stp d b c = b := if_neg (by rw [h]; decide)
theorem knw_0 (s : Nat) (N : List Nr) (L : List En) : (knw s N L).getD 0 zC = selfC s := rfl
theorem knw_pos (s : Nat) (N : List Nr) (L : List En) : 0 < (knw s N L).length := by unfold knw; simp
theorem knw_b {s : Nat} {N : List Nr} {L : List En} (hN : N.length ≤ 600000) (hL : L.length ≤ 1000) : (knw s N L).length ≤ 700000 := by
  have := knw_len s N L
  omega
/-- The document's way: the first one than which none is before. -/
def stpD (d : Nat) (b c : Ch) : Ch := if befD d c b = true then c else b
def chsD (d : Nat) (b : Ch) (l : List Ch) : Ch := l.foldl (stpD d) b
def choD (d s : Nat) (N : List Nr) (L : List En) : Ch := chsD d (selfC s) (knw s N L)
theorem chsD_step {d : Nat} {b : Ch} {M : List Ch} {i : Nat} (hi : i < M.length) : chsD d b (M.take (i + 1)) = stpD d (chsD d b (M.take i)) (M.getD i zC) := by rw [take_at zC M i hi]; simp [chsD]
theorem stpD_yes {d : Nat} {b c : Ch} (h : befD d c b = true) : stpD d b c = c := if_pos h
theorem stpD_no {d : Nat} {b c : Ch} (h : befD d c b = false) : stpD d b c = b := if_neg (by rw [h]; decide)
theorem chsD_1 (d s : Nat) (N : List Nr) (L : List En) : (knw s N L).getD 0 zC = chsD d (selfC s) ((knw s N L).take 1) := by
  show selfC s = stpD d (selfC s) (selfC s)
  unfold stpD
  split <;> rfl
/-- A call that lays entries into a table of either side. -/
def LaidP (w : World) (L : List En) (e : Ending) (w' : World) : Prop := ∃ t b ra rc, e = .returned (.tuple #[.pointer (some ⟨t, 0, none⟩), .slice ra L.length rc]) ∧ Gro w w' ∧ w'.heap[t]? = some (.cells (tbA 128 b) 72 (0, 0)) ∧ TM w' b L ∧ OE w' 0 ra rc L
theorem ne_cells {w : World} {a b : Nat} {A B : Array Value} {t1 t2 : TypeId} (h1 : w.heap[a]? = some (.cells A t1 (0, 0))) (h2 : w.heap[b]? = some (.cells B t2 (0, 0))) (ht : t1 ≠ t2) : a ∉ [b] := fun hm => by
  rw [List.mem_singleton] at hm
  rw [hm, h2] at h1
  injection h1 with h1
  injection h1 with _ h1
  exact ht h1.symm
theorem lay_step {l : List En} {i : Nat} (hi : i < l.length) : layL [] (l.take (i + 1)) = addL 128 (layL [] (l.take i)) (l.getD i zE) := by rw [take_at zE l i hi, layL_app]
set_option maxRecDepth 100000 in
set_option maxHeartbeats 4000000 in
theorem choose_any (w : World) (d s : Nat) (hd : d < top) (hs : s < top) (an : Option Addr) (cn : Nat) (N : List Nr) (HN : RK kN w an cn N) (hNl : N.length ≤ 600000) (t b room : Nat) (L : List En) (kt : w.heap[t]? = some (.cells (tbA room b) 72 (0, 0))) (HT : TM w b L) (hris : Ris L) (hlen : L.length ≤ 1000) : Calls Try.prog 14 #[.agg (idA d), .agg (idA s), .slice an N.length cn, .pointer (some ⟨t, 0, none⟩)] w (fun e w' => e = .returned (.agg (chA (cho d s N L))) ∧ Gro w w') := by
  refine s_enter Try.func14 rfl Try.ntmps14 [.agg (idA d), .agg (idA s), .slice an N.length cn, .pointer (some ⟨t, 0, none⟩)] [.agg (idA d), .agg (idA s), .slice an N.length cn, .pointer (some ⟨t, 0, none⟩), undef, undef, undef, undef, undef, undef, undef, undef, undef, undef, undef, undef, undef, undef, undef, undef, undef, undef, undef, undef, undef, undef, undef, undef, undef, undef, undef, undef, undef] rfl ?_
  have GG := Gro.refl w
  have HAll := HT.all
  have HKn : AllC (knw s N L) := knw_ok hs HN.all HAll
  refine wp_seq ?_
  refine wp_region_lit ?_
  refine s_box 4 rfl rfl 23 _ rfl _ rfl (idA d) rfl ?_
  intro w1 g1 G eg1 kg1
  have bg1 := size_base GG eg1
  replace GG := GG.trans G
  clear G
  clear eg1
  refine nr ?_; intro U h; simp only [z0, z1] at h; subst h
  refine s_box 5 rfl rfl 23 _ rfl _ rfl (idA s) rfl ?_
  intro w2 g2 G eg2 kg2
  have bg2 := size_base GG eg2
  have dg1g2 := lt_new kg1 eg2
  replace kg1 := G.has kg1
  replace GG := GG.trans G
  clear G
  clear eg2
  refine nr ?_; intro U h; simp only [z0, z1] at h; subst h
  refine s_alloc 8 rfl rfl 40 rfl _ zeroC (chA zC) rfl ?_
  intro w3 g3 G eg3 kg3
  have bg3 := size_base GG eg3
  have dg1g3 := lt_new kg1 eg3
  have dg2g3 := lt_new kg2 eg3
  replace kg1 := G.has kg1
  replace kg2 := G.has kg2
  replace GG := GG.trans G
  clear G
  clear eg3
  refine nr ?_; intro U h; simp only [z0, z1] at h; subst h
  refine wpList_nil ?_
  refine then_n ?_
  refine wp_seq ?_
  refine wp_region_lit ?_
  refine s_val 13 rfl rfl (.agg (idA s)) (ldI0 _ rfl g2 rfl (kg2)) ?_
  refine nr ?_; intro U h; simp only [z0, z1] at h; subst h
  refine s_val 14 rfl rfl (.slice an N.length cn) (rfl) ?_
  refine nr ?_; intro U h; simp only [z0, z1] at h; subst h
  refine s_val 15 rfl rfl (.pointer (some ⟨t, 0, none⟩)) (rfl) ?_
  refine nr ?_; intro U h; simp only [z0, z1] at h; subst h
  refine s_callx 16 rfl rfl _ 11 Try.call11 rfl rfl _ rfl [.agg (idA s), .slice an N.length cn, .pointer (some ⟨t, 0, none⟩)] rfl (known_any _ s hs an cn N (HN.gro GG) hNl t b room L (GG.has kt) (HT.gro GG) hris hlen) (by rintro _ _ ⟨_, _, he, _⟩; exact ⟨_, he⟩) ?_
  rintro v w4 ⟨ao1, cap1, he, G, HO1⟩
  cases he
  replace HO1 := HO1.mono GG.size
  replace kg1 := G.has kg1
  replace kg2 := G.has kg2
  replace kg3 := G.has kg3
  replace GG := GG.trans G
  clear G
  have HR1 := HO1.re
  refine nr ?_; intro U h; simp only [z0, z1] at h; subst h
  refine s_val 9 rfl rfl (.slice ao1 (knw s N L).length cap1) (rfl) ?_
  refine nr ?_; intro U h; simp only [z0, z1] at h; subst h
  refine wpList_nil ?_
  refine then_n ?_
  refine wp_seq ?_
  refine wp_region_lit ?_
  refine s_val 17 rfl rfl (.slice ao1 (knw s N L).length cap1) (rfl) ?_
  refine nr ?_; intro U h; simp only [z0, z1] at h; subst h
  refine s_val 18 rfl rfl (.pointer (pK kC ao1 0 0)) (run_ixK rC (HR1) _ _ rfl rfl 0 rfl (knw_pos _ _ _)) ?_
  refine nr ?_; intro U h; simp only [z0, z1] at h; subst h
  refine s_val 19 rfl rfl (.agg (chA ((knw s N L).getD 0 zC))) (run_ldKC (HR1) _ rfl 0 rfl (knw_pos _ _ _)) ?_
  refine nr ?_; intro U h; simp only [z0, z1] at h; subst h
  refine s_alloc 10 rfl rfl 40 rfl _ zeroC (chA zC) rfl ?_
  intro w5 g4 G eg4 kg4
  have bg4 := size_base GG eg4
  have dg1g4 := lt_new kg1 eg4
  have dg2g4 := lt_new kg2 eg4
  have dg3g4 := lt_new kg3 eg4
  have dHR1g4 := HR1.ne eg4
  have dHO1g4 := HO1.ne eg4
  replace kg1 := G.has kg1
  replace kg2 := G.has kg2
  replace kg3 := G.has kg3
  replace HR1 := HR1.gro G
  replace HO1 := HO1.gro G
  replace GG := GG.trans G
  clear G
  clear eg4
  refine nr ?_; intro U h; simp only [z0, z1] at h; subst h
  refine s_store rfl rfl 40 _ _ rfl g4 0 rfl (.agg (chA ((knw s N L).getD 0 zC))) rfl 40 _ kg4 (chA ((knw s N L).getD 0 zC)) rfl (siC' _) (chA_fit _ _) (chA_one _) (chA ((knw s N L).getD 0 zC)) (splice_whole _ _ (chA_sz _ _)) ?_
  intro w6 St
  have kS := kg4
  replace kg1 := St.has (by omega) kg1
  replace kg2 := St.has (by omega) kg2
  replace kg3 := St.has (by omega) kg3
  replace HR1 := HR1.st St dHR1g4
  replace HO1 := HO1.st St dHO1g4
  replace GG := GG.store St bg4
  replace kg4 := St.new
  clear St
  refine wpList_nil ?_
  refine then_n ?_
  refine wp_seq ?_
  refine wp_seq ?_
  refine wp_region_lit ?_
  refine s_val 20 rfl rfl (.slice ao1 (knw s N L).length cap1) (rfl) ?_
  refine nr ?_; intro U h; simp only [z0, z1] at h; subst h
  refine s_val 21 rfl rfl (.int .i64 (((knw s N L).length : Nat) : Int)) (run_len Try.underlying32 _ rfl _ _ _ rfl _) ?_
  refine nr ?_; intro U h; simp only [z0, z1] at h; subst h
  refine s_val 22 rfl rfl (.int .i64 0) (rfl) ?_
  refine nr ?_; intro U h; simp only [z0, z1] at h; subst h
  refine wpList_nil ?_
  refine then_n ?_
  refine wp_block ?_
  refine wp_loopN (fun mz az wv => ∃ (i : Nat) (us1 : Nat → Value), mz = (knw s N L).length + 1 - i ∧ az = ⟨[.agg (idA d), .agg (idA s), .slice an N.length cn, .pointer (some ⟨t, 0, none⟩), .pointer (some ⟨g1, 0, none⟩), .pointer (some ⟨g2, 0, none⟩), undef, undef, .pointer (some ⟨g3, 0, none⟩), .slice ao1 (knw s N L).length cap1, .pointer (some ⟨g4, 0, none⟩), undef, us1 0, .agg (idA s), .slice an N.length cn, .pointer (some ⟨t, 0, none⟩), .slice ao1 (knw s N L).length cap1, .slice ao1 (knw s N L).length cap1, .pointer (pK kC ao1 0 0), .agg (chA ((knw s N L).getD 0 zC)), .slice ao1 (knw s N L).length cap1, .int .i64 (((knw s N L).length : Nat) : Int), .int .i64 ((i : Nat) : Int), us1 1, us1 2, us1 3, us1 4, us1 5, us1 6, us1 7, us1 8, us1 9, undef].toArray, []⟩ ∧ i ≤ (knw s N L).length ∧ Gro w wv ∧ wv.heap[g1]? = some (.cells (idA d) 23 (0, 0)) ∧ wv.heap[g3]? = some (.cells (chA zC) 40 (0, 0)) ∧ wv.heap[g4]? = some (.cells (chA (chs d (selfC s) ((knw s N L).take i))) 40 (0, 0)) ∧ RK kC wv ao1 cap1 (knw s N L)) ?_ _ ⟨0, (fun kz => ([undef, undef, undef, undef, undef, undef, undef, undef, undef, undef] : List Value).getD kz undef), rfl, rfl, Nat.zero_le _, GG, kg1, kg3, kg4, HR1⟩
  clear GG kg1 kg3 kg4 HR1
  rintro mz az wv ⟨i, us1, rfl, rfl, hi, GG, kg1, kg3, kg4, HR1⟩
  have hkl := knw_b (s := s) hNl hlen
  refine wp_seq ?_
  refine wp_region_lit ?_
  cases hi1 : decide (((i : Nat) : Int) < (((knw s N L).length : Nat) : Int))
  · have hie : i = (knw s N L).length := by have := of_decide_eq_false hi1; omega
    refine s_val 23 rfl rfl (.bool false) (run_lssT 3 _ _ _ rfl ((i : Nat) : Int) (((knw s N L).length : Nat) : Int) rfl rfl false hi1 _) ?_
    refine nr ?_; intro U h; simp only [z0, z1] at h; subst h
    refine wpList_nil ?_
    refine then_n ?_
    refine wp_seq ?_
    refine wp_cond_false rfl ?_
    refine wp_exit ?_
    refine then_x ?_
    refine then_x ?_
    refine blk_x ?_
    refine then_n ?_
    refine wp_seq ?_
    refine wp_region_lit ?_
    refine s_val 32 rfl rfl (.agg (chA (chs d (selfC s) ((knw s N L).take i)))) (ldC0 _ rfl g4 rfl (kg4)) ?_
    refine nr ?_; intro U h; simp only [z0, z1] at h; subst h
    refine s_store rfl rfl 40 _ _ rfl g3 0 rfl (.agg (chA (chs d (selfC s) ((knw s N L).take i)))) rfl 40 _ kg3 (chA (chs d (selfC s) ((knw s N L).take i))) rfl (siC' _) (chA_fit _ _) (chA_one _) (chA (chs d (selfC s) ((knw s N L).take i))) (splice_whole _ _ (chA_sz _ _)) ?_
    intro w7 St
    have kS := kg3
    replace kg1 := St.has (by omega) kg1
    replace kg4 := St.has (by omega) kg4
    replace GG := GG.store St bg3
    replace kg3 := St.new
    clear St
    refine wpList_nil ?_
    refine then_n ?_
    refine wp_ret ?_
    refine bodyPost_ret (results_cell_row Try.results14 _ _ g3 40 _ (0, 0) _ rfl kg3 Try.underlying40 rfl (siC' _)) rfl ?_
    exact ⟨by rw [hie, List.take_length]; rfl, GG⟩
  · have hil : i < (knw s N L).length := by have := of_decide_eq_true hi1; omega
    refine s_val 23 rfl rfl (.bool true) (run_lssT 3 _ _ _ rfl ((i : Nat) : Int) (((knw s N L).length : Nat) : Int) rfl rfl true hi1 _) ?_
    refine nr ?_; intro U h; simp only [z0, z1] at h; subst h
    refine wpList_nil ?_
    refine then_n ?_
    refine wp_seq ?_
    refine wp_cond_true rfl ?_
    refine wp_skip ?_
    refine then_n ?_
    refine wp_seq ?_
    refine wp_block ?_
    refine wp_seq ?_
    refine wp_region_lit ?_
    refine s_val 24 rfl rfl (.pointer (pK kC ao1 i 0)) (run_ixK rC (HR1) _ _ rfl rfl i rfl (by omega)) ?_
    refine nr ?_; intro U h; simp only [z0, z1] at h; subst h
    refine s_val 25 rfl rfl (.agg (chA ((knw s N L).getD i zC))) (run_ldKC (HR1) _ rfl i rfl (by omega)) ?_
    refine nr ?_; intro U h; simp only [z0, z1] at h; subst h
    refine s_alloc 12 rfl rfl 40 rfl _ zeroC (chA zC) rfl ?_
    intro w7 g5 G eg5 kg5
    have bg5 := size_base GG eg5
    have dg1g5 := lt_new kg1 eg5
    have dg3g5 := lt_new kg3 eg5
    have dg4g5 := lt_new kg4 eg5
    have dHR1g5 := HR1.ne eg5
    replace kg1 := G.has kg1
    replace kg3 := G.has kg3
    replace kg4 := G.has kg4
    replace HR1 := HR1.gro G
    replace GG := GG.trans G
    clear G
    clear eg5
    refine nr ?_; intro U h; simp only [z0, z1] at h; subst h
    refine s_store rfl rfl 40 _ _ rfl g5 0 rfl (.agg (chA ((knw s N L).getD i zC))) rfl 40 _ kg5 (chA ((knw s N L).getD i zC)) rfl (siC' _) (chA_fit _ _) (chA_one _) (chA ((knw s N L).getD i zC)) (splice_whole _ _ (chA_sz _ _)) ?_
    intro w8 St
    have kS := kg5
    replace kg1 := St.has (by omega) kg1
    replace kg3 := St.has (by omega) kg3
    replace kg4 := St.has (by omega) kg4
    replace HR1 := HR1.st St dHR1g5
    replace GG := GG.store St bg5
    replace kg5 := St.new
    clear St
    refine wpList_nil ?_
    refine then_n ?_
    refine wp_seq ?_
    cases hb : decide (bef d ((knw s N L).getD i zC) (chs d (selfC s) ((knw s N L).take i)) = true)
    · refine wp_region_lit ?_
      refine s_val 26 rfl rfl (.agg (idA d)) (ldI0 _ rfl g1 rfl (kg1)) ?_
      refine nr ?_; intro U h; simp only [z0, z1] at h; subst h
      refine s_val 27 rfl rfl (.agg (chA ((knw s N L).getD i zC))) (ldC0 _ rfl g5 rfl (kg5)) ?_
      refine nr ?_; intro U h; simp only [z0, z1] at h; subst h
      refine s_val 28 rfl rfl (.agg (chA (chs d (selfC s) ((knw s N L).take i)))) (ldC0 _ rfl g4 rfl (kg4)) ?_
      refine nr ?_; intro U h; simp only [z0, z1] at h; subst h
      refine s_callv 29 rfl rfl _ 16 Try.call16 rfl rfl _ rfl [.agg (idA d), .agg (chA ((knw s N L).getD i zC)), .agg (chA (chs d (selfC s) ((knw s N L).take i)))] rfl (Calls.bool (before_any d ((knw s N L).getD i zC) (chs d (selfC s) ((knw s N L).take i)) hd (atC HKn hil) (chs_ok (selfC_ok hs) (fun x hx => HKn x (List.mem_of_mem_take hx))) _) (Bool.eq_false_iff.2 (of_decide_eq_false hb))) ?_
      intro w9 G
      replace kg1 := G.has kg1
      replace kg3 := G.has kg3
      replace kg4 := G.has kg4
      replace kg5 := G.has kg5
      replace HR1 := HR1.gro G
      replace GG := GG.trans G
      clear G
      refine nr ?_; intro U h; simp only [z0, z1] at h; subst h
      refine wpList_nil ?_
      refine then_n ?_
      refine wp_cond_false rfl ?_
      refine wp_skip ?_
      refine blk_n ?_
      refine then_n ?_
      refine wp_region_lit ?_
      refine s_val 31 rfl rfl (.int .i64 ((i + 1 : Nat) : Int)) (run_addI 3 _ _ _ rfl ((i : Nat) : Int) 1 ((i + 1 : Nat) : Int) rfl rfl (by omega) (by omega) (by omega) _) ?_
      refine nr ?_; intro U h; simp only [z0, z1] at h; subst h
      refine s_val 22 rfl rfl (.int .i64 ((i + 1 : Nat) : Int)) (rfl) ?_
      refine nr ?_; intro U h; simp only [z0, z1] at h; subst h
      refine wpList_nil ?_
      refine then_n ?_
      have hst := (chs_step (d := d) (b := selfC s) hil).trans (stp_no (Bool.eq_false_iff.2 (of_decide_eq_false hb)))
      exact ⟨(knw s N L).length + 1 - (i + 1), by omega, i + 1, (fun kz => ([.pointer (some ⟨g5, 0, none⟩), .bool true, .pointer (pK kC ao1 i 0), .agg (chA ((knw s N L).getD i zC)), .agg (idA d), .agg (chA ((knw s N L).getD i zC)), .agg (chA (chs d (selfC s) ((knw s N L).take i))), .bool false, us1 8, .int .i64 ((i + 1 : Nat) : Int)] : List Value).getD kz undef), rfl, rfl, by omega, GG, kg1, kg3, by rw [hst]; exact kg4, HR1⟩
    · refine wp_region_lit ?_
      refine s_val 26 rfl rfl (.agg (idA d)) (ldI0 _ rfl g1 rfl (kg1)) ?_
      refine nr ?_; intro U h; simp only [z0, z1] at h; subst h
      refine s_val 27 rfl rfl (.agg (chA ((knw s N L).getD i zC))) (ldC0 _ rfl g5 rfl (kg5)) ?_
      refine nr ?_; intro U h; simp only [z0, z1] at h; subst h
      refine s_val 28 rfl rfl (.agg (chA (chs d (selfC s) ((knw s N L).take i)))) (ldC0 _ rfl g4 rfl (kg4)) ?_
      refine nr ?_; intro U h; simp only [z0, z1] at h; subst h
      refine s_callv 29 rfl rfl _ 16 Try.call16 rfl rfl _ rfl [.agg (idA d), .agg (chA ((knw s N L).getD i zC)), .agg (chA (chs d (selfC s) ((knw s N L).take i)))] rfl (Calls.bool (before_any d ((knw s N L).getD i zC) (chs d (selfC s) ((knw s N L).take i)) hd (atC HKn hil) (chs_ok (selfC_ok hs) (fun x hx => HKn x (List.mem_of_mem_take hx))) _) (of_decide_eq_true hb)) ?_
      intro w9 G
      replace kg1 := G.has kg1
      replace kg3 := G.has kg3
      replace kg4 := G.has kg4
      replace kg5 := G.has kg5
      replace HR1 := HR1.gro G
      replace GG := GG.trans G
      clear G
      refine nr ?_; intro U h; simp only [z0, z1] at h; subst h
      refine wpList_nil ?_
      refine then_n ?_
      refine wp_cond_true rfl ?_
      refine wp_region_lit ?_
      refine s_val 30 rfl rfl (.agg (chA ((knw s N L).getD i zC))) (ldC0 _ rfl g5 rfl (kg5)) ?_
      refine nr ?_; intro U h; simp only [z0, z1] at h; subst h
      refine s_store rfl rfl 40 _ _ rfl g4 0 rfl (.agg (chA ((knw s N L).getD i zC))) rfl 40 _ kg4 (chA ((knw s N L).getD i zC)) rfl (siC' _) (chA_fit _ _) (chA_one _) (chA ((knw s N L).getD i zC)) (splice_whole _ _ (chA_sz _ _)) ?_
      intro w10 St
      have kS := kg4
      replace kg1 := St.has (by omega) kg1
      replace kg3 := St.has (by omega) kg3
      replace kg5 := St.has (by omega) kg5
      replace HR1 := HR1.st St dHR1g4
      replace GG := GG.store St bg4
      replace kg4 := St.new
      clear St
      refine wpList_nil ?_
      refine blk_n ?_
      refine then_n ?_
      refine wp_region_lit ?_
      refine s_val 31 rfl rfl (.int .i64 ((i + 1 : Nat) : Int)) (run_addI 3 _ _ _ rfl ((i : Nat) : Int) 1 ((i + 1 : Nat) : Int) rfl rfl (by omega) (by omega) (by omega) _) ?_
      refine nr ?_; intro U h; simp only [z0, z1] at h; subst h
      refine s_val 22 rfl rfl (.int .i64 ((i + 1 : Nat) : Int)) (rfl) ?_
      refine nr ?_; intro U h; simp only [z0, z1] at h; subst h
      refine wpList_nil ?_
      refine then_n ?_
      have hst := (chs_step (d := d) (b := selfC s) hil).trans (stp_yes (of_decide_eq_true hb))
      exact ⟨(knw s N L).length + 1 - (i + 1), by omega, i + 1, (fun kz => ([.pointer (some ⟨g5, 0, none⟩), .bool true, .pointer (pK kC ao1 i 0), .agg (chA ((knw s N L).getD i zC)), .agg (idA d), .agg (chA ((knw s N L).getD i zC)), .agg (chA (chs d (selfC s) ((knw s N L).take i))), .bool true, .agg (chA ((knw s N L).getD i zC)), .int .i64 ((i + 1 : Nat) : Int)] : List Value).getD kz undef), rfl, rfl, by omega, GG, kg1, kg3, by rw [hst]; exact kg4, HR1⟩
set_option maxRecDepth 100000 in
set_option maxHeartbeats 4000000 in
theorem rchoose_any (w : World) (d s : Nat) (hd : d < top) (hs : s < top) (an : Option Addr) (cn : Nat) (N : List Nr) (HN : RK kN w an cn N) (hNl : N.length ≤ 600000) (ao : Option Addr) (cap : Nat) (L : List En) (HL : RE w ao cap L) (hlen : L.length ≤ 1000) : Calls Try.prog 15 #[.agg (idA d), .agg (idA s), .slice an N.length cn, .slice ao L.length cap] w (fun e w' => e = .returned (.agg (chA (choD d s N L))) ∧ Gro w w') := by
  refine s_enter Try.func15 rfl Try.ntmps15 [.agg (idA d), .agg (idA s), .slice an N.length cn, .slice ao L.length cap] [.agg (idA d), .agg (idA s), .slice an N.length cn, .slice ao L.length cap, undef, undef, undef, undef, undef, undef, undef, undef, undef, undef, undef, undef, undef, undef, undef, undef, undef, undef, undef, undef, undef, undef, undef, undef, undef, undef, undef, undef, undef, undef, undef, undef, undef] rfl ?_
  have GG := Gro.refl w
  have HAll := HL.all
  have HKn : AllC (knw s N L) := knw_ok hs HN.all HAll
  refine wp_seq ?_
  refine wp_region_lit ?_
  refine s_box 4 rfl rfl 23 _ rfl _ rfl (idA d) rfl ?_
  intro w1 g1 G eg1 kg1
  have bg1 := size_base GG eg1
  replace GG := GG.trans G
  clear G
  clear eg1
  refine nr ?_; intro U h; simp only [z0, z1] at h; subst h
  refine s_box 5 rfl rfl 23 _ rfl _ rfl (idA s) rfl ?_
  intro w2 g2 G eg2 kg2
  have bg2 := size_base GG eg2
  have dg1g2 := lt_new kg1 eg2
  replace kg1 := G.has kg1
  replace GG := GG.trans G
  clear G
  clear eg2
  refine nr ?_; intro U h; simp only [z0, z1] at h; subst h
  refine s_alloc 8 rfl rfl 42 rfl _ zeroD (chA zC) rfl ?_
  intro w3 g3 G eg3 kg3
  have bg3 := size_base GG eg3
  have dg1g3 := lt_new kg1 eg3
  have dg2g3 := lt_new kg2 eg3
  replace kg1 := G.has kg1
  replace kg2 := G.has kg2
  replace GG := GG.trans G
  clear G
  clear eg3
  refine nr ?_; intro U h; simp only [z0, z1] at h; subst h
  refine wpList_nil ?_
  refine then_n ?_
  refine wp_seq ?_
  refine wp_region_lit ?_
  refine s_val 12 rfl rfl (.agg (idA s)) (ldI0 _ rfl g2 rfl (kg2)) ?_
  refine nr ?_; intro U h; simp only [z0, z1] at h; subst h
  refine s_val 13 rfl rfl (.slice an N.length cn) (rfl) ?_
  refine nr ?_; intro U h; simp only [z0, z1] at h; subst h
  refine s_val 14 rfl rfl (.slice ao L.length cap) (rfl) ?_
  refine nr ?_; intro U h; simp only [z0, z1] at h; subst h
  refine s_callx 15 rfl rfl _ 12 Try.call12 rfl rfl _ rfl [.agg (idA s), .slice an N.length cn, .slice ao L.length cap] rfl (rknown_any _ s hs an cn N (HN.gro GG) hNl ao cap L (HL.gro GG) hlen) (by rintro _ _ ⟨_, _, he, _⟩; exact ⟨_, he⟩) ?_
  rintro v w4 ⟨ao1, cap1, he, G, HO1⟩
  cases he
  replace HO1 := HO1.mono GG.size
  replace kg1 := G.has kg1
  replace kg2 := G.has kg2
  replace kg3 := G.has kg3
  replace GG := GG.trans G
  clear G
  have HR1 := HO1.re
  refine nr ?_; intro U h; simp only [z0, z1] at h; subst h
  refine s_val 9 rfl rfl (.slice ao1 (knw s N L).length cap1) (rfl) ?_
  refine nr ?_; intro U h; simp only [z0, z1] at h; subst h
  refine wpList_nil ?_
  refine then_n ?_
  refine wp_seq ?_
  refine wp_region_lit ?_
  refine s_val 10 rfl rfl (.int .i64 0) (rfl) ?_
  refine nr ?_; intro U h; simp only [z0, z1] at h; subst h
  refine wpList_nil ?_
  refine then_n ?_
  refine wp_seq ?_
  refine wp_seq ?_
  refine wp_region_lit ?_
  refine s_val 11 rfl rfl (.int .i64 1) (rfl) ?_
  refine nr ?_; intro U h; simp only [z0, z1] at h; subst h
  refine wpList_nil ?_
  refine then_n ?_
  refine wp_block ?_
  have hkp := knw_pos s N L
  refine wp_loopN (fun mz az wv => ∃ (i : Nat) (bi : Nat) (us1 : Nat → Value), mz = (knw s N L).length + 1 - i ∧ az = ⟨[.agg (idA d), .agg (idA s), .slice an N.length cn, .slice ao L.length cap, .pointer (some ⟨g1, 0, none⟩), .pointer (some ⟨g2, 0, none⟩), undef, undef, .pointer (some ⟨g3, 0, none⟩), .slice ao1 (knw s N L).length cap1, .int .i64 ((bi : Nat) : Int), .int .i64 ((i : Nat) : Int), .agg (idA s), .slice an N.length cn, .slice ao L.length cap, .slice ao1 (knw s N L).length cap1, us1 0, us1 1, us1 2, us1 3, us1 4, us1 5, us1 6, us1 7, us1 8, us1 9, us1 10, us1 11, us1 12, us1 13, us1 14, us1 15, us1 16, undef, undef, undef, undef].toArray, []⟩ ∧ i ≤ (knw s N L).length ∧ bi < (knw s N L).length ∧ ((knw s N L).getD bi zC) = chsD d (selfC s) ((knw s N L).take i) ∧ Gro w wv ∧ wv.heap[g1]? = some (.cells (idA d) 23 (0, 0)) ∧ wv.heap[g3]? = some (.cells (chA zC) 42 (0, 0)) ∧ RK kC wv ao1 cap1 (knw s N L)) ?_ _ ⟨1, 0, (fun kz => ([undef, undef, undef, undef, undef, undef, undef, undef, undef, undef, undef, undef, undef, undef, undef, undef, undef] : List Value).getD kz undef), rfl, rfl, by omega, hkp, chsD_1 d s N L, GG, kg1, kg3, HR1⟩
  clear GG kg1 kg3 HR1
  rintro mz az wv ⟨i, bi, us1, rfl, rfl, hi, hbi, hbest, GG, kg1, kg3, HR1⟩
  have hkl := knw_b (s := s) hNl hlen
  refine wp_seq ?_
  refine wp_seq ?_
  refine wp_region_lit ?_
  refine s_val 16 rfl rfl (.int .i64 ((i : Nat) : Int)) (rfl) ?_
  refine nr ?_; intro U h; simp only [z0, z1] at h; subst h
  refine s_val 17 rfl rfl (.slice ao1 (knw s N L).length cap1) (rfl) ?_
  refine nr ?_; intro U h; simp only [z0, z1] at h; subst h
  refine s_val 18 rfl rfl (.int .i64 (((knw s N L).length : Nat) : Int)) (run_len Try.underlying34 _ rfl _ _ _ rfl _) ?_
  refine nr ?_; intro U h; simp only [z0, z1] at h; subst h
  cases hi1 : decide (((i : Nat) : Int) < (((knw s N L).length : Nat) : Int))
  · have hie : i = (knw s N L).length := by have := of_decide_eq_false hi1; omega
    refine s_val 19 rfl rfl (.bool false) (run_lssT 3 _ _ _ rfl ((i : Nat) : Int) (((knw s N L).length : Nat) : Int) rfl rfl false hi1 _) ?_
    refine nr ?_; intro U h; simp only [z0, z1] at h; subst h
    refine wpList_nil ?_
    refine then_n ?_
    refine wp_cond_false rfl ?_
    refine wp_exit ?_
    refine then_x ?_
    refine then_x ?_
    refine blk_x ?_
    refine then_n ?_
    refine wp_seq ?_
    refine wp_region_lit ?_
    refine s_val 33 rfl rfl (.slice ao1 (knw s N L).length cap1) (rfl) ?_
    refine nr ?_; intro U h; simp only [z0, z1] at h; subst h
    refine s_val 34 rfl rfl (.int .i64 ((bi : Nat) : Int)) (rfl) ?_
    refine nr ?_; intro U h; simp only [z0, z1] at h; subst h
    refine s_val 35 rfl rfl (.pointer (pK kC ao1 bi 0)) (run_ixK rD (HR1) _ _ rfl rfl bi rfl (by omega)) ?_
    refine nr ?_; intro U h; simp only [z0, z1] at h; subst h
    refine s_val 36 rfl rfl (.agg (chA ((knw s N L).getD bi zC))) (run_ldKD (HR1) _ rfl bi rfl (by omega)) ?_
    refine nr ?_; intro U h; simp only [z0, z1] at h; subst h
    refine s_store rfl rfl 42 _ _ rfl g3 0 rfl (.agg (chA ((knw s N L).getD bi zC))) rfl 42 _ kg3 (chA ((knw s N L).getD bi zC)) rfl (siD' _) (chA_fit _ _) (chA_one _) (chA ((knw s N L).getD bi zC)) (splice_whole _ _ (chA_sz _ _)) ?_
    intro w5 St
    have kS := kg3
    replace kg1 := St.has (by omega) kg1
    replace GG := GG.store St bg3
    replace kg3 := St.new
    clear St
    refine wpList_nil ?_
    refine then_n ?_
    refine wp_ret ?_
    refine bodyPost_ret (results_cell_row Try.results15 _ _ g3 42 _ (0, 0) _ rfl kg3 Try.underlying42 rfl (siD' _)) rfl ?_
    exact ⟨by rw [hbest, hie, List.take_length]; rfl, GG⟩
  · have hil : i < (knw s N L).length := by have := of_decide_eq_true hi1; omega
    refine s_val 19 rfl rfl (.bool true) (run_lssT 3 _ _ _ rfl ((i : Nat) : Int) (((knw s N L).length : Nat) : Int) rfl rfl true hi1 _) ?_
    refine nr ?_; intro U h; simp only [z0, z1] at h; subst h
    refine wpList_nil ?_
    refine then_n ?_
    refine wp_cond_true rfl ?_
    refine wp_skip ?_
    refine then_n ?_
    refine wp_seq ?_
    refine wp_block ?_
    refine wp_seq ?_
    cases hb : decide (befD d ((knw s N L).getD i zC) ((knw s N L).getD bi zC) = true)
    · refine wp_region_exA (A := ?Ax1) 9 [(0, 22), (1, 23), (2, 24), (3, 25), (4, 26), (5, 27), (6, 28), (7, 29), (8, 30)] [.val (.agg (idA d)), .val (.slice ao1 (knw s N L).length cap1), .val (.int .i64 ((i : Nat) : Int)), .val (.pointer (pK kC ao1 i 0)), .val (.agg (chA ((knw s N L).getD i zC))), .val (.slice ao1 (knw s N L).length cap1), .val (.int .i64 ((bi : Nat) : Int)), .val (.pointer (pK kC ao1 bi 0)), .val (.agg (chA ((knw s N L).getD bi zC)))] follows (by kernel_rfl) rfl ?hAx1 (opsA_cons ?o0x1 (opsA_cons ?o1x1 (opsA_cons ?o2x1 (opsA_cons ?o3x1 (opsA_cons ?o4x1 (opsA_cons ?o5x1 (opsA_cons ?o6x1 (opsA_cons ?o7x1 (opsA_cons ?o8x1 opsA_nil))))))))) ?restx1
      case hAx1 =>
        intro ptrs
        simp only [full, foldSlots, filledE, postE, List.foldl_cons, List.foldl_nil, List.getD_cons_zero, List.getD_cons_succ, fill_val, List.set_cons_zero, List.set_cons_succ]
        exact rfl
      case o0x1 => exact fun _ _ hw _ => opE_value (v := .agg (idA d)) rfl (ldI0 _ rfl g1 rfl (hw.has kg1))
      case o1x1 => exact fun _ _ _ _ => opE_move (v := .slice ao1 (knw s N L).length cap1) _ rfl rfl rfl
      case o2x1 => exact fun _ _ _ _ => opE_move (v := .int .i64 ((i : Nat) : Int)) _ rfl rfl rfl
      case o3x1 => exact fun _ _ hw _ => opE_value (v := .pointer (pK kC ao1 i 0)) rfl (run_ixK rD (HR1.gro ((Gro.refl _).drew.trans hw)) _ _ rfl rfl i rfl (by omega))
      case o4x1 => exact fun _ _ hw _ => opE_value (v := .agg (chA ((knw s N L).getD i zC))) rfl (run_ldKD (HR1.gro ((Gro.refl _).drew.trans hw)) _ rfl i rfl (by omega))
      case o5x1 => exact fun _ _ _ _ => opE_move (v := .slice ao1 (knw s N L).length cap1) _ rfl rfl rfl
      case o6x1 => exact fun _ _ _ _ => opE_move (v := .int .i64 ((bi : Nat) : Int)) _ rfl rfl rfl
      case o7x1 => exact fun _ _ hw _ => opE_value (v := .pointer (pK kC ao1 bi 0)) rfl (run_ixK rD (HR1.gro ((Gro.refl _).drew.trans hw)) _ _ rfl rfl bi rfl (by omega))
      case o8x1 => exact fun _ _ hw _ => opE_value (v := .agg (chA ((knw s N L).getD bi zC))) rfl (run_ldKD (HR1.gro ((Gro.refl _).drew.trans hw)) _ rfl bi rfl (by omega))
      intro ptrs w5 GD hxE
      simp only [List.drop_succ_cons, List.drop_zero]
      replace kg1 := GD.has kg1
      replace kg3 := GD.has kg3
      replace HR1 := HR1.gro ((Gro.refl _).drew.trans GD)
      replace GG := GG.drew.trans GD
      clear GD
      refine s_callv 31 rfl rfl _ 17 Try.call17 rfl rfl _ rfl [.agg (idA d), .agg (chA ((knw s N L).getD i zC)), .agg (chA ((knw s N L).getD bi zC))] rfl (Calls.bool (rbefore_any d ((knw s N L).getD i zC) ((knw s N L).getD bi zC) hd (atC HKn hil) (atC HKn hbi) _) (Bool.eq_false_iff.2 (of_decide_eq_false hb))) ?_
      intro w6 G
      replace kg1 := G.has kg1
      replace kg3 := G.has kg3
      replace HR1 := HR1.gro G
      replace GG := GG.trans G
      clear G
      refine nr ?_; intro U h; simp only [z0, z1] at h; subst h
      refine wpList_nil ?_
      refine then_n ?_
      refine wp_cond_false rfl ?_
      refine wp_skip ?_
      refine blk_n ?_
      refine then_n ?_
      refine wp_region_lit ?_
      refine s_val 20 rfl rfl (.int .i64 ((i : Nat) : Int)) (rfl) ?_
      refine nr ?_; intro U h; simp only [z0, z1] at h; subst h
      refine s_val 21 rfl rfl (.int .i64 ((i + 1 : Nat) : Int)) (run_addI 3 _ _ _ rfl ((i : Nat) : Int) 1 ((i + 1 : Nat) : Int) rfl rfl (by omega) (by omega) (by omega) _) ?_
      refine nr ?_; intro U h; simp only [z0, z1] at h; subst h
      refine s_val 11 rfl rfl (.int .i64 ((i + 1 : Nat) : Int)) (rfl) ?_
      refine nr ?_; intro U h; simp only [z0, z1] at h; subst h
      refine wpList_nil ?_
      refine then_n ?_
      have hst := (chsD_step (d := d) (b := selfC s) hil).trans (stpD_no (by rw [← hbest]; exact (Bool.eq_false_iff.2 (of_decide_eq_false hb))))
      exact ⟨(knw s N L).length + 1 - (i + 1), by omega, i + 1, bi, (fun kz => ([.int .i64 ((i : Nat) : Int), .slice ao1 (knw s N L).length cap1, .int .i64 (((knw s N L).length : Nat) : Int), .bool true, .int .i64 ((i : Nat) : Int), .int .i64 ((i + 1 : Nat) : Int), .agg (idA d), .slice ao1 (knw s N L).length cap1, .int .i64 ((i : Nat) : Int), .pointer (pK kC ao1 i 0), .agg (chA ((knw s N L).getD i zC)), .slice ao1 (knw s N L).length cap1, .int .i64 ((bi : Nat) : Int), .pointer (pK kC ao1 bi 0), .agg (chA ((knw s N L).getD bi zC)), .bool false, us1 16] : List Value).getD kz undef), rfl, rfl, by omega, hbi, by rw [hst]; exact hbest, GG, kg1, kg3, HR1⟩
    · refine wp_region_exA (A := ?Ax2) 9 [(0, 22), (1, 23), (2, 24), (3, 25), (4, 26), (5, 27), (6, 28), (7, 29), (8, 30)] [.val (.agg (idA d)), .val (.slice ao1 (knw s N L).length cap1), .val (.int .i64 ((i : Nat) : Int)), .val (.pointer (pK kC ao1 i 0)), .val (.agg (chA ((knw s N L).getD i zC))), .val (.slice ao1 (knw s N L).length cap1), .val (.int .i64 ((bi : Nat) : Int)), .val (.pointer (pK kC ao1 bi 0)), .val (.agg (chA ((knw s N L).getD bi zC)))] follows (by kernel_rfl) rfl ?hAx2 (opsA_cons ?o0x2 (opsA_cons ?o1x2 (opsA_cons ?o2x2 (opsA_cons ?o3x2 (opsA_cons ?o4x2 (opsA_cons ?o5x2 (opsA_cons ?o6x2 (opsA_cons ?o7x2 (opsA_cons ?o8x2 opsA_nil))))))))) ?restx2
      case hAx2 =>
        intro ptrs
        simp only [full, foldSlots, filledE, postE, List.foldl_cons, List.foldl_nil, List.getD_cons_zero, List.getD_cons_succ, fill_val, List.set_cons_zero, List.set_cons_succ]
        exact rfl
      case o0x2 => exact fun _ _ hw _ => opE_value (v := .agg (idA d)) rfl (ldI0 _ rfl g1 rfl (hw.has kg1))
      case o1x2 => exact fun _ _ _ _ => opE_move (v := .slice ao1 (knw s N L).length cap1) _ rfl rfl rfl
      case o2x2 => exact fun _ _ _ _ => opE_move (v := .int .i64 ((i : Nat) : Int)) _ rfl rfl rfl
      case o3x2 => exact fun _ _ hw _ => opE_value (v := .pointer (pK kC ao1 i 0)) rfl (run_ixK rD (HR1.gro ((Gro.refl _).drew.trans hw)) _ _ rfl rfl i rfl (by omega))
      case o4x2 => exact fun _ _ hw _ => opE_value (v := .agg (chA ((knw s N L).getD i zC))) rfl (run_ldKD (HR1.gro ((Gro.refl _).drew.trans hw)) _ rfl i rfl (by omega))
      case o5x2 => exact fun _ _ _ _ => opE_move (v := .slice ao1 (knw s N L).length cap1) _ rfl rfl rfl
      case o6x2 => exact fun _ _ _ _ => opE_move (v := .int .i64 ((bi : Nat) : Int)) _ rfl rfl rfl
      case o7x2 => exact fun _ _ hw _ => opE_value (v := .pointer (pK kC ao1 bi 0)) rfl (run_ixK rD (HR1.gro ((Gro.refl _).drew.trans hw)) _ _ rfl rfl bi rfl (by omega))
      case o8x2 => exact fun _ _ hw _ => opE_value (v := .agg (chA ((knw s N L).getD bi zC))) rfl (run_ldKD (HR1.gro ((Gro.refl _).drew.trans hw)) _ rfl bi rfl (by omega))
      intro ptrs w5 GD hxE
      simp only [List.drop_succ_cons, List.drop_zero]
      replace kg1 := GD.has kg1
      replace kg3 := GD.has kg3
      replace HR1 := HR1.gro ((Gro.refl _).drew.trans GD)
      replace GG := GG.drew.trans GD
      clear GD
      refine s_callv 31 rfl rfl _ 17 Try.call17 rfl rfl _ rfl [.agg (idA d), .agg (chA ((knw s N L).getD i zC)), .agg (chA ((knw s N L).getD bi zC))] rfl (Calls.bool (rbefore_any d ((knw s N L).getD i zC) ((knw s N L).getD bi zC) hd (atC HKn hil) (atC HKn hbi) _) (of_decide_eq_true hb)) ?_
      intro w6 G
      replace kg1 := G.has kg1
      replace kg3 := G.has kg3
      replace HR1 := HR1.gro G
      replace GG := GG.trans G
      clear G
      refine nr ?_; intro U h; simp only [z0, z1] at h; subst h
      refine wpList_nil ?_
      refine then_n ?_
      refine wp_cond_true rfl ?_
      refine wp_region_lit ?_
      refine s_val 32 rfl rfl (.int .i64 ((i : Nat) : Int)) (rfl) ?_
      refine nr ?_; intro U h; simp only [z0, z1] at h; subst h
      refine s_val 10 rfl rfl (.int .i64 ((i : Nat) : Int)) (rfl) ?_
      refine nr ?_; intro U h; simp only [z0, z1] at h; subst h
      refine wpList_nil ?_
      refine blk_n ?_
      refine then_n ?_
      refine wp_region_lit ?_
      refine s_val 20 rfl rfl (.int .i64 ((i : Nat) : Int)) (rfl) ?_
      refine nr ?_; intro U h; simp only [z0, z1] at h; subst h
      refine s_val 21 rfl rfl (.int .i64 ((i + 1 : Nat) : Int)) (run_addI 3 _ _ _ rfl ((i : Nat) : Int) 1 ((i + 1 : Nat) : Int) rfl rfl (by omega) (by omega) (by omega) _) ?_
      refine nr ?_; intro U h; simp only [z0, z1] at h; subst h
      refine s_val 11 rfl rfl (.int .i64 ((i + 1 : Nat) : Int)) (rfl) ?_
      refine nr ?_; intro U h; simp only [z0, z1] at h; subst h
      refine wpList_nil ?_
      refine then_n ?_
      have hst := (chsD_step (d := d) (b := selfC s) hil).trans (stpD_yes (by rw [← hbest]; exact (of_decide_eq_true hb)))
      exact ⟨(knw s N L).length + 1 - (i + 1), by omega, i + 1, i, (fun kz => ([.int .i64 ((i : Nat) : Int), .slice ao1 (knw s N L).length cap1, .int .i64 (((knw s N L).length : Nat) : Int), .bool true, .int .i64 ((i : Nat) : Int), .int .i64 ((i + 1 : Nat) : Int), .agg (idA d), .slice ao1 (knw s N L).length cap1, .int .i64 ((i : Nat) : Int), .pointer (pK kC ao1 i 0), .agg (chA ((knw s N L).getD i zC)), .slice ao1 (knw s N L).length cap1, .int .i64 ((bi : Nat) : Int), .pointer (pK kC ao1 bi 0), .agg (chA ((knw s N L).getD bi zC)), .bool true, .int .i64 ((i : Nat) : Int)] : List Value).getD kz undef), rfl, rfl, by omega, hil, by rw [hst], GG, kg1, kg3, HR1⟩
set_option maxRecDepth 100000 in
set_option maxHeartbeats 4000000 in
theorem laid_any (w : World) (ao0 : Option Addr) (cap0 : Nat) (l : List En) (H : RE w ao0 cap0 l) (hl : l.length ≤ maxLen) : Calls Try.prog 9 #[.slice ao0 l.length cap0] w (LaidP w (layL [] l)) := by
  refine s_enter Try.func9 rfl Try.ntmps9 [.slice ao0 l.length cap0] [.slice ao0 l.length cap0, undef, undef, undef, undef, undef, undef, undef, undef, undef, undef, undef, undef, undef, undef, undef, undef, undef, undef, undef, undef, undef, undef, undef, undef, undef, undef, undef] rfl ?_
  have GG := Gro.refl w
  rw [maxL] at hl
  refine wp_seq ?_
  refine wp_region_lit ?_
  refine s_val 2 rfl rfl (.pointer none) (rfl) ?_
  refine nr ?_; intro U h; simp only [z0, z1] at h; subst h
  refine s_val 3 rfl rfl (.slice none 0 0) (rfl) ?_
  refine nr ?_; intro U h; simp only [z0, z1] at h; subst h
  refine wpList_nil ?_
  refine then_n ?_
  refine wp_seq ?_
  refine wp_region_lit ?_
  refine s_callx 8 rfl rfl _ 23 Try.call23 rfl rfl _ rfl [.int .i64 128] rfl (new_any 128 _) (by rintro _ _ ⟨_, _, he, _⟩; exact ⟨_, he⟩) ?_
  rintro v w1 ⟨t, b, he, G, kt, HTt, h1t, h2t⟩
  cases he
  have bt := Nat.le_trans GG.size h1t
  have bb := Nat.le_trans GG.size h2t
  clear h1t h2t
  replace GG := GG.trans G
  clear G
  refine nr ?_; intro U h; simp only [z0, z1] at h; subst h
  refine s_val 4 rfl rfl (.pointer (some ⟨t, 0, none⟩)) (rfl) ?_
  refine nr ?_; intro U h; simp only [z0, z1] at h; subst h
  refine wpList_nil ?_
  refine then_n ?_
  refine wp_seq ?_
  refine wp_region_lit ?_
  refine s_callx 9 rfl rfl _ 24 Try.call24 rfl rfl _ rfl [.int .i64 128] rfl (rnew_any 128 _) (by rintro _ _ ⟨_, he, _⟩; exact ⟨_, he⟩) ?_
  rintro v w2 ⟨r, he, G, kr, h1r⟩
  cases he
  have br := Nat.le_trans GG.size h1r
  clear h1r
  replace kt := G.has kt
  replace HTt := HTt.gro G
  replace GG := GG.trans G
  clear G
  refine nr ?_; intro U h; simp only [z0, z1] at h; subst h
  refine s_val 5 rfl rfl (.pointer (some ⟨r, 0, none⟩)) (rfl) ?_
  refine nr ?_; intro U h; simp only [z0, z1] at h; subst h
  refine wpList_nil ?_
  refine then_n ?_
  refine wp_seq ?_
  refine wp_seq ?_
  refine wp_region_lit ?_
  refine s_val 10 rfl rfl (.slice ao0 l.length cap0) (rfl) ?_
  refine nr ?_; intro U h; simp only [z0, z1] at h; subst h
  refine s_val 11 rfl rfl (.int .i64 ((l.length : Nat) : Int)) (run_len Try.underlying25 _ rfl _ _ _ rfl _) ?_
  refine nr ?_; intro U h; simp only [z0, z1] at h; subst h
  refine s_val 12 rfl rfl (.int .i64 0) (rfl) ?_
  refine nr ?_; intro U h; simp only [z0, z1] at h; subst h
  refine wpList_nil ?_
  refine then_n ?_
  refine wp_block ?_
  refine wp_loopN (fun mz az wv => ∃ (i : Nat) (ra : Option Addr) (rc : Nat) (us1 : Nat → Value), mz = l.length + 1 - i ∧ az = ⟨[.slice ao0 l.length cap0, undef, .pointer none, .slice none 0 0, .pointer (some ⟨t, 0, none⟩), .pointer (some ⟨r, 0, none⟩), undef, us1 0, .pointer (some ⟨t, 0, none⟩), .pointer (some ⟨r, 0, none⟩), .slice ao0 l.length cap0, .int .i64 ((l.length : Nat) : Int), .int .i64 ((i : Nat) : Int), us1 1, us1 2, us1 3, us1 4, us1 5, us1 6, us1 7, us1 8, us1 9, us1 10, undef, undef, undef, undef, undef].toArray, []⟩ ∧ i ≤ l.length ∧ Gro w wv ∧ wv.heap[t]? = some (.cells (tbA 128 b) 72 (0, 0)) ∧ TM wv b (layL [] (l.take i)) ∧ wv.heap[r]? = some (.cells (rbA ra (layL [] (l.take i)).length rc 128) 65 (0, 0)) ∧ OE wv 0 ra rc (layL [] (l.take i))) ?_ _ ⟨0, none, 0, (fun kz => ([undef, undef, undef, undef, undef, undef, undef, undef, undef, undef, undef] : List Value).getD kz undef), rfl, rfl, Nat.zero_le _, GG, kt, HTt, kr, OE.nil _ _⟩
  clear GG kt kr HTt
  rintro mz az wv ⟨i, ra, rc, us1, rfl, rfl, hi, GG, kt, HTt, kr, HL⟩
  have hLtk : AllE (l.take i) := fun x hx => H.all x (List.mem_of_mem_take hx)
  have hRis := layL_ris AllE.nil Ris.nil hLtk
  have hLf := layL_le (L := l.take i) (M := []) (by decide)
  have hLb : (layL [] (l.take i)).length ≤ 1000 := by omega
  refine wp_seq ?_
  refine wp_region_lit ?_
  cases hi1 : decide (((i : Nat) : Int) < ((l.length : Nat) : Int))
  · have hie : i = l.length := by have := of_decide_eq_false hi1; omega
    refine s_val 13 rfl rfl (.bool false) (run_lssT 3 _ _ _ rfl ((i : Nat) : Int) ((l.length : Nat) : Int) rfl rfl false hi1 _) ?_
    refine nr ?_; intro U h; simp only [z0, z1] at h; subst h
    refine wpList_nil ?_
    refine then_n ?_
    refine wp_seq ?_
    refine wp_cond_false rfl ?_
    refine wp_exit ?_
    refine then_x ?_
    refine then_x ?_
    refine blk_x ?_
    refine then_n ?_
    refine wp_seq ?_
    refine wp_region_exA (A := ?Ax3) 6 [(0, 23), (1, 24), (2, 25), (3, 26), (4, 27), (5, 2)] [.val (.pointer (some ⟨t, 0, none⟩)), .val (.pointer (some ⟨r, 0, none⟩)), .val (.pointer (some ⟨r, 0, none⟩)), .val (.pointer (some ⟨r, 0, none⟩)), .val (.slice ra (layL [] (l.take i)).length rc), .val (.pointer (some ⟨t, 0, none⟩))] follows (by kernel_rfl) rfl ?hAx3 (opsA_cons ?o0x3 (opsA_cons ?o1x3 (opsA_cons ?o2x3 (opsA_cons ?o3x3 (opsA_cons ?o4x3 (opsA_cons ?o5x3 opsA_nil)))))) ?restx3
    case hAx3 =>
      intro ptrs
      simp only [full, foldSlots, filledE, postE, List.foldl_cons, List.foldl_nil, List.getD_cons_zero, List.getD_cons_succ, fill_val, List.set_cons_zero, List.set_cons_succ]
      exact rfl
    case o0x3 => exact fun _ _ _ _ => opE_move (v := .pointer (some ⟨t, 0, none⟩)) _ rfl rfl rfl
    case o1x3 => exact fun _ _ _ _ => opE_move (v := .pointer (some ⟨r, 0, none⟩)) _ rfl rfl rfl
    case o2x3 => exact fun _ _ _ _ => opE_value (v := .pointer (some ⟨r, 0, none⟩)) rfl (run_nc _ rfl _ rfl)
    case o3x3 => exact fun _ _ _ _ => opE_value (v := .pointer (some ⟨r, 0, none⟩)) rfl (run_fld 65 _ 0 rfl r 0 rfl 0 (by kernel_rfl))
    case o4x3 => exact fun _ _ hw _ => opE_value (v := .slice ra (layL [] (l.take i)).length rc) rfl (ldRl _ rfl r rfl (hw.has kr))
    case o5x3 => exact fun _ _ _ _ => opE_assign (v := .pointer (some ⟨t, 0, none⟩)) _ rfl rfl rfl
    intro ptrs w3 GD hxE
    simp only [List.drop_succ_cons, List.drop_zero]
    replace kt := GD.has kt
    replace kr := GD.has kr
    replace HTt := HTt.gro ((Gro.refl _).drew.trans GD)
    replace HL := HL.gro ((Gro.refl _).drew.trans GD)
    replace GG := GG.drew.trans GD
    clear GD
    refine s_val 3 rfl rfl (.slice ra (layL [] (l.take i)).length rc) (rfl) ?_
    refine nr ?_; intro U h; simp only [z0, z1] at h; subst h
    refine wpList_nil ?_
    refine then_n ?_
    refine wp_ret ?_
    refine bodyPost_ret (results_tmp2 Try.results9 _ _ _) rfl ?_
    subst hie
    rw [List.take_length] at *
    exact ⟨t, b, ra, rc, rfl, GG, kt, HTt, HL⟩
  · have hil : i < l.length := by have := of_decide_eq_true hi1; omega
    refine s_val 13 rfl rfl (.bool true) (run_lssT 3 _ _ _ rfl ((i : Nat) : Int) ((l.length : Nat) : Int) rfl rfl true hi1 _) ?_
    refine nr ?_; intro U h; simp only [z0, z1] at h; subst h
    refine wpList_nil ?_
    refine then_n ?_
    refine wp_seq ?_
    refine wp_cond_true rfl ?_
    refine wp_skip ?_
    refine then_n ?_
    refine wp_seq ?_
    refine wp_block ?_
    refine wp_seq ?_
    refine wp_region_lit ?_
    refine s_val 14 rfl rfl (.pointer (pE ao0 i 0)) (run_ixE (H.gro GG) _ _ rfl rfl i rfl (by omega)) ?_
    refine nr ?_; intro U h; simp only [z0, z1] at h; subst h
    refine s_val 15 rfl rfl (.agg (enA (l.getD i zE))) (run_ldE (H.gro GG) _ rfl i rfl (by omega)) ?_
    refine nr ?_; intro U h; simp only [z0, z1] at h; subst h
    refine s_alloc 7 rfl rfl 57 rfl _ zero33 (enA zE) rfl ?_
    intro w3 g1 G eg1 kg1
    have bg1 := size_base GG eg1
    have dtg1 := lt_new kt eg1
    have drg1 := lt_new kr eg1
    have dHTtg1 := HTt.ne eg1
    have dHLg1 := HL.ne eg1
    replace kt := G.has kt
    replace kr := G.has kr
    replace HTt := HTt.gro G
    replace HL := HL.gro G
    replace GG := GG.trans G
    clear G
    clear eg1
    refine nr ?_; intro U h; simp only [z0, z1] at h; subst h
    refine s_store rfl rfl 57 _ _ rfl g1 0 rfl (.agg (enA (l.getD i zE))) rfl 57 _ kg1 (enA (l.getD i zE)) rfl (si33' _) (enA_fit _ _) (enA_one _) (enA (l.getD i zE)) (splice_whole _ _ (enA_sz _ _)) ?_
    intro w4 St
    have kS := kg1
    replace kt := St.has (by omega) kt
    replace kr := St.has (by omega) kr
    replace HTt := HTt.st St dHTtg1
    replace HL := HL.st St dHLg1
    replace GG := GG.store St bg1
    replace kg1 := St.new
    clear St
    refine wpList_nil ?_
    refine then_n ?_
    refine wp_seq ?_
    refine wp_region_lit ?_
    refine s_val 16 rfl rfl (.pointer (some ⟨t, 0, none⟩)) (rfl) ?_
    refine nr ?_; intro U h; simp only [z0, z1] at h; subst h
    refine s_val 17 rfl rfl (.agg (enA (l.getD i zE))) (ldE0 _ rfl g1 rfl (kg1)) ?_
    refine nr ?_; intro U h; simp only [z0, z1] at h; subst h
    refine s_callx 18 rfl rfl _ 25 Try.call25 rfl rfl _ rfl [.pointer (some ⟨t, 0, none⟩), .agg (enA (l.getD i zE))] rfl (add_any _ t b 128 (layL [] (l.take i)) (kt) (HTt) (l.getD i zE) (H.all.at hil)) (by rintro _ _ ⟨he, _⟩; exact ⟨_, he⟩) ?_
    rintro v w5 ⟨he, HT2, G2⟩
    cases he
    replace kt := G2.has kt (by simpa using HTt.nec kt)
    replace kr := G2.has kr (by simpa using HTt.nec kr)
    replace kg1 := G2.has kg1 (by simpa using HTt.nec kg1)
    replace HL := HL.mapw HTt G2
    replace GG := G2.gro GG (by simpa using bb)
    clear HTt G2
    have HTt := HT2
    clear HT2
    refine nr ?_; intro U h; simp only [z0, z1] at h; subst h
    refine wpList_nil ?_
    refine then_n ?_
    refine wp_region_lit ?_
    refine s_val 19 rfl rfl (.pointer (some ⟨r, 0, none⟩)) (rfl) ?_
    refine nr ?_; intro U h; simp only [z0, z1] at h; subst h
    refine s_val 20 rfl rfl (.agg (enA (l.getD i zE))) (ldE0 _ rfl g1 rfl (kg1)) ?_
    refine nr ?_; intro U h; simp only [z0, z1] at h; subst h
    refine s_callx 21 rfl rfl _ 26 Try.call26 rfl rfl _ rfl [.pointer (some ⟨r, 0, none⟩), .agg (enA (l.getD i zE))] rfl (radd_any _ r 128 ra rc (layL [] (l.take i)) (kr) (HL) hLb hRis.kn (l.getD i zE) (H.all.at hil)) (by rintro _ _ ⟨he, _⟩; exact ⟨_, he⟩) ?_
    rintro v w6 ⟨he, ra2, rc2, kr2, HL2, G2⟩
    cases he
    replace kt := G2.has kt (ne_cells kt kr (by decide))
    replace kg1 := G2.has kg1 (ne_cells kg1 kr (by decide))
    replace HTt := HTt.gros G2 (by simpa using (HTt.nec kr).symm)
    replace GG := G2.gro GG (by simpa using br)
    clear kr HL G2
    have kr := kr2
    have HL := HL2
    clear kr2 HL2
    refine nr ?_; intro U h; simp only [z0, z1] at h; subst h
    refine wpList_nil ?_
    refine blk_n ?_
    refine then_n ?_
    refine wp_region_lit ?_
    refine s_val 22 rfl rfl (.int .i64 ((i + 1 : Nat) : Int)) (run_addI 3 _ _ _ rfl ((i : Nat) : Int) 1 ((i + 1 : Nat) : Int) rfl rfl (by omega) (by omega) (by omega) _) ?_
    refine nr ?_; intro U h; simp only [z0, z1] at h; subst h
    refine s_val 12 rfl rfl (.int .i64 ((i + 1 : Nat) : Int)) (rfl) ?_
    refine nr ?_; intro U h; simp only [z0, z1] at h; subst h
    refine wpList_nil ?_
    refine then_n ?_
    exact ⟨l.length + 1 - (i + 1), by omega, i + 1, ra2, rc2, (fun kz => ([.pointer (some ⟨g1, 0, none⟩), .bool true, .pointer (pE ao0 i 0), .agg (enA (l.getD i zE)), .pointer (some ⟨t, 0, none⟩), .agg (enA (l.getD i zE)), .int .i64 (addC 128 (layL [] (l.take i)) (l.getD i zE)), .pointer (some ⟨r, 0, none⟩), .agg (enA (l.getD i zE)), .int .i64 (addC 128 (layL [] (l.take i)) (l.getD i zE)), .int .i64 ((i + 1 : Nat) : Int)] : List Value).getD kz undef), rfl, rfl, by omega, GG, kt, by rw [lay_step hil]; exact HTt, by rw [lay_step hil]; exact kr, by rw [lay_step hil]; exact HL⟩
end Go.Proofs.Ytipfllalfifheaa
