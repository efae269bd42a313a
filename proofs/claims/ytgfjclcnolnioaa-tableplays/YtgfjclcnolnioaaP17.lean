/- Every script of calls is answered as the document says. -/
import Derived.Test.YtgfjclcnolnioaaP16
import Derived.Test.YtgfjclcnolnioaaP13
namespace Go.Proofs.Ytgfjclcnolnioaa
open Classical
open Go.RowKit Go.Maps

theorem ne_cells {w : World} {a b : Nat} {A B : Array Value} {t1 t2 : TypeId} (h1 : w.heap[a]? = some (.cells A t1 (0, 0))) (h2 : w.heap[b]? = some (.cells B t2 (0, 0))) (ht : t1 ≠ t2) : a ∉ [b] := fun hm => by
  rw [List.mem_singleton] at hm
  rw [hm, h2] at h1
  injection h1 with h1
  injection h1 with _ h1
  exact ht h1.symm
def codeE (c : Int) (b : Nat) (L : List En) : PostE := PostE.ex (fun v y => v = .int .i64 c ∧ TM y b L) (fun _ _ _ G h => ⟨h.1, h.2.gro G⟩)
theorem fill_codeE (c : Int) (b : Nat) (L : List En) (v : Value) : (codeE c b L).fill v = v := rfl
set_option maxRecDepth 100000 in
set_option maxHeartbeats 4000000 in
theorem tablePlays_any (w : World) (most : Int) (ao0 : Option Addr) (cap0 : Nat) (l : List Oq) (H : RQ w ao0 cap0 l) (hl : l.length ≤ maxLen) : Calls Try.prog 3 #[.int .i64 most, .slice ao0 l.length cap0] w (fun e w' => e = .returned (.bool true) ∧ Gro w w') := by
  refine s_enter Try.func3 rfl Try.ntmps3 [.int .i64 most, .slice ao0 l.length cap0] [.int .i64 most, .slice ao0 l.length cap0, undef, undef, undef, undef, undef, undef, undef, undef, undef, undef, undef, undef, undef, undef, undef, undef, undef, undef, undef, undef, undef, undef, undef, undef, undef, undef, undef, undef, undef, undef, undef, undef, undef, undef, undef, undef, undef, undef, undef, undef, undef, undef, undef, undef, undef, undef, undef, undef, undef, undef, undef, undef, undef, undef, undef, undef, undef, undef, undef, undef, undef, undef, undef, undef, undef, undef, undef, undef, undef, undef, undef, undef, undef, undef, undef, undef, undef, undef, undef, undef, undef, undef, undef, undef, undef, undef, undef, undef, undef, undef, undef, undef, undef, undef, undef, undef, undef, undef, undef, undef, undef, undef, undef, undef, undef, undef, undef, undef, undef, undef, undef, undef, undef, undef, undef, undef, undef, undef, undef, undef, undef, undef, undef, undef, undef, undef, undef, undef, undef, undef, undef, undef, undef, undef, undef, undef, undef, undef, undef, undef, undef, undef, undef, undef, undef, undef, undef] rfl ?_
  have GG := Gro.refl w
  rw [maxL] at hl
  refine wp_seq ?_
  refine wp_region_lit ?_
  refine s_val 4 rfl rfl (.bool false) (rfl) ?_
  refine nr ?_; intro U h; simp only [z0, z1] at h; subst h
  refine wpList_nil ?_
  refine then_n ?_
  refine wp_seq ?_
  refine wp_region_lit ?_
  refine s_val 17 rfl rfl (.int .i64 most) (rfl) ?_
  refine nr ?_; intro U h; simp only [z0, z1] at h; subst h
  refine s_callx 18 rfl rfl _ 9 Try.call9 rfl rfl _ rfl [.int .i64 most] rfl (new_any most _) (by rintro _ _ ⟨_, _, he, _⟩; exact ⟨_, he⟩) ?_
  rintro v w1 ⟨t, b, he, G, kt, HTt, h1t, h2t⟩
  cases he
  have bt := Nat.le_trans GG.size h1t
  have bb := Nat.le_trans GG.size h2t
  clear h1t h2t
  replace GG := GG.trans G
  clear G
  refine nr ?_; intro U h; simp only [z0, z1] at h; subst h
  refine s_val 5 rfl rfl (.pointer (some ⟨t, 0, none⟩)) (rfl) ?_
  refine nr ?_; intro U h; simp only [z0, z1] at h; subst h
  refine wpList_nil ?_
  refine then_n ?_
  refine wp_seq ?_
  refine wp_region_lit ?_
  refine s_val 19 rfl rfl (.int .i64 most) (rfl) ?_
  refine nr ?_; intro U h; simp only [z0, z1] at h; subst h
  refine s_callx 20 rfl rfl _ 10 Try.call10 rfl rfl _ rfl [.int .i64 most] rfl (rnew_any most _) (by rintro _ _ ⟨_, he, _⟩; exact ⟨_, he⟩) ?_
  rintro v w2 ⟨r, he, G, kr, h1r⟩
  cases he
  have br := Nat.le_trans GG.size h1r
  clear h1r
  replace kt := G.has kt
  replace HTt := HTt.gro G
  replace GG := GG.trans G
  clear G
  refine nr ?_; intro U h; simp only [z0, z1] at h; subst h
  refine s_val 6 rfl rfl (.pointer (some ⟨r, 0, none⟩)) (rfl) ?_
  refine nr ?_; intro U h; simp only [z0, z1] at h; subst h
  refine wpList_nil ?_
  refine then_n ?_
  refine wp_seq ?_
  refine wp_seq ?_
  refine wp_region_opq ?_
  intro OPS hY
  have y2 := hY 2 23 rfl
  clear hY
  refine s_val 21 rfl rfl (.pointer (some ⟨t, 0, none⟩)) (rfl) ?_
  refine nr ?_; intro U h; simp only [z0, z1] at h; subst h
  refine s_val 22 rfl rfl (.bool false) (run_eqnp 23 _ _ _ rfl _ rfl rfl Try.underlying23 _) ?_
  refine nr ?_; intro U h; simp only [z0, z1] at h; subst h
  refine s_val 23 rfl rfl (.bool false) (rfl) ?_
  refine nr ?_; intro U h; simp only [z0, z1] at h; subst h
  refine s_gcallvY 24 rfl rfl y2 rfl _ 11 Try.call11 rfl rfl _ rfl [] rfl (fixed_any _) ?_
  intro w3 G
  replace kt := G.has kt
  replace kr := G.has kr
  replace HTt := HTt.gro G
  replace GG := GG.trans G
  clear G
  refine nr ?_; intro U h; simp only [z0, z1] at h; subst h
  refine s_gvalY 25 rfl rfl y2 rfl (.bool false) (run_nt _ _ rfl true rfl) ?_
  refine nr ?_; intro U h; simp only [z0, z1] at h; subst h
  refine s_val 26 rfl rfl (.bool false) (rfl) ?_
  refine nr ?_; intro U h; simp only [z0, z1] at h; subst h
  refine wpList_nil ?_
  refine then_n ?_
  refine wp_cond_false rfl ?_
  refine wp_skip ?_
  refine then_n ?_
  refine wp_seq ?_
  refine wp_seq ?_
  refine wp_region_lit ?_
  refine s_val 27 rfl rfl (.slice ao0 l.length cap0) (rfl) ?_
  refine nr ?_; intro U h; simp only [z0, z1] at h; subst h
  refine s_val 28 rfl rfl (.int .i64 ((l.length : Nat) : Int)) (run_len Try.underlying22 _ rfl _ _ _ rfl _) ?_
  refine nr ?_; intro U h; simp only [z0, z1] at h; subst h
  refine s_val 29 rfl rfl (.int .i64 0) (rfl) ?_
  refine nr ?_; intro U h; simp only [z0, z1] at h; subst h
  refine wpList_nil ?_
  refine then_n ?_
  refine wp_block ?_
  refine wp_loopN (fun mz az wv => ∃ (i : Nat) (L : List En) (ra : Option Addr) (rc : Nat) (us1 : Nat → Value), mz = l.length + 1 - i ∧ az = ⟨[.int .i64 most, .slice ao0 l.length cap0, undef, undef, us1 0, .pointer (some ⟨t, 0, none⟩), .pointer (some ⟨r, 0, none⟩), us1 1, us1 2, us1 3, us1 4, us1 5, us1 6, us1 7, us1 8, us1 9, us1 10, .int .i64 most, .pointer (some ⟨t, 0, none⟩), .int .i64 most, .pointer (some ⟨r, 0, none⟩), .pointer (some ⟨t, 0, none⟩), .bool false, .bool false, .bool true, .bool false, .bool false, .slice ao0 l.length cap0, .int .i64 ((l.length : Nat) : Int), .int .i64 ((i : Nat) : Int), us1 11, us1 12, us1 13, us1 14, us1 15, us1 16, us1 17, us1 18, us1 19, us1 20, us1 21, us1 22, us1 23, us1 24, us1 25, us1 26, us1 27, us1 28, us1 29, us1 30, us1 31, us1 32, us1 33, us1 34, us1 35, us1 36, us1 37, us1 38, us1 39, us1 40, us1 41, us1 42, us1 43, us1 44, us1 45, us1 46, us1 47, us1 48, us1 49, us1 50, us1 51, us1 52, us1 53, us1 54, us1 55, us1 56, us1 57, us1 58, us1 59, us1 60, us1 61, us1 62, us1 63, us1 64, us1 65, us1 66, us1 67, us1 68, us1 69, us1 70, us1 71, us1 72, us1 73, us1 74, us1 75, us1 76, us1 77, us1 78, us1 79, us1 80, us1 81, us1 82, us1 83, us1 84, us1 85, us1 86, us1 87, us1 88, us1 89, us1 90, us1 91, us1 92, us1 93, us1 94, us1 95, us1 96, us1 97, us1 98, us1 99, us1 100, us1 101, us1 102, us1 103, us1 104, us1 105, us1 106, us1 107, us1 108, us1 109, us1 110, us1 111, us1 112, us1 113, us1 114, us1 115, us1 116, us1 117, us1 118, us1 119, us1 120, us1 121, us1 122, undef, undef, undef, undef, undef, undef, undef].toArray, []⟩ ∧ i ≤ l.length ∧ Gro w wv ∧ wv.heap[t]? = some (.cells (tbA (rmF most) b) 59 (0, 0)) ∧ TM wv b L ∧ wv.heap[r]? = some (.cells (rbA ra L.length rc (rmF most)) 47 (0, 0)) ∧ OE wv 0 ra rc L ∧ TI (rmF most) L) ?_ _ ⟨0, [], none, 0, (fun kz => ([.bool false, undef, undef, undef, undef, undef, undef, undef, undef, undef, undef, undef, undef, undef, undef, undef, undef, undef, undef, undef, undef, undef, undef, undef, undef, undef, undef, undef, undef, undef, undef, undef, undef, undef, undef, undef, undef, undef, undef, undef, undef, undef, undef, undef, undef, undef, undef, undef, undef, undef, undef, undef, undef, undef, undef, undef, undef, undef, undef, undef, undef, undef, undef, undef, undef, undef, undef, undef, undef, undef, undef, undef, undef, undef, undef, undef, undef, undef, undef, undef, undef, undef, undef, undef, undef, undef, undef, undef, undef, undef, undef, undef, undef, undef, undef, undef, undef, undef, undef, undef, undef, undef, undef, undef, undef, undef, undef, undef, undef, undef, undef, undef, undef, undef, undef, undef, undef, undef, undef, undef, undef, undef, undef] : List Value).getD kz undef), rfl, rfl, Nat.zero_le _, GG, kt, HTt, kr, OE.nil _ _, TI.nil _⟩
  clear GG kt kr HTt
  rintro mz az wv ⟨i, L, ra, rc, us1, rfl, rfl, hi, GG, kt, HTt, kr, HL, hTI⟩
  have hLf := Nat.le_trans hTI.fit (rmF_le most)
  have hLb : L.length ≤ 1000 := by omega
  refine wp_seq ?_
  refine wp_region_lit ?_
  cases hj1 : decide (((i : Nat) : Int) < ((l.length : Nat) : Int))
  · refine s_val 30 rfl rfl (.bool false) (run_lssT 3 _ _ _ rfl ((i : Nat) : Int) ((l.length : Nat) : Int) rfl rfl false hj1 _) ?_
    refine nr ?_; intro U h; simp only [z0, z1] at h; subst h
    refine wpList_nil ?_
    refine then_n ?_
    refine wp_seq ?_
    refine wp_cond_false rfl ?_
    refine wp_exit ?_
    refine then_x ?_
    refine then_x ?_
    refine blk_x ?_
    refine then_n ?_
    refine wp_seq ?_
    refine wp_region_exA (A := ?Ax3) 6 [(0, 142), (1, 143), (2, 144), (3, 145), (4, 146), (5, 147)] [.val (.pointer (some ⟨t, 0, none⟩)), rowE L, .val (.pointer (some ⟨r, 0, none⟩)), .val (.pointer (some ⟨r, 0, none⟩)), .val (.pointer (some ⟨r, 0, none⟩)), .val (.slice ra L.length rc)] follows (by kernel_rfl) rfl ?hAx3 (opsA_cons ?o0x3 (opsA_cons ?o1x3 (opsA_cons ?o2x3 (opsA_cons ?o3x3 (opsA_cons ?o4x3 (opsA_cons ?o5x3 opsA_nil)))))) ?restx3
    case hAx3 =>
      intro ptrs
      simp only [full, foldSlots, filledE, postE, List.foldl_cons, List.foldl_nil, List.getD_cons_zero, List.getD_cons_succ, fill_val, fill_rowE, List.set_cons_zero, List.set_cons_succ]
      exact rfl
    case o0x3 => exact fun _ _ _ _ => opE_move (v := .pointer (some ⟨t, 0, none⟩)) _ rfl rfl rfl
    case o1x3 =>
      intro ptrs w' hw hE
      exact opE_call (rowE L) rfl _ 26 Try.call26 rfl rfl _ rfl [.pointer (some ⟨t, 0, none⟩)] rfl ((all_any _ t b (rmF most) L (hw.has kt) (HTt.gro ((Gro.refl _).drew.trans hw)) hTI.ris hLb).mono fun e w' ⟨ao, cap, he, hg, hr⟩ => ⟨_, he, hg, ao, cap, rfl, hr.mono (Nat.zero_le _)⟩)
    case o2x3 => exact fun _ _ _ _ => opE_move (v := .pointer (some ⟨r, 0, none⟩)) _ rfl rfl rfl
    case o3x3 => exact fun _ _ _ _ => opE_value (v := .pointer (some ⟨r, 0, none⟩)) rfl (run_nc _ rfl _ rfl)
    case o4x3 => exact fun _ _ _ _ => opE_value (v := .pointer (some ⟨r, 0, none⟩)) rfl (run_fld 47 _ 0 rfl r 0 rfl 0 (by kernel_rfl))
    case o5x3 => exact fun _ _ hw _ => opE_value (v := .slice ra L.length rc) rfl (ldRl _ rfl r rfl (hw.has kr))
    intro ptrs w4 GD hxE
    simp only [List.drop_succ_cons, List.drop_zero]
    replace kt := GD.has kt
    replace kr := GD.has kr
    replace HTt := HTt.gro ((Gro.refl _).drew.trans GD)
    replace HL := HL.gro ((Gro.refl _).drew.trans GD)
    replace GG := GG.drew.trans GD
    obtain ⟨⟨ao13, cap13, hx13, HR13⟩, _⟩ := hxE
    simp only [hx13]
    clear hx13
    clear GD
    refine s_callv 148 rfl rfl _ 18 Try.call18 rfl rfl _ rfl [.slice ao13 L.length cap13, .slice ra L.length rc] rfl (Calls.bool (same_any _ ao13 cap13 L (HR13.re) (le_maxL hLf) ra rc L (HL.re)) (decide_eq_true rfl)) ?_
    intro w5 G
    replace kt := G.has kt
    replace kr := G.has kr
    replace HTt := HTt.gro G
    replace HL := HL.gro G
    replace HR13 := HR13.gro G
    replace GG := GG.trans G
    clear G
    refine nr ?_; intro U h; simp only [z0, z1] at h; subst h
    refine s_val 4 rfl rfl (.bool true) (rfl) ?_
    refine nr ?_; intro U h; simp only [z0, z1] at h; subst h
    refine wpList_nil ?_
    refine then_n ?_
    refine wp_ret ?_
    refine bodyPost_ret (results_tmp Try.results3 _ _ _) rfl ?_
    exact ⟨rfl, GG⟩
  · have hjl : i < l.length := by have := of_decide_eq_true hj1; omega
    refine s_val 30 rfl rfl (.bool true) (run_lssT 3 _ _ _ rfl ((i : Nat) : Int) ((l.length : Nat) : Int) rfl rfl true hj1 _) ?_
    refine nr ?_; intro U h; simp only [z0, z1] at h; subst h
    refine wpList_nil ?_
    refine then_n ?_
    refine wp_seq ?_
    refine wp_cond_true rfl ?_
    refine wp_skip ?_
    refine then_n ?_
    refine wp_seq ?_
    refine wp_block ?_
    refine wp_seq ?_
    refine wp_region_lit ?_
    refine s_val 31 rfl rfl (.int .i64 ((i : Nat) : Int)) (rfl) ?_
    refine nr ?_; intro U h; simp only [z0, z1] at h; subst h
    refine s_val 32 rfl rfl (.pointer (pO ao0 i)) (run_ixO (H.gro GG) _ _ rfl rfl i rfl (by omega)) ?_
    refine nr ?_; intro U h; simp only [z0, z1] at h; subst h
    refine s_val 33 rfl rfl (.agg (opA (l.getD i zO))) (run_ldO (H.gro GG) _ rfl i rfl (by omega)) ?_
    refine nr ?_; intro U h; simp only [z0, z1] at h; subst h
    refine s_alloc 8 rfl rfl 35 rfl _ zero35 (opA zO) rfl ?_
    intro w4 g1 G eg1 kg1
    have bg1 := size_base GG eg1
    have dtg1 := lt_new kt eg1
    have drg1 := lt_new kr eg1
    have dHTtg1 := HTt.ne eg1
    have dHLg1 := HL.ne eg1
    replace kt := G.has kt
    replace kr := G.has kr
    replace HTt := HTt.gro G
    replace HL := HL.gro G
    replace GG := GG.trans G
    clear G
    clear eg1
    refine nr ?_; intro U h; simp only [z0, z1] at h; subst h
    refine s_val 7 rfl rfl (.int .i64 ((i : Nat) : Int)) (rfl) ?_
    refine nr ?_; intro U h; simp only [z0, z1] at h; subst h
    refine s_store rfl rfl 35 _ _ rfl g1 0 rfl (.agg (opA (l.getD i zO))) rfl 35 _ kg1 (opA (l.getD i zO)) rfl (si35' _) (opA_fit _ _) (opA_one _) (opA (l.getD i zO)) (splice_whole _ _ (opA_sz _ _)) ?_
    intro w5 St
    have kS := kg1
    replace kt := St.has (by omega) kt
    replace kr := St.has (by omega) kr
    replace HTt := HTt.st St dHTtg1
    replace HL := HL.st St dHLg1
    replace GG := GG.store St bg1
    replace kg1 := St.new
    clear St
    refine wpList_nil ?_
    refine then_n ?_
    refine wp_seq ?_
    refine wp_seq ?_
    refine wp_region_lit ?_
    refine s_val 34 rfl rfl (.int .i64 ((i : Nat) : Int)) (rfl) ?_
    refine nr ?_; intro U h; simp only [z0, z1] at h; subst h
    cases h300 : decide (300 < ((i : Nat) : Int))
    · refine s_val 35 rfl rfl (.bool false) (run_gtrT 3 _ _ _ rfl ((i : Nat) : Int) 300 rfl rfl false h300 _) ?_
      refine nr ?_; intro U h; simp only [z0, z1] at h; subst h
      refine wpList_nil ?_
      refine then_n ?_
      refine wp_cond_false rfl ?_
      refine wp_skip ?_
      refine then_n ?_
      refine wp_seq ?_
      refine wp_seq ?_
      refine wp_region_lit ?_
      refine s_val 36 rfl rfl (.pointer (some ⟨g1, 0, none⟩)) (run_fld 35 _ 0 rfl g1 0 rfl 0 (by kernel_rfl)) ?_
      refine nr ?_; intro U h; simp only [z0, z1] at h; subst h
      refine s_val 37 rfl rfl (.int .i64 ((l.getD i zO).k)) (ldOk _ rfl g1 rfl (kg1)) ?_
      refine nr ?_; intro U h; simp only [z0, z1] at h; subst h
      refine wpList_nil ?_
      refine then_n ?_
      refine wp_block ?_
      refine wp_seq ?_
      refine wp_region_lit ?_
      cases k0 : decide ((l.getD i zO).k = 0)
      · refine s_val 45 rfl rfl (.bool false) (run_eq_k 3 .i64 _ _ _ rfl Try.underlying3 ((l.getD i zO).k) 0 rfl rfl false k0 _) ?_
        refine nr ?_; intro U h; simp only [z0, z1] at h; subst h
        refine s_val 44 rfl rfl (.bool false) (rfl) ?_
        refine nr ?_; intro U h; simp only [z0, z1] at h; subst h
        refine wpList_nil ?_
        refine then_n ?_
        refine wp_cond_false rfl ?_
        refine wp_seq ?_
        refine wp_region_lit ?_
        cases k1 : decide ((l.getD i zO).k = 1)
        · refine s_val 56 rfl rfl (.bool false) (run_eq_k 3 .i64 _ _ _ rfl Try.underlying3 ((l.getD i zO).k) 1 rfl rfl false k1 _) ?_
          refine nr ?_; intro U h; simp only [z0, z1] at h; subst h
          refine s_val 55 rfl rfl (.bool false) (rfl) ?_
          refine nr ?_; intro U h; simp only [z0, z1] at h; subst h
          refine wpList_nil ?_
          refine then_n ?_
          refine wp_cond_false rfl ?_
          refine wp_seq ?_
          refine wp_region_lit ?_
          cases k2 : decide ((l.getD i zO).k = 2)
          · refine s_val 82 rfl rfl (.bool false) (run_eq_k 3 .i64 _ _ _ rfl Try.underlying3 ((l.getD i zO).k) 2 rfl rfl false k2 _) ?_
            refine nr ?_; intro U h; simp only [z0, z1] at h; subst h
            refine s_val 81 rfl rfl (.bool false) (rfl) ?_
            refine nr ?_; intro U h; simp only [z0, z1] at h; subst h
            refine wpList_nil ?_
            refine then_n ?_
            refine wp_cond_false rfl ?_
            refine wp_seq ?_
            refine wp_region_lit ?_
            cases k3 : decide ((l.getD i zO).k = 3)
            · refine s_val 108 rfl rfl (.bool false) (run_eq_k 3 .i64 _ _ _ rfl Try.underlying3 ((l.getD i zO).k) 3 rfl rfl false k3 _) ?_
              refine nr ?_; intro U h; simp only [z0, z1] at h; subst h
              refine s_val 107 rfl rfl (.bool false) (rfl) ?_
              refine nr ?_; intro U h; simp only [z0, z1] at h; subst h
              refine wpList_nil ?_
              refine then_n ?_
              refine wp_cond_false rfl ?_
              refine wp_seq ?_
              refine wp_region_lit ?_
              cases k4 : decide ((l.getD i zO).k = 4)
              · refine s_val 120 rfl rfl (.bool false) (run_eq_k 3 .i64 _ _ _ rfl Try.underlying3 ((l.getD i zO).k) 4 rfl rfl false k4 _) ?_
                refine nr ?_; intro U h; simp only [z0, z1] at h; subst h
                refine s_val 119 rfl rfl (.bool false) (rfl) ?_
                refine nr ?_; intro U h; simp only [z0, z1] at h; subst h
                refine wpList_nil ?_
                refine then_n ?_
                refine wp_cond_false rfl ?_
                refine wp_seq ?_
                refine wp_region_lit ?_
                refine s_val 38 rfl rfl (.pointer (some ⟨t, 0, none⟩)) (rfl) ?_
                refine nr ?_; intro U h; simp only [z0, z1] at h; subst h
                refine s_callx 39 rfl rfl _ 23 Try.call23 rfl rfl _ rfl [.pointer (some ⟨t, 0, none⟩)] rfl (own_any _ t b (rmF most) L (kt) (HTt) hTI.ris hLb) (by rintro _ _ ⟨_, _, he, _⟩; exact ⟨_, he⟩) ?_
                rintro v w6 ⟨ao13, cap13, he, G, HO13⟩
                cases he
                replace HO13 := HO13.mono GG.size
                replace kt := G.has kt
                replace kr := G.has kr
                replace kg1 := G.has kg1
                replace HTt := HTt.gro G
                replace HL := HL.gro G
                replace GG := GG.trans G
                clear G
                have HR13 := HO13.re
                refine nr ?_; intro U h; simp only [z0, z1] at h; subst h
                refine s_val 40 rfl rfl (.pointer (some ⟨r, 0, none⟩)) (rfl) ?_
                refine nr ?_; intro U h; simp only [z0, z1] at h; subst h
                refine s_callx 41 rfl rfl _ 24 Try.call24 rfl rfl _ rfl [.pointer (some ⟨r, 0, none⟩)] rfl (rown_any _ r (rmF most) ra rc L (kr) (HL) hLb) (by rintro _ _ ⟨_, _, he, _⟩; exact ⟨_, he⟩) ?_
                rintro v w7 ⟨ao14, cap14, he, G, HO14⟩
                cases he
                replace HO14 := HO14.mono GG.size
                replace kt := G.has kt
                replace kr := G.has kr
                replace kg1 := G.has kg1
                replace HTt := HTt.gro G
                replace HL := HL.gro G
                replace HR13 := HR13.gro G
                replace HO13 := HO13.gro G
                replace GG := GG.trans G
                clear G
                have HR14 := HO14.re
                refine nr ?_; intro U h; simp only [z0, z1] at h; subst h
                refine s_callv 42 rfl rfl _ 18 Try.call18 rfl rfl _ rfl [.slice ao13 ((L.filter ownF).length) cap13, .slice ao14 ((L.filter ownF).length) cap14] rfl (Calls.bool (same_any _ ao13 cap13 (L.filter ownF) (HR13) (le_maxL (Nat.le_trans (List.length_filter_le _ _) hLf)) ao14 cap14 (L.filter ownF) (HR14)) (decide_eq_true rfl)) ?_
                intro w8 G
                replace kt := G.has kt
                replace kr := G.has kr
                replace kg1 := G.has kg1
                replace HTt := HTt.gro G
                replace HL := HL.gro G
                replace HR13 := HR13.gro G
                replace HO13 := HO13.gro G
                replace HR14 := HR14.gro G
                replace HO14 := HO14.gro G
                replace GG := GG.trans G
                clear G
                refine nr ?_; intro U h; simp only [z0, z1] at h; subst h
                refine s_val 43 rfl rfl (.bool false) (run_nt _ _ rfl true rfl) ?_
                refine nr ?_; intro U h; simp only [z0, z1] at h; subst h
                refine wpList_nil ?_
                refine then_n ?_
                refine wp_cond_false rfl ?_
                refine wp_skip ?_
                refine blk_n ?_
                refine then_n ?_
                refine wp_seq ?_
                refine wp_region_exA (A := ?Ax4) 7 [(0, 133), (1, 134), (2, 135), (3, 136), (4, 137), (5, 138), (6, 139)] [.val (.pointer (some ⟨t, 0, none⟩)), .val (.int .i64 ((L.length : Nat) : Int)), .val (.pointer (some ⟨r, 0, none⟩)), .val (.pointer (some ⟨r, 0, none⟩)), .val (.pointer (some ⟨r, 0, none⟩)), .val (.slice ra L.length rc), .val (.int .i64 ((L.length : Nat) : Int))] follows (by kernel_rfl) rfl ?hAx4 (opsA_cons ?o0x4 (opsA_cons ?o1x4 (opsA_cons ?o2x4 (opsA_cons ?o3x4 (opsA_cons ?o4x4 (opsA_cons ?o5x4 (opsA_cons ?o6x4 opsA_nil))))))) ?restx4
                case hAx4 =>
                  intro ptrs
                  simp only [full, foldSlots, filledE, postE, List.foldl_cons, List.foldl_nil, List.getD_cons_zero, List.getD_cons_succ, fill_val, List.set_cons_zero, List.set_cons_succ]
                  exact rfl
                case o0x4 => exact fun _ _ _ _ => opE_move (v := .pointer (some ⟨t, 0, none⟩)) _ rfl rfl rfl
                case o1x4 =>
                  intro ptrs w' hw hE
                  exact opE_call (.val (.int .i64 ((L.length : Nat) : Int))) rfl _ 25 Try.call25 rfl rfl _ rfl [.pointer (some ⟨t, 0, none⟩)] rfl ((len_any _ t b (rmF most) L (hw.has kt) (HTt.gro ((Gro.refl _).drew.trans hw))).mono fun e w' ⟨he, hg⟩ => ⟨_, he, hg, rfl⟩)
                case o2x4 => exact fun _ _ _ _ => opE_move (v := .pointer (some ⟨r, 0, none⟩)) _ rfl rfl rfl
                case o3x4 => exact fun _ _ _ _ => opE_value (v := .pointer (some ⟨r, 0, none⟩)) rfl (run_nc _ rfl _ rfl)
                case o4x4 => exact fun _ _ _ _ => opE_value (v := .pointer (some ⟨r, 0, none⟩)) rfl (run_fld 47 _ 0 rfl r 0 rfl 0 (by kernel_rfl))
                case o5x4 => exact fun _ _ hw _ => opE_value (v := .slice ra L.length rc) rfl (ldRl _ rfl r rfl (hw.has kr))
                case o6x4 => exact fun _ _ _ _ => opE_value (v := .int .i64 ((L.length : Nat) : Int)) rfl (run_len Try.underlying41 _ rfl _ _ _ rfl _)
                intro ptrs w9 GD hxE
                simp only [List.drop_succ_cons, List.drop_zero]
                replace kt := GD.has kt
                replace kr := GD.has kr
                replace kg1 := GD.has kg1
                replace HTt := HTt.gro ((Gro.refl _).drew.trans GD)
                replace HL := HL.gro ((Gro.refl _).drew.trans GD)
                replace HR13 := HR13.gro ((Gro.refl _).drew.trans GD)
                replace HO13 := HO13.gro ((Gro.refl _).drew.trans GD)
                replace HR14 := HR14.gro ((Gro.refl _).drew.trans GD)
                replace HO14 := HO14.gro ((Gro.refl _).drew.trans GD)
                replace GG := GG.drew.trans GD
                clear GD
                refine s_val 140 rfl rfl (.bool false) (run_neq_k 3 .i64 _ _ _ rfl Try.underlying3 ((L.length : Nat) : Int) ((L.length : Nat) : Int) rfl rfl false (decide_eq_true rfl) _) ?_
                refine nr ?_; intro U h; simp only [z0, z1] at h; subst h
                refine wpList_nil ?_
                refine then_n ?_
                refine wp_cond_false rfl ?_
                refine wp_skip ?_
                refine blk_n ?_
                refine then_n ?_
                refine wp_region_lit ?_
                refine s_val 141 rfl rfl (.int .i64 ((i + 1 : Nat) : Int)) (run_addI 3 _ _ _ rfl ((i : Nat) : Int) 1 ((i + 1 : Nat) : Int) rfl rfl (by omega) (by omega) (by omega) _) ?_
                refine nr ?_; intro U h; simp only [z0, z1] at h; subst h
                refine s_val 29 rfl rfl (.int .i64 ((i + 1 : Nat) : Int)) (rfl) ?_
                refine nr ?_; intro U h; simp only [z0, z1] at h; subst h
                refine wpList_nil ?_
                refine then_n ?_
                exact ⟨l.length + 1 - (i + 1), by omega, i + 1, L, ra, rc, (fun kz => ([us1 0, .int .i64 ((i : Nat) : Int), .pointer (some ⟨g1, 0, none⟩), us1 3, us1 4, us1 5, us1 6, us1 7, us1 8, us1 9, us1 10, .bool true, .int .i64 ((i : Nat) : Int), .pointer (pO ao0 i), .agg (opA (l.getD i zO)), .int .i64 ((i : Nat) : Int), .bool false, .pointer (some ⟨g1, 0, none⟩), .int .i64 ((l.getD i zO).k), .pointer (some ⟨t, 0, none⟩), .slice ao13 ((L.filter ownF).length) cap13, .pointer (some ⟨r, 0, none⟩), .slice ao14 ((L.filter ownF).length) cap14, .bool true, .bool false, .bool false, .bool false, us1 27, us1 28, us1 29, us1 30, us1 31, us1 32, us1 33, us1 34, us1 35, .bool false, .bool false, us1 38, us1 39, us1 40, us1 41, us1 42, us1 43, us1 44, us1 45, us1 46, us1 47, us1 48, us1 49, us1 50, us1 51, us1 52, us1 53, us1 54, us1 55, us1 56, us1 57, us1 58, us1 59, us1 60, us1 61, .bool false, .bool false, us1 64, us1 65, us1 66, us1 67, us1 68, us1 69, us1 70, us1 71, us1 72, us1 73, us1 74, us1 75, us1 76, us1 77, us1 78, us1 79, us1 80, us1 81, us1 82, us1 83, us1 84, us1 85, us1 86, us1 87, .bool false, .bool false, us1 90, us1 91, us1 92, us1 93, us1 94, us1 95, us1 96, us1 97, us1 98, us1 99, .bool false, .bool false, us1 102, us1 103, us1 104, us1 105, us1 106, us1 107, us1 108, us1 109, us1 110, us1 111, us1 112, us1 113, .pointer (some ⟨t, 0, none⟩), .int .i64 ((L.length : Nat) : Int), .pointer (some ⟨r, 0, none⟩), .pointer (some ⟨r, 0, none⟩), .pointer (some ⟨r, 0, none⟩), .slice ra L.length rc, .int .i64 ((L.length : Nat) : Int), .bool false, .int .i64 ((i + 1 : Nat) : Int)] : List Value).getD kz undef), rfl, rfl, by omega, GG, kt, HTt, kr, HL, hTI⟩
              · refine s_val 120 rfl rfl (.bool true) (run_eq_k 3 .i64 _ _ _ rfl Try.underlying3 ((l.getD i zO).k) 4 rfl rfl true k4 _) ?_
                refine nr ?_; intro U h; simp only [z0, z1] at h; subst h
                refine s_val 119 rfl rfl (.bool true) (rfl) ?_
                refine nr ?_; intro U h; simp only [z0, z1] at h; subst h
                refine wpList_nil ?_
                refine then_n ?_
                refine wp_cond_true rfl ?_
                refine wp_seq ?_
                refine wp_region_exA (A := ?Ax5) 9 [(0, 121), (1, 122), (2, 123), (3, 124), (4, 125), (5, 126), (6, 127), (7, 128), (8, 129)] [.val (.pointer (some ⟨t, 0, none⟩)), .val (.pointer (some ⟨g1, 2, none⟩)), .val (.pointer (some ⟨g1, 19, none⟩)), .val (.agg (idA ((l.getD i zO).x.a))), rowE (L.filter (toF (l.getD i zO).x.a)), .val (.pointer (some ⟨r, 0, none⟩)), .val (.pointer (some ⟨g1, 2, none⟩)), .val (.pointer (some ⟨g1, 19, none⟩)), .val (.agg (idA ((l.getD i zO).x.a)))] follows (by kernel_rfl) rfl ?hAx5 (opsA_cons ?o0x5 (opsA_cons ?o1x5 (opsA_cons ?o2x5 (opsA_cons ?o3x5 (opsA_cons ?o4x5 (opsA_cons ?o5x5 (opsA_cons ?o6x5 (opsA_cons ?o7x5 (opsA_cons ?o8x5 opsA_nil))))))))) ?restx5
                case hAx5 =>
                  intro ptrs
                  simp only [full, foldSlots, filledE, postE, List.foldl_cons, List.foldl_nil, List.getD_cons_zero, List.getD_cons_succ, fill_val, fill_rowE, List.set_cons_zero, List.set_cons_succ]
                  exact rfl
                case o0x5 => exact fun _ _ _ _ => opE_move (v := .pointer (some ⟨t, 0, none⟩)) _ rfl rfl rfl
                case o1x5 => exact fun _ _ _ _ => opE_value (v := .pointer (some ⟨g1, 2, none⟩)) rfl (run_fld 35 _ 2 rfl g1 0 rfl 2 (by kernel_rfl))
                case o2x5 => exact fun _ _ _ _ => opE_value (v := .pointer (some ⟨g1, 19, none⟩)) rfl (run_fld 33 _ 1 rfl g1 2 rfl 19 (by kernel_rfl))
                case o3x5 => exact fun _ _ hw _ => opE_value (v := .agg (idA ((l.getD i zO).x.a))) rfl (ldOa _ rfl g1 rfl (hw.has kg1))
                case o4x5 =>
                  intro ptrs w' hw hE
                  exact opE_call (rowE (L.filter (toF (l.getD i zO).x.a))) rfl _ 21 Try.call21 rfl rfl _ rfl [.pointer (some ⟨t, 0, none⟩), .agg (idA ((l.getD i zO).x.a))] rfl ((to_any _ t b (rmF most) L (hw.has kt) (HTt.gro ((Gro.refl _).drew.trans hw)) (l.getD i zO).x.a (H.at hjl).x.a hTI.ris hLb).mono fun e w' ⟨ao, cap, he, hg, hr⟩ => ⟨_, he, hg, ao, cap, rfl, hr.mono (Nat.zero_le _)⟩)
                case o5x5 => exact fun _ _ _ _ => opE_move (v := .pointer (some ⟨r, 0, none⟩)) _ rfl rfl rfl
                case o6x5 => exact fun _ _ _ _ => opE_value (v := .pointer (some ⟨g1, 2, none⟩)) rfl (run_fld 35 _ 2 rfl g1 0 rfl 2 (by kernel_rfl))
                case o7x5 => exact fun _ _ _ _ => opE_value (v := .pointer (some ⟨g1, 19, none⟩)) rfl (run_fld 33 _ 1 rfl g1 2 rfl 19 (by kernel_rfl))
                case o8x5 => exact fun _ _ hw _ => opE_value (v := .agg (idA ((l.getD i zO).x.a))) rfl (ldOa _ rfl g1 rfl (hw.has kg1))
                intro ptrs w6 GD hxE
                simp only [List.drop_succ_cons, List.drop_zero]
                replace kt := GD.has kt
                replace kr := GD.has kr
                replace kg1 := GD.has kg1
                replace HTt := HTt.gro ((Gro.refl _).drew.trans GD)
                replace HL := HL.gro ((Gro.refl _).drew.trans GD)
                replace GG := GG.drew.trans GD
                obtain ⟨⟨ao13, cap13, hx13, HR13⟩, _⟩ := hxE
                simp only [hx13]
                clear hx13
                clear GD
                refine s_callx 130 rfl rfl _ 22 Try.call22 rfl rfl _ rfl [.pointer (some ⟨r, 0, none⟩), .agg (idA ((l.getD i zO).x.a))] rfl (rto_any _ r (rmF most) ra rc L (kr) (HL) hLb (l.getD i zO).x.a (H.at hjl).x.a) (by rintro _ _ ⟨_, _, he, _⟩; exact ⟨_, he⟩) ?_
                rintro v w7 ⟨ao14, cap14, he, G, HO14⟩
                cases he
                replace HO14 := HO14.mono GG.size
                replace kt := G.has kt
                replace kr := G.has kr
                replace kg1 := G.has kg1
                replace HTt := HTt.gro G
                replace HL := HL.gro G
                replace HR13 := HR13.gro G
                replace GG := GG.trans G
                clear G
                have HR14 := HO14.re
                refine nr ?_; intro U h; simp only [z0, z1] at h; subst h
                refine s_callv 131 rfl rfl _ 18 Try.call18 rfl rfl _ rfl [.slice ao13 ((L.filter (toF (l.getD i zO).x.a)).length) cap13, .slice ao14 ((L.filter (toF (l.getD i zO).x.a)).length) cap14] rfl (Calls.bool (same_any _ ao13 cap13 (L.filter (toF (l.getD i zO).x.a)) (HR13.re) (le_maxL (Nat.le_trans (List.length_filter_le _ _) hLf)) ao14 cap14 (L.filter (toF (l.getD i zO).x.a)) (HR14)) (decide_eq_true rfl)) ?_
                intro w8 G
                replace kt := G.has kt
                replace kr := G.has kr
                replace kg1 := G.has kg1
                replace HTt := HTt.gro G
                replace HL := HL.gro G
                replace HR13 := HR13.gro G
                replace HR14 := HR14.gro G
                replace HO14 := HO14.gro G
                replace GG := GG.trans G
                clear G
                refine nr ?_; intro U h; simp only [z0, z1] at h; subst h
                refine s_val 132 rfl rfl (.bool false) (run_nt _ _ rfl true rfl) ?_
                refine nr ?_; intro U h; simp only [z0, z1] at h; subst h
                refine wpList_nil ?_
                refine then_n ?_
                refine wp_cond_false rfl ?_
                refine wp_skip ?_
                refine blk_n ?_
                refine then_n ?_
                refine wp_seq ?_
                refine wp_region_exA (A := ?Ax6) 7 [(0, 133), (1, 134), (2, 135), (3, 136), (4, 137), (5, 138), (6, 139)] [.val (.pointer (some ⟨t, 0, none⟩)), .val (.int .i64 ((L.length : Nat) : Int)), .val (.pointer (some ⟨r, 0, none⟩)), .val (.pointer (some ⟨r, 0, none⟩)), .val (.pointer (some ⟨r, 0, none⟩)), .val (.slice ra L.length rc), .val (.int .i64 ((L.length : Nat) : Int))] follows (by kernel_rfl) rfl ?hAx6 (opsA_cons ?o0x6 (opsA_cons ?o1x6 (opsA_cons ?o2x6 (opsA_cons ?o3x6 (opsA_cons ?o4x6 (opsA_cons ?o5x6 (opsA_cons ?o6x6 opsA_nil))))))) ?restx6
                case hAx6 =>
                  intro ptrs
                  simp only [full, foldSlots, filledE, postE, List.foldl_cons, List.foldl_nil, List.getD_cons_zero, List.getD_cons_succ, fill_val, List.set_cons_zero, List.set_cons_succ]
                  exact rfl
                case o0x6 => exact fun _ _ _ _ => opE_move (v := .pointer (some ⟨t, 0, none⟩)) _ rfl rfl rfl
                case o1x6 =>
                  intro ptrs w' hw hE
                  exact opE_call (.val (.int .i64 ((L.length : Nat) : Int))) rfl _ 25 Try.call25 rfl rfl _ rfl [.pointer (some ⟨t, 0, none⟩)] rfl ((len_any _ t b (rmF most) L (hw.has kt) (HTt.gro ((Gro.refl _).drew.trans hw))).mono fun e w' ⟨he, hg⟩ => ⟨_, he, hg, rfl⟩)
                case o2x6 => exact fun _ _ _ _ => opE_move (v := .pointer (some ⟨r, 0, none⟩)) _ rfl rfl rfl
                case o3x6 => exact fun _ _ _ _ => opE_value (v := .pointer (some ⟨r, 0, none⟩)) rfl (run_nc _ rfl _ rfl)
                case o4x6 => exact fun _ _ _ _ => opE_value (v := .pointer (some ⟨r, 0, none⟩)) rfl (run_fld 47 _ 0 rfl r 0 rfl 0 (by kernel_rfl))
                case o5x6 => exact fun _ _ hw _ => opE_value (v := .slice ra L.length rc) rfl (ldRl _ rfl r rfl (hw.has kr))
                case o6x6 => exact fun _ _ _ _ => opE_value (v := .int .i64 ((L.length : Nat) : Int)) rfl (run_len Try.underlying41 _ rfl _ _ _ rfl _)
                intro ptrs w9 GD hxE
                simp only [List.drop_succ_cons, List.drop_zero]
                replace kt := GD.has kt
                replace kr := GD.has kr
                replace kg1 := GD.has kg1
                replace HTt := HTt.gro ((Gro.refl _).drew.trans GD)
                replace HL := HL.gro ((Gro.refl _).drew.trans GD)
                replace HR13 := HR13.gro ((Gro.refl _).drew.trans GD)
                replace HR14 := HR14.gro ((Gro.refl _).drew.trans GD)
                replace HO14 := HO14.gro ((Gro.refl _).drew.trans GD)
                replace GG := GG.drew.trans GD
                clear GD
                refine s_val 140 rfl rfl (.bool false) (run_neq_k 3 .i64 _ _ _ rfl Try.underlying3 ((L.length : Nat) : Int) ((L.length : Nat) : Int) rfl rfl false (decide_eq_true rfl) _) ?_
                refine nr ?_; intro U h; simp only [z0, z1] at h; subst h
                refine wpList_nil ?_
                refine then_n ?_
                refine wp_cond_false rfl ?_
                refine wp_skip ?_
                refine blk_n ?_
                refine then_n ?_
                refine wp_region_lit ?_
                refine s_val 141 rfl rfl (.int .i64 ((i + 1 : Nat) : Int)) (run_addI 3 _ _ _ rfl ((i : Nat) : Int) 1 ((i + 1 : Nat) : Int) rfl rfl (by omega) (by omega) (by omega) _) ?_
                refine nr ?_; intro U h; simp only [z0, z1] at h; subst h
                refine s_val 29 rfl rfl (.int .i64 ((i + 1 : Nat) : Int)) (rfl) ?_
                refine nr ?_; intro U h; simp only [z0, z1] at h; subst h
                refine wpList_nil ?_
                refine then_n ?_
                exact ⟨l.length + 1 - (i + 1), by omega, i + 1, L, ra, rc, (fun kz => ([us1 0, .int .i64 ((i : Nat) : Int), .pointer (some ⟨g1, 0, none⟩), us1 3, us1 4, us1 5, us1 6, us1 7, us1 8, us1 9, us1 10, .bool true, .int .i64 ((i : Nat) : Int), .pointer (pO ao0 i), .agg (opA (l.getD i zO)), .int .i64 ((i : Nat) : Int), .bool false, .pointer (some ⟨g1, 0, none⟩), .int .i64 ((l.getD i zO).k), us1 19, us1 20, us1 21, us1 22, us1 23, us1 24, .bool false, .bool false, us1 27, us1 28, us1 29, us1 30, us1 31, us1 32, us1 33, us1 34, us1 35, .bool false, .bool false, us1 38, us1 39, us1 40, us1 41, us1 42, us1 43, us1 44, us1 45, us1 46, us1 47, us1 48, us1 49, us1 50, us1 51, us1 52, us1 53, us1 54, us1 55, us1 56, us1 57, us1 58, us1 59, us1 60, us1 61, .bool false, .bool false, us1 64, us1 65, us1 66, us1 67, us1 68, us1 69, us1 70, us1 71, us1 72, us1 73, us1 74, us1 75, us1 76, us1 77, us1 78, us1 79, us1 80, us1 81, us1 82, us1 83, us1 84, us1 85, us1 86, us1 87, .bool false, .bool false, us1 90, us1 91, us1 92, us1 93, us1 94, us1 95, us1 96, us1 97, us1 98, us1 99, .bool true, .bool true, .pointer (some ⟨t, 0, none⟩), .pointer (some ⟨g1, 2, none⟩), .pointer (some ⟨g1, 19, none⟩), .agg (idA ((l.getD i zO).x.a)), .slice ao13 ((L.filter (toF (l.getD i zO).x.a)).length) cap13, .pointer (some ⟨r, 0, none⟩), .pointer (some ⟨g1, 2, none⟩), .pointer (some ⟨g1, 19, none⟩), .agg (idA ((l.getD i zO).x.a)), .slice ao14 ((L.filter (toF (l.getD i zO).x.a)).length) cap14, .bool true, .bool false, .pointer (some ⟨t, 0, none⟩), .int .i64 ((L.length : Nat) : Int), .pointer (some ⟨r, 0, none⟩), .pointer (some ⟨r, 0, none⟩), .pointer (some ⟨r, 0, none⟩), .slice ra L.length rc, .int .i64 ((L.length : Nat) : Int), .bool false, .int .i64 ((i + 1 : Nat) : Int)] : List Value).getD kz undef), rfl, rfl, by omega, GG, kt, HTt, kr, HL, hTI⟩
            · refine s_val 108 rfl rfl (.bool true) (run_eq_k 3 .i64 _ _ _ rfl Try.underlying3 ((l.getD i zO).k) 3 rfl rfl true k3 _) ?_
              refine nr ?_; intro U h; simp only [z0, z1] at h; subst h
              refine s_val 107 rfl rfl (.bool true) (rfl) ?_
              refine nr ?_; intro U h; simp only [z0, z1] at h; subst h
              refine wpList_nil ?_
              refine then_n ?_
              refine wp_cond_true rfl ?_
              refine wp_seq ?_
              refine wp_region_exA (A := ?Ax7) 7 [(0, 109), (1, 110), (2, 111), (3, 112), (4, 113), (5, 114), (6, 115)] [.val (.pointer (some ⟨t, 0, none⟩)), .val (.pointer (some ⟨g1, 1, none⟩)), .val (.int .i64 ((l.getD i zO).n)), rowE (L.filter (viaF (l.getD i zO).n)), .val (.pointer (some ⟨r, 0, none⟩)), .val (.pointer (some ⟨g1, 1, none⟩)), .val (.int .i64 ((l.getD i zO).n))] follows (by kernel_rfl) rfl ?hAx7 (opsA_cons ?o0x7 (opsA_cons ?o1x7 (opsA_cons ?o2x7 (opsA_cons ?o3x7 (opsA_cons ?o4x7 (opsA_cons ?o5x7 (opsA_cons ?o6x7 opsA_nil))))))) ?restx7
              case hAx7 =>
                intro ptrs
                simp only [full, foldSlots, filledE, postE, List.foldl_cons, List.foldl_nil, List.getD_cons_zero, List.getD_cons_succ, fill_val, fill_rowE, List.set_cons_zero, List.set_cons_succ]
                exact rfl
              case o0x7 => exact fun _ _ _ _ => opE_move (v := .pointer (some ⟨t, 0, none⟩)) _ rfl rfl rfl
              case o1x7 => exact fun _ _ _ _ => opE_value (v := .pointer (some ⟨g1, 1, none⟩)) rfl (run_fld 35 _ 1 rfl g1 0 rfl 1 (by kernel_rfl))
              case o2x7 => exact fun _ _ hw _ => opE_value (v := .int .i64 ((l.getD i zO).n)) rfl (ldOn _ rfl g1 rfl (hw.has kg1))
              case o3x7 =>
                intro ptrs w' hw hE
                exact opE_call (rowE (L.filter (viaF (l.getD i zO).n))) rfl _ 19 Try.call19 rfl rfl _ rfl [.pointer (some ⟨t, 0, none⟩), .int .i64 ((l.getD i zO).n)] rfl ((via_any _ t b (rmF most) L (hw.has kt) (HTt.gro ((Gro.refl _).drew.trans hw)) (l.getD i zO).n hTI.ris hLb).mono fun e w' ⟨ao, cap, he, hg, hr⟩ => ⟨_, he, hg, ao, cap, rfl, hr.mono (Nat.zero_le _)⟩)
              case o4x7 => exact fun _ _ _ _ => opE_move (v := .pointer (some ⟨r, 0, none⟩)) _ rfl rfl rfl
              case o5x7 => exact fun _ _ _ _ => opE_value (v := .pointer (some ⟨g1, 1, none⟩)) rfl (run_fld 35 _ 1 rfl g1 0 rfl 1 (by kernel_rfl))
              case o6x7 => exact fun _ _ hw _ => opE_value (v := .int .i64 ((l.getD i zO).n)) rfl (ldOn _ rfl g1 rfl (hw.has kg1))
              intro ptrs w6 GD hxE
              simp only [List.drop_succ_cons, List.drop_zero]
              replace kt := GD.has kt
              replace kr := GD.has kr
              replace kg1 := GD.has kg1
              replace HTt := HTt.gro ((Gro.refl _).drew.trans GD)
              replace HL := HL.gro ((Gro.refl _).drew.trans GD)
              replace GG := GG.drew.trans GD
              obtain ⟨⟨ao13, cap13, hx13, HR13⟩, _⟩ := hxE
              simp only [hx13]
              clear hx13
              clear GD
              refine s_callx 116 rfl rfl _ 20 Try.call20 rfl rfl _ rfl [.pointer (some ⟨r, 0, none⟩), .int .i64 ((l.getD i zO).n)] rfl (rvia_any _ r (rmF most) ra rc L (kr) (HL) hLb (l.getD i zO).n) (by rintro _ _ ⟨_, _, he, _⟩; exact ⟨_, he⟩) ?_
              rintro v w7 ⟨ao14, cap14, he, G, HO14⟩
              cases he
              replace HO14 := HO14.mono GG.size
              replace kt := G.has kt
              replace kr := G.has kr
              replace kg1 := G.has kg1
              replace HTt := HTt.gro G
              replace HL := HL.gro G
              replace HR13 := HR13.gro G
              replace GG := GG.trans G
              clear G
              have HR14 := HO14.re
              refine nr ?_; intro U h; simp only [z0, z1] at h; subst h
              refine s_callv 117 rfl rfl _ 18 Try.call18 rfl rfl _ rfl [.slice ao13 ((L.filter (viaF (l.getD i zO).n)).length) cap13, .slice ao14 ((L.filter (viaF (l.getD i zO).n)).length) cap14] rfl (Calls.bool (same_any _ ao13 cap13 (L.filter (viaF (l.getD i zO).n)) (HR13.re) (le_maxL (Nat.le_trans (List.length_filter_le _ _) hLf)) ao14 cap14 (L.filter (viaF (l.getD i zO).n)) (HR14)) (decide_eq_true rfl)) ?_
              intro w8 G
              replace kt := G.has kt
              replace kr := G.has kr
              replace kg1 := G.has kg1
              replace HTt := HTt.gro G
              replace HL := HL.gro G
              replace HR13 := HR13.gro G
              replace HR14 := HR14.gro G
              replace HO14 := HO14.gro G
              replace GG := GG.trans G
              clear G
              refine nr ?_; intro U h; simp only [z0, z1] at h; subst h
              refine s_val 118 rfl rfl (.bool false) (run_nt _ _ rfl true rfl) ?_
              refine nr ?_; intro U h; simp only [z0, z1] at h; subst h
              refine wpList_nil ?_
              refine then_n ?_
              refine wp_cond_false rfl ?_
              refine wp_skip ?_
              refine blk_n ?_
              refine then_n ?_
              refine wp_seq ?_
              refine wp_region_exA (A := ?Ax8) 7 [(0, 133), (1, 134), (2, 135), (3, 136), (4, 137), (5, 138), (6, 139)] [.val (.pointer (some ⟨t, 0, none⟩)), .val (.int .i64 ((L.length : Nat) : Int)), .val (.pointer (some ⟨r, 0, none⟩)), .val (.pointer (some ⟨r, 0, none⟩)), .val (.pointer (some ⟨r, 0, none⟩)), .val (.slice ra L.length rc), .val (.int .i64 ((L.length : Nat) : Int))] follows (by kernel_rfl) rfl ?hAx8 (opsA_cons ?o0x8 (opsA_cons ?o1x8 (opsA_cons ?o2x8 (opsA_cons ?o3x8 (opsA_cons ?o4x8 (opsA_cons ?o5x8 (opsA_cons ?o6x8 opsA_nil))))))) ?restx8
              case hAx8 =>
                intro ptrs
                simp only [full, foldSlots, filledE, postE, List.foldl_cons, List.foldl_nil, List.getD_cons_zero, List.getD_cons_succ, fill_val, List.set_cons_zero, List.set_cons_succ]
                exact rfl
              case o0x8 => exact fun _ _ _ _ => opE_move (v := .pointer (some ⟨t, 0, none⟩)) _ rfl rfl rfl
              case o1x8 =>
                intro ptrs w' hw hE
                exact opE_call (.val (.int .i64 ((L.length : Nat) : Int))) rfl _ 25 Try.call25 rfl rfl _ rfl [.pointer (some ⟨t, 0, none⟩)] rfl ((len_any _ t b (rmF most) L (hw.has kt) (HTt.gro ((Gro.refl _).drew.trans hw))).mono fun e w' ⟨he, hg⟩ => ⟨_, he, hg, rfl⟩)
              case o2x8 => exact fun _ _ _ _ => opE_move (v := .pointer (some ⟨r, 0, none⟩)) _ rfl rfl rfl
              case o3x8 => exact fun _ _ _ _ => opE_value (v := .pointer (some ⟨r, 0, none⟩)) rfl (run_nc _ rfl _ rfl)
              case o4x8 => exact fun _ _ _ _ => opE_value (v := .pointer (some ⟨r, 0, none⟩)) rfl (run_fld 47 _ 0 rfl r 0 rfl 0 (by kernel_rfl))
              case o5x8 => exact fun _ _ hw _ => opE_value (v := .slice ra L.length rc) rfl (ldRl _ rfl r rfl (hw.has kr))
              case o6x8 => exact fun _ _ _ _ => opE_value (v := .int .i64 ((L.length : Nat) : Int)) rfl (run_len Try.underlying41 _ rfl _ _ _ rfl _)
              intro ptrs w9 GD hxE
              simp only [List.drop_succ_cons, List.drop_zero]
              replace kt := GD.has kt
              replace kr := GD.has kr
              replace kg1 := GD.has kg1
              replace HTt := HTt.gro ((Gro.refl _).drew.trans GD)
              replace HL := HL.gro ((Gro.refl _).drew.trans GD)
              replace HR13 := HR13.gro ((Gro.refl _).drew.trans GD)
              replace HR14 := HR14.gro ((Gro.refl _).drew.trans GD)
              replace HO14 := HO14.gro ((Gro.refl _).drew.trans GD)
              replace GG := GG.drew.trans GD
              clear GD
              refine s_val 140 rfl rfl (.bool false) (run_neq_k 3 .i64 _ _ _ rfl Try.underlying3 ((L.length : Nat) : Int) ((L.length : Nat) : Int) rfl rfl false (decide_eq_true rfl) _) ?_
              refine nr ?_; intro U h; simp only [z0, z1] at h; subst h
              refine wpList_nil ?_
              refine then_n ?_
              refine wp_cond_false rfl ?_
              refine wp_skip ?_
              refine blk_n ?_
              refine then_n ?_
              refine wp_region_lit ?_
              refine s_val 141 rfl rfl (.int .i64 ((i + 1 : Nat) : Int)) (run_addI 3 _ _ _ rfl ((i : Nat) : Int) 1 ((i + 1 : Nat) : Int) rfl rfl (by omega) (by omega) (by omega) _) ?_
              refine nr ?_; intro U h; simp only [z0, z1] at h; subst h
              refine s_val 29 rfl rfl (.int .i64 ((i + 1 : Nat) : Int)) (rfl) ?_
              refine nr ?_; intro U h; simp only [z0, z1] at h; subst h
              refine wpList_nil ?_
              refine then_n ?_
              exact ⟨l.length + 1 - (i + 1), by omega, i + 1, L, ra, rc, (fun kz => ([us1 0, .int .i64 ((i : Nat) : Int), .pointer (some ⟨g1, 0, none⟩), us1 3, us1 4, us1 5, us1 6, us1 7, us1 8, us1 9, us1 10, .bool true, .int .i64 ((i : Nat) : Int), .pointer (pO ao0 i), .agg (opA (l.getD i zO)), .int .i64 ((i : Nat) : Int), .bool false, .pointer (some ⟨g1, 0, none⟩), .int .i64 ((l.getD i zO).k), us1 19, us1 20, us1 21, us1 22, us1 23, us1 24, .bool false, .bool false, us1 27, us1 28, us1 29, us1 30, us1 31, us1 32, us1 33, us1 34, us1 35, .bool false, .bool false, us1 38, us1 39, us1 40, us1 41, us1 42, us1 43, us1 44, us1 45, us1 46, us1 47, us1 48, us1 49, us1 50, us1 51, us1 52, us1 53, us1 54, us1 55, us1 56, us1 57, us1 58, us1 59, us1 60, us1 61, .bool false, .bool false, us1 64, us1 65, us1 66, us1 67, us1 68, us1 69, us1 70, us1 71, us1 72, us1 73, us1 74, us1 75, us1 76, us1 77, us1 78, us1 79, us1 80, us1 81, us1 82, us1 83, us1 84, us1 85, us1 86, us1 87, .bool true, .bool true, .pointer (some ⟨t, 0, none⟩), .pointer (some ⟨g1, 1, none⟩), .int .i64 ((l.getD i zO).n), .slice ao13 ((L.filter (viaF (l.getD i zO).n)).length) cap13, .pointer (some ⟨r, 0, none⟩), .pointer (some ⟨g1, 1, none⟩), .int .i64 ((l.getD i zO).n), .slice ao14 ((L.filter (viaF (l.getD i zO).n)).length) cap14, .bool true, .bool false, us1 100, us1 101, us1 102, us1 103, us1 104, us1 105, us1 106, us1 107, us1 108, us1 109, us1 110, us1 111, us1 112, us1 113, .pointer (some ⟨t, 0, none⟩), .int .i64 ((L.length : Nat) : Int), .pointer (some ⟨r, 0, none⟩), .pointer (some ⟨r, 0, none⟩), .pointer (some ⟨r, 0, none⟩), .slice ra L.length rc, .int .i64 ((L.length : Nat) : Int), .bool false, .int .i64 ((i + 1 : Nat) : Int)] : List Value).getD kz undef), rfl, rfl, by omega, GG, kt, HTt, kr, HL, hTI⟩
          · refine s_val 82 rfl rfl (.bool true) (run_eq_k 3 .i64 _ _ _ rfl Try.underlying3 ((l.getD i zO).k) 2 rfl rfl true k2 _) ?_
            refine nr ?_; intro U h; simp only [z0, z1] at h; subst h
            refine s_val 81 rfl rfl (.bool true) (rfl) ?_
            refine nr ?_; intro U h; simp only [z0, z1] at h; subst h
            refine wpList_nil ?_
            refine then_n ?_
            refine wp_cond_true rfl ?_
            refine wp_seq ?_
            refine wp_region_lit ?_
            refine s_val 84 rfl rfl (.pointer (some ⟨t, 0, none⟩)) (rfl) ?_
            refine nr ?_; intro U h; simp only [z0, z1] at h; subst h
            refine s_val 85 rfl rfl (.pointer (some ⟨g1, 2, none⟩)) (run_fld 35 _ 2 rfl g1 0 rfl 2 (by kernel_rfl)) ?_
            refine nr ?_; intro U h; simp only [z0, z1] at h; subst h
            refine s_val 86 rfl rfl (.pointer (some ⟨g1, 2, none⟩)) (run_fld 33 _ 0 rfl g1 2 rfl 2 (by kernel_rfl)) ?_
            refine nr ?_; intro U h; simp only [z0, z1] at h; subst h
            refine s_val 87 rfl rfl (.agg (paA ((l.getD i zO).x.p))) (ldOp _ rfl g1 rfl (kg1)) ?_
            refine nr ?_; intro U h; simp only [z0, z1] at h; subst h
            refine s_callv 88 rfl rfl _ 16 Try.call16 rfl rfl _ rfl [.pointer (some ⟨t, 0, none⟩), .agg (paA ((l.getD i zO).x.p))] rfl (get_any _ t b (rmF most) L (kt) (HTt) (l.getD i zO).x.p (H.at (by omega)).x.p) ?_
            intro w6 G
            replace kt := G.has kt
            replace kr := G.has kr
            replace kg1 := G.has kg1
            replace HTt := HTt.gro G
            replace HL := HL.gro G
            replace GG := GG.trans G
            clear G
            refine nr ?_; intro U h; simp only [z0, z1] at h; subst h
            refine s_val 83 rfl rfl (.tuple #[.agg (enA (getV L (l.getD i zO).x.p)), .bool (hasL L (l.getD i zO).x.p)]) (rfl) ?_
            refine nr ?_; intro U h; simp only [z0, z1] at h; subst h
            refine s_val 89 rfl rfl (.agg (enA (getV L (l.getD i zO).x.p))) (rfl) ?_
            refine nr ?_; intro U h; simp only [z0, z1] at h; subst h
            refine s_val 90 rfl rfl (.bool (hasL L (l.getD i zO).x.p)) (rfl) ?_
            refine nr ?_; intro U h; simp only [z0, z1] at h; subst h
            refine s_alloc 13 rfl rfl 33 rfl _ zero33 (enA zE) rfl ?_
            intro w7 g2 G eg2 kg2
            have bg2 := size_base GG eg2
            have dtg2 := lt_new kt eg2
            have drg2 := lt_new kr eg2
            have dg1g2 := lt_new kg1 eg2
            have dHTtg2 := HTt.ne eg2
            have dHLg2 := HL.ne eg2
            replace kt := G.has kt
            replace kr := G.has kr
            replace kg1 := G.has kg1
            replace HTt := HTt.gro G
            replace HL := HL.gro G
            replace GG := GG.trans G
            clear G
            clear eg2
            refine nr ?_; intro U h; simp only [z0, z1] at h; subst h
            refine s_store rfl rfl 33 _ _ rfl g2 0 rfl (.agg (enA (getV L (l.getD i zO).x.p))) rfl 33 _ kg2 (enA (getV L (l.getD i zO).x.p)) rfl (si33' _) (enA_fit _ _) (enA_one _) (enA (getV L (l.getD i zO).x.p)) (splice_whole _ _ (enA_sz _ _)) ?_
            intro w8 St
            have kS := kg2
            replace kt := St.has (by omega) kt
            replace kr := St.has (by omega) kr
            replace kg1 := St.has (by omega) kg1
            replace HTt := HTt.st St dHTtg2
            replace HL := HL.st St dHLg2
            replace GG := GG.store St bg2
            replace kg2 := St.new
            clear St
            refine s_val 14 rfl rfl (.bool (hasL L (l.getD i zO).x.p)) (rfl) ?_
            refine nr ?_; intro U h; simp only [z0, z1] at h; subst h
            refine wpList_nil ?_
            refine then_n ?_
            refine wp_seq ?_
            refine wp_region_lit ?_
            refine s_val 92 rfl rfl (.pointer (some ⟨r, 0, none⟩)) (rfl) ?_
            refine nr ?_; intro U h; simp only [z0, z1] at h; subst h
            refine s_val 93 rfl rfl (.pointer (some ⟨g1, 2, none⟩)) (run_fld 35 _ 2 rfl g1 0 rfl 2 (by kernel_rfl)) ?_
            refine nr ?_; intro U h; simp only [z0, z1] at h; subst h
            refine s_val 94 rfl rfl (.pointer (some ⟨g1, 2, none⟩)) (run_fld 33 _ 0 rfl g1 2 rfl 2 (by kernel_rfl)) ?_
            refine nr ?_; intro U h; simp only [z0, z1] at h; subst h
            refine s_val 95 rfl rfl (.agg (paA ((l.getD i zO).x.p))) (ldOp _ rfl g1 rfl (kg1)) ?_
            refine nr ?_; intro U h; simp only [z0, z1] at h; subst h
            refine s_callv 96 rfl rfl _ 17 Try.call17 rfl rfl _ rfl [.pointer (some ⟨r, 0, none⟩), .agg (paA ((l.getD i zO).x.p))] rfl (rget_any _ r (rmF most) ra rc L (kr) (HL) hLb hTI.ris.kn (l.getD i zO).x.p (H.at (by omega)).x.p) ?_
            intro w9 G
            replace kt := G.has kt
            replace kr := G.has kr
            replace kg1 := G.has kg1
            replace kg2 := G.has kg2
            replace HTt := HTt.gro G
            replace HL := HL.gro G
            replace GG := GG.trans G
            clear G
            refine nr ?_; intro U h; simp only [z0, z1] at h; subst h
            refine s_val 91 rfl rfl (.tuple #[.agg (enA (getV L (l.getD i zO).x.p)), .bool (hasL L (l.getD i zO).x.p)]) (rfl) ?_
            refine nr ?_; intro U h; simp only [z0, z1] at h; subst h
            refine s_val 97 rfl rfl (.agg (enA (getV L (l.getD i zO).x.p))) (rfl) ?_
            refine nr ?_; intro U h; simp only [z0, z1] at h; subst h
            refine s_val 98 rfl rfl (.bool (hasL L (l.getD i zO).x.p)) (rfl) ?_
            refine nr ?_; intro U h; simp only [z0, z1] at h; subst h
            refine s_alloc 15 rfl rfl 33 rfl _ zero33 (enA zE) rfl ?_
            intro w10 g3 G eg3 kg3
            have bg3 := size_base GG eg3
            have dtg3 := lt_new kt eg3
            have drg3 := lt_new kr eg3
            have dg1g3 := lt_new kg1 eg3
            have dg2g3 := lt_new kg2 eg3
            have dHTtg3 := HTt.ne eg3
            have dHLg3 := HL.ne eg3
            replace kt := G.has kt
            replace kr := G.has kr
            replace kg1 := G.has kg1
            replace kg2 := G.has kg2
            replace HTt := HTt.gro G
            replace HL := HL.gro G
            replace GG := GG.trans G
            clear G
            clear eg3
            refine nr ?_; intro U h; simp only [z0, z1] at h; subst h
            refine s_store rfl rfl 33 _ _ rfl g3 0 rfl (.agg (enA (getV L (l.getD i zO).x.p))) rfl 33 _ kg3 (enA (getV L (l.getD i zO).x.p)) rfl (si33' _) (enA_fit _ _) (enA_one _) (enA (getV L (l.getD i zO).x.p)) (splice_whole _ _ (enA_sz _ _)) ?_
            intro w11 St
            have kS := kg3
            replace kt := St.has (by omega) kt
            replace kr := St.has (by omega) kr
            replace kg1 := St.has (by omega) kg1
            replace kg2 := St.has (by omega) kg2
            replace HTt := HTt.st St dHTtg3
            replace HL := HL.st St dHLg3
            replace GG := GG.store St bg3
            replace kg3 := St.new
            clear St
            refine s_val 16 rfl rfl (.bool (hasL L (l.getD i zO).x.p)) (rfl) ?_
            refine nr ?_; intro U h; simp only [z0, z1] at h; subst h
            refine wpList_nil ?_
            refine then_n ?_
            refine wp_seq ?_
            refine wp_region_opq ?_
            intro OPS hY
            have y3 := hY 3 102 rfl
            clear hY
            refine s_val 99 rfl rfl (.agg (enA (getV L (l.getD i zO).x.p))) (ldE0 _ rfl g2 rfl (kg2)) ?_
            refine nr ?_; intro U h; simp only [z0, z1] at h; subst h
            refine s_val 100 rfl rfl (.agg (enA (getV L (l.getD i zO).x.p))) (ldE0 _ rfl g3 rfl (kg3)) ?_
            refine nr ?_; intro U h; simp only [z0, z1] at h; subst h
            refine s_val 101 rfl rfl (.bool false) (run_neE _ _ _ rfl _ _ rfl rfl (getV_ok hTI.all _) (getV_ok hTI.all _) false (decide_eq_true rfl)) ?_
            refine nr ?_; intro U h; simp only [z0, z1] at h; subst h
            refine s_val 102 rfl rfl (.bool false) (rfl) ?_
            refine nr ?_; intro U h; simp only [z0, z1] at h; subst h
            refine s_gvalY 103 rfl rfl y3 rfl (.bool (hasL L (l.getD i zO).x.p)) (rfl) ?_
            refine nr ?_; intro U h; simp only [z0, z1] at h; subst h
            refine s_gvalY 104 rfl rfl y3 rfl (.bool (hasL L (l.getD i zO).x.p)) (rfl) ?_
            refine nr ?_; intro U h; simp only [z0, z1] at h; subst h
            refine s_gvalY 105 rfl rfl y3 rfl (.bool false) (run_neB 4 _ _ _ rfl (hasL L (l.getD i zO).x.p) (hasL L (l.getD i zO).x.p) rfl rfl Try.underlying4 false (decide_eq_true rfl) _) ?_
            refine nr ?_; intro U h; simp only [z0, z1] at h; subst h
            refine s_val 106 rfl rfl (.bool false) (rfl) ?_
            refine nr ?_; intro U h; simp only [z0, z1] at h; subst h
            refine wpList_nil ?_
            refine then_n ?_
            refine wp_cond_false rfl ?_
            refine wp_skip ?_
            refine blk_n ?_
            refine then_n ?_
            refine wp_seq ?_
            refine wp_region_exA (A := ?Ax9) 7 [(0, 133), (1, 134), (2, 135), (3, 136), (4, 137), (5, 138), (6, 139)] [.val (.pointer (some ⟨t, 0, none⟩)), .val (.int .i64 ((L.length : Nat) : Int)), .val (.pointer (some ⟨r, 0, none⟩)), .val (.pointer (some ⟨r, 0, none⟩)), .val (.pointer (some ⟨r, 0, none⟩)), .val (.slice ra L.length rc), .val (.int .i64 ((L.length : Nat) : Int))] follows (by kernel_rfl) rfl ?hAx9 (opsA_cons ?o0x9 (opsA_cons ?o1x9 (opsA_cons ?o2x9 (opsA_cons ?o3x9 (opsA_cons ?o4x9 (opsA_cons ?o5x9 (opsA_cons ?o6x9 opsA_nil))))))) ?restx9
            case hAx9 =>
              intro ptrs
              simp only [full, foldSlots, filledE, postE, List.foldl_cons, List.foldl_nil, List.getD_cons_zero, List.getD_cons_succ, fill_val, List.set_cons_zero, List.set_cons_succ]
              exact rfl
            case o0x9 => exact fun _ _ _ _ => opE_move (v := .pointer (some ⟨t, 0, none⟩)) _ rfl rfl rfl
            case o1x9 =>
              intro ptrs w' hw hE
              exact opE_call (.val (.int .i64 ((L.length : Nat) : Int))) rfl _ 25 Try.call25 rfl rfl _ rfl [.pointer (some ⟨t, 0, none⟩)] rfl ((len_any _ t b (rmF most) L (hw.has kt) (HTt.gro ((Gro.refl _).drew.trans hw))).mono fun e w' ⟨he, hg⟩ => ⟨_, he, hg, rfl⟩)
            case o2x9 => exact fun _ _ _ _ => opE_move (v := .pointer (some ⟨r, 0, none⟩)) _ rfl rfl rfl
            case o3x9 => exact fun _ _ _ _ => opE_value (v := .pointer (some ⟨r, 0, none⟩)) rfl (run_nc _ rfl _ rfl)
            case o4x9 => exact fun _ _ _ _ => opE_value (v := .pointer (some ⟨r, 0, none⟩)) rfl (run_fld 47 _ 0 rfl r 0 rfl 0 (by kernel_rfl))
            case o5x9 => exact fun _ _ hw _ => opE_value (v := .slice ra L.length rc) rfl (ldRl _ rfl r rfl (hw.has kr))
            case o6x9 => exact fun _ _ _ _ => opE_value (v := .int .i64 ((L.length : Nat) : Int)) rfl (run_len Try.underlying41 _ rfl _ _ _ rfl _)
            intro ptrs w12 GD hxE
            simp only [List.drop_succ_cons, List.drop_zero]
            replace kt := GD.has kt
            replace kr := GD.has kr
            replace kg1 := GD.has kg1
            replace kg2 := GD.has kg2
            replace kg3 := GD.has kg3
            replace HTt := HTt.gro ((Gro.refl _).drew.trans GD)
            replace HL := HL.gro ((Gro.refl _).drew.trans GD)
            replace GG := GG.drew.trans GD
            clear GD
            refine s_val 140 rfl rfl (.bool false) (run_neq_k 3 .i64 _ _ _ rfl Try.underlying3 ((L.length : Nat) : Int) ((L.length : Nat) : Int) rfl rfl false (decide_eq_true rfl) _) ?_
            refine nr ?_; intro U h; simp only [z0, z1] at h; subst h
            refine wpList_nil ?_
            refine then_n ?_
            refine wp_cond_false rfl ?_
            refine wp_skip ?_
            refine blk_n ?_
            refine then_n ?_
            refine wp_region_lit ?_
            refine s_val 141 rfl rfl (.int .i64 ((i + 1 : Nat) : Int)) (run_addI 3 _ _ _ rfl ((i : Nat) : Int) 1 ((i + 1 : Nat) : Int) rfl rfl (by omega) (by omega) (by omega) _) ?_
            refine nr ?_; intro U h; simp only [z0, z1] at h; subst h
            refine s_val 29 rfl rfl (.int .i64 ((i + 1 : Nat) : Int)) (rfl) ?_
            refine nr ?_; intro U h; simp only [z0, z1] at h; subst h
            refine wpList_nil ?_
            refine then_n ?_
            exact ⟨l.length + 1 - (i + 1), by omega, i + 1, L, ra, rc, (fun kz => ([us1 0, .int .i64 ((i : Nat) : Int), .pointer (some ⟨g1, 0, none⟩), us1 3, us1 4, us1 5, us1 6, .pointer (some ⟨g2, 0, none⟩), .bool (hasL L (l.getD i zO).x.p), .pointer (some ⟨g3, 0, none⟩), .bool (hasL L (l.getD i zO).x.p), .bool true, .int .i64 ((i : Nat) : Int), .pointer (pO ao0 i), .agg (opA (l.getD i zO)), .int .i64 ((i : Nat) : Int), .bool false, .pointer (some ⟨g1, 0, none⟩), .int .i64 ((l.getD i zO).k), us1 19, us1 20, us1 21, us1 22, us1 23, us1 24, .bool false, .bool false, us1 27, us1 28, us1 29, us1 30, us1 31, us1 32, us1 33, us1 34, us1 35, .bool false, .bool false, us1 38, us1 39, us1 40, us1 41, us1 42, us1 43, us1 44, us1 45, us1 46, us1 47, us1 48, us1 49, us1 50, us1 51, us1 52, us1 53, us1 54, us1 55, us1 56, us1 57, us1 58, us1 59, us1 60, us1 61, .bool true, .bool true, .tuple #[.agg (enA (getV L (l.getD i zO).x.p)), .bool (hasL L (l.getD i zO).x.p)], .pointer (some ⟨t, 0, none⟩), .pointer (some ⟨g1, 2, none⟩), .pointer (some ⟨g1, 2, none⟩), .agg (paA ((l.getD i zO).x.p)), .tuple #[.agg (enA (getV L (l.getD i zO).x.p)), .bool (hasL L (l.getD i zO).x.p)], .agg (enA (getV L (l.getD i zO).x.p)), .bool (hasL L (l.getD i zO).x.p), .tuple #[.agg (enA (getV L (l.getD i zO).x.p)), .bool (hasL L (l.getD i zO).x.p)], .pointer (some ⟨r, 0, none⟩), .pointer (some ⟨g1, 2, none⟩), .pointer (some ⟨g1, 2, none⟩), .agg (paA ((l.getD i zO).x.p)), .tuple #[.agg (enA (getV L (l.getD i zO).x.p)), .bool (hasL L (l.getD i zO).x.p)], .agg (enA (getV L (l.getD i zO).x.p)), .bool (hasL L (l.getD i zO).x.p), .agg (enA (getV L (l.getD i zO).x.p)), .agg (enA (getV L (l.getD i zO).x.p)), .bool false, .bool false, .bool (hasL L (l.getD i zO).x.p), .bool (hasL L (l.getD i zO).x.p), .bool false, .bool false, us1 88, us1 89, us1 90, us1 91, us1 92, us1 93, us1 94, us1 95, us1 96, us1 97, us1 98, us1 99, us1 100, us1 101, us1 102, us1 103, us1 104, us1 105, us1 106, us1 107, us1 108, us1 109, us1 110, us1 111, us1 112, us1 113, .pointer (some ⟨t, 0, none⟩), .int .i64 ((L.length : Nat) : Int), .pointer (some ⟨r, 0, none⟩), .pointer (some ⟨r, 0, none⟩), .pointer (some ⟨r, 0, none⟩), .slice ra L.length rc, .int .i64 ((L.length : Nat) : Int), .bool false, .int .i64 ((i + 1 : Nat) : Int)] : List Value).getD kz undef), rfl, rfl, by omega, GG, kt, HTt, kr, HL, hTI⟩
        · refine s_val 56 rfl rfl (.bool true) (run_eq_k 3 .i64 _ _ _ rfl Try.underlying3 ((l.getD i zO).k) 1 rfl rfl true k1 _) ?_
          refine nr ?_; intro U h; simp only [z0, z1] at h; subst h
          refine s_val 55 rfl rfl (.bool true) (rfl) ?_
          refine nr ?_; intro U h; simp only [z0, z1] at h; subst h
          refine wpList_nil ?_
          refine then_n ?_
          refine wp_cond_true rfl ?_
          refine wp_seq ?_
          refine wp_region_lit ?_
          refine s_val 58 rfl rfl (.pointer (some ⟨t, 0, none⟩)) (rfl) ?_
          refine nr ?_; intro U h; simp only [z0, z1] at h; subst h
          refine s_val 59 rfl rfl (.pointer (some ⟨g1, 2, none⟩)) (run_fld 35 _ 2 rfl g1 0 rfl 2 (by kernel_rfl)) ?_
          refine nr ?_; intro U h; simp only [z0, z1] at h; subst h
          refine s_val 60 rfl rfl (.pointer (some ⟨g1, 2, none⟩)) (run_fld 33 _ 0 rfl g1 2 rfl 2 (by kernel_rfl)) ?_
          refine nr ?_; intro U h; simp only [z0, z1] at h; subst h
          refine s_val 61 rfl rfl (.agg (paA ((l.getD i zO).x.p))) (ldOp _ rfl g1 rfl (kg1)) ?_
          refine nr ?_; intro U h; simp only [z0, z1] at h; subst h
          refine s_callx 62 rfl rfl _ 14 Try.call14 rfl rfl _ rfl [.pointer (some ⟨t, 0, none⟩), .agg (paA ((l.getD i zO).x.p))] rfl (rem_any _ t b (rmF most) L (kt) (HTt) (l.getD i zO).x.p (H.at (by omega)).x.p) (by rintro _ _ ⟨he, _⟩; exact ⟨_, he⟩) ?_
          rintro v w6 ⟨he, HT2, G2⟩
          cases he
          replace kt := G2.has kt (by simpa using HTt.nec kt)
          replace kr := G2.has kr (by simpa using HTt.nec kr)
          replace kg1 := G2.has kg1 (by simpa using HTt.nec kg1)
          replace HL := HL.mapw HTt G2
          replace GG := G2.gro GG (by simpa using bb)
          clear HTt G2
          have HTt := HT2
          clear HT2
          refine nr ?_; intro U h; simp only [z0, z1] at h; subst h
          refine s_val 57 rfl rfl (.tuple #[.agg (enA (getV L (l.getD i zO).x.p)), .bool (hasL L (l.getD i zO).x.p)]) (rfl) ?_
          refine nr ?_; intro U h; simp only [z0, z1] at h; subst h
          refine s_val 63 rfl rfl (.agg (enA (getV L (l.getD i zO).x.p))) (rfl) ?_
          refine nr ?_; intro U h; simp only [z0, z1] at h; subst h
          refine s_val 64 rfl rfl (.bool (hasL L (l.getD i zO).x.p)) (rfl) ?_
          refine nr ?_; intro U h; simp only [z0, z1] at h; subst h
          refine s_alloc 9 rfl rfl 33 rfl _ zero33 (enA zE) rfl ?_
          intro w7 g2 G eg2 kg2
          have bg2 := size_base GG eg2
          have dtg2 := lt_new kt eg2
          have drg2 := lt_new kr eg2
          have dg1g2 := lt_new kg1 eg2
          have dHTtg2 := HTt.ne eg2
          have dHLg2 := HL.ne eg2
          replace kt := G.has kt
          replace kr := G.has kr
          replace kg1 := G.has kg1
          replace HTt := HTt.gro G
          replace HL := HL.gro G
          replace GG := GG.trans G
          clear G
          clear eg2
          refine nr ?_; intro U h; simp only [z0, z1] at h; subst h
          refine s_store rfl rfl 33 _ _ rfl g2 0 rfl (.agg (enA (getV L (l.getD i zO).x.p))) rfl 33 _ kg2 (enA (getV L (l.getD i zO).x.p)) rfl (si33' _) (enA_fit _ _) (enA_one _) (enA (getV L (l.getD i zO).x.p)) (splice_whole _ _ (enA_sz _ _)) ?_
          intro w8 St
          have kS := kg2
          replace kt := St.has (by omega) kt
          replace kr := St.has (by omega) kr
          replace kg1 := St.has (by omega) kg1
          replace HTt := HTt.st St dHTtg2
          replace HL := HL.st St dHLg2
          replace GG := GG.store St bg2
          replace kg2 := St.new
          clear St
          refine s_val 10 rfl rfl (.bool (hasL L (l.getD i zO).x.p)) (rfl) ?_
          refine nr ?_; intro U h; simp only [z0, z1] at h; subst h
          refine wpList_nil ?_
          refine then_n ?_
          refine wp_seq ?_
          refine wp_region_lit ?_
          refine s_val 66 rfl rfl (.pointer (some ⟨r, 0, none⟩)) (rfl) ?_
          refine nr ?_; intro U h; simp only [z0, z1] at h; subst h
          refine s_val 67 rfl rfl (.pointer (some ⟨g1, 2, none⟩)) (run_fld 35 _ 2 rfl g1 0 rfl 2 (by kernel_rfl)) ?_
          refine nr ?_; intro U h; simp only [z0, z1] at h; subst h
          refine s_val 68 rfl rfl (.pointer (some ⟨g1, 2, none⟩)) (run_fld 33 _ 0 rfl g1 2 rfl 2 (by kernel_rfl)) ?_
          refine nr ?_; intro U h; simp only [z0, z1] at h; subst h
          refine s_val 69 rfl rfl (.agg (paA ((l.getD i zO).x.p))) (ldOp _ rfl g1 rfl (kg1)) ?_
          refine nr ?_; intro U h; simp only [z0, z1] at h; subst h
          refine s_callx 70 rfl rfl _ 15 Try.call15 rfl rfl _ rfl [.pointer (some ⟨r, 0, none⟩), .agg (paA ((l.getD i zO).x.p))] rfl (rrem_any _ r (rmF most) ra rc L (kr) (HL) hLb hTI.ris.kn (l.getD i zO).x.p (H.at (by omega)).x.p) (by rintro _ _ ⟨he, _⟩; exact ⟨_, he⟩) ?_
          rintro v w9 ⟨he, ra2, rc2, kr2, HL2, G2⟩
          cases he
          replace kt := G2.has kt (ne_cells kt kr (by decide))
          replace kg1 := G2.has kg1 (ne_cells kg1 kr (by decide))
          replace kg2 := G2.has kg2 (ne_cells kg2 kr (by decide))
          replace HTt := HTt.gros G2 (by simpa using (HTt.nec kr).symm)
          replace GG := G2.gro GG (by simpa using br)
          clear kr HL G2
          have kr := kr2
          have HL := HL2
          clear kr2 HL2
          refine nr ?_; intro U h; simp only [z0, z1] at h; subst h
          refine s_val 65 rfl rfl (.tuple #[.agg (enA (getV L (l.getD i zO).x.p)), .bool (hasL L (l.getD i zO).x.p)]) (rfl) ?_
          refine nr ?_; intro U h; simp only [z0, z1] at h; subst h
          refine s_val 71 rfl rfl (.agg (enA (getV L (l.getD i zO).x.p))) (rfl) ?_
          refine nr ?_; intro U h; simp only [z0, z1] at h; subst h
          refine s_val 72 rfl rfl (.bool (hasL L (l.getD i zO).x.p)) (rfl) ?_
          refine nr ?_; intro U h; simp only [z0, z1] at h; subst h
          refine s_alloc 11 rfl rfl 33 rfl _ zero33 (enA zE) rfl ?_
          intro w10 g3 G eg3 kg3
          have bg3 := size_base GG eg3
          have dtg3 := lt_new kt eg3
          have drg3 := lt_new kr eg3
          have dg1g3 := lt_new kg1 eg3
          have dg2g3 := lt_new kg2 eg3
          have dHTtg3 := HTt.ne eg3
          have dHLg3 := HL.ne eg3
          replace kt := G.has kt
          replace kr := G.has kr
          replace kg1 := G.has kg1
          replace kg2 := G.has kg2
          replace HTt := HTt.gro G
          replace HL := HL.gro G
          replace GG := GG.trans G
          clear G
          clear eg3
          refine nr ?_; intro U h; simp only [z0, z1] at h; subst h
          refine s_store rfl rfl 33 _ _ rfl g3 0 rfl (.agg (enA (getV L (l.getD i zO).x.p))) rfl 33 _ kg3 (enA (getV L (l.getD i zO).x.p)) rfl (si33' _) (enA_fit _ _) (enA_one _) (enA (getV L (l.getD i zO).x.p)) (splice_whole _ _ (enA_sz _ _)) ?_
          intro w11 St
          have kS := kg3
          replace kt := St.has (by omega) kt
          replace kr := St.has (by omega) kr
          replace kg1 := St.has (by omega) kg1
          replace kg2 := St.has (by omega) kg2
          replace HTt := HTt.st St dHTtg3
          replace HL := HL.st St dHLg3
          replace GG := GG.store St bg3
          replace kg3 := St.new
          clear St
          refine s_val 12 rfl rfl (.bool (hasL L (l.getD i zO).x.p)) (rfl) ?_
          refine nr ?_; intro U h; simp only [z0, z1] at h; subst h
          refine wpList_nil ?_
          refine then_n ?_
          refine wp_seq ?_
          refine wp_region_opq ?_
          intro OPS hY
          have y3 := hY 3 76 rfl
          clear hY
          refine s_val 73 rfl rfl (.agg (enA (getV L (l.getD i zO).x.p))) (ldE0 _ rfl g2 rfl (kg2)) ?_
          refine nr ?_; intro U h; simp only [z0, z1] at h; subst h
          refine s_val 74 rfl rfl (.agg (enA (getV L (l.getD i zO).x.p))) (ldE0 _ rfl g3 rfl (kg3)) ?_
          refine nr ?_; intro U h; simp only [z0, z1] at h; subst h
          refine s_val 75 rfl rfl (.bool false) (run_neE _ _ _ rfl _ _ rfl rfl (getV_ok hTI.all _) (getV_ok hTI.all _) false (decide_eq_true rfl)) ?_
          refine nr ?_; intro U h; simp only [z0, z1] at h; subst h
          refine s_val 76 rfl rfl (.bool false) (rfl) ?_
          refine nr ?_; intro U h; simp only [z0, z1] at h; subst h
          refine s_gvalY 77 rfl rfl y3 rfl (.bool (hasL L (l.getD i zO).x.p)) (rfl) ?_
          refine nr ?_; intro U h; simp only [z0, z1] at h; subst h
          refine s_gvalY 78 rfl rfl y3 rfl (.bool (hasL L (l.getD i zO).x.p)) (rfl) ?_
          refine nr ?_; intro U h; simp only [z0, z1] at h; subst h
          refine s_gvalY 79 rfl rfl y3 rfl (.bool false) (run_neB 4 _ _ _ rfl (hasL L (l.getD i zO).x.p) (hasL L (l.getD i zO).x.p) rfl rfl Try.underlying4 false (decide_eq_true rfl) _) ?_
          refine nr ?_; intro U h; simp only [z0, z1] at h; subst h
          refine s_val 80 rfl rfl (.bool false) (rfl) ?_
          refine nr ?_; intro U h; simp only [z0, z1] at h; subst h
          refine wpList_nil ?_
          refine then_n ?_
          refine wp_cond_false rfl ?_
          refine wp_skip ?_
          refine blk_n ?_
          refine then_n ?_
          refine wp_seq ?_
          refine wp_region_exA (A := ?Ax10) 7 [(0, 133), (1, 134), (2, 135), (3, 136), (4, 137), (5, 138), (6, 139)] [.val (.pointer (some ⟨t, 0, none⟩)), .val (.int .i64 (((delL (l.getD i zO).x.p L).length : Nat) : Int)), .val (.pointer (some ⟨r, 0, none⟩)), .val (.pointer (some ⟨r, 0, none⟩)), .val (.pointer (some ⟨r, 0, none⟩)), .val (.slice ra2 ((delL (l.getD i zO).x.p L).length) rc2), .val (.int .i64 (((delL (l.getD i zO).x.p L).length : Nat) : Int))] follows (by kernel_rfl) rfl ?hAx10 (opsA_cons ?o0x10 (opsA_cons ?o1x10 (opsA_cons ?o2x10 (opsA_cons ?o3x10 (opsA_cons ?o4x10 (opsA_cons ?o5x10 (opsA_cons ?o6x10 opsA_nil))))))) ?restx10
          case hAx10 =>
            intro ptrs
            simp only [full, foldSlots, filledE, postE, List.foldl_cons, List.foldl_nil, List.getD_cons_zero, List.getD_cons_succ, fill_val, List.set_cons_zero, List.set_cons_succ]
            exact rfl
          case o0x10 => exact fun _ _ _ _ => opE_move (v := .pointer (some ⟨t, 0, none⟩)) _ rfl rfl rfl
          case o1x10 =>
            intro ptrs w' hw hE
            exact opE_call (.val (.int .i64 (((delL (l.getD i zO).x.p L).length : Nat) : Int))) rfl _ 25 Try.call25 rfl rfl _ rfl [.pointer (some ⟨t, 0, none⟩)] rfl ((len_any _ t b (rmF most) (delL (l.getD i zO).x.p L) (hw.has kt) (HTt.gro ((Gro.refl _).drew.trans hw))).mono fun e w' ⟨he, hg⟩ => ⟨_, he, hg, rfl⟩)
          case o2x10 => exact fun _ _ _ _ => opE_move (v := .pointer (some ⟨r, 0, none⟩)) _ rfl rfl rfl
          case o3x10 => exact fun _ _ _ _ => opE_value (v := .pointer (some ⟨r, 0, none⟩)) rfl (run_nc _ rfl _ rfl)
          case o4x10 => exact fun _ _ _ _ => opE_value (v := .pointer (some ⟨r, 0, none⟩)) rfl (run_fld 47 _ 0 rfl r 0 rfl 0 (by kernel_rfl))
          case o5x10 => exact fun _ _ hw _ => opE_value (v := .slice ra2 ((delL (l.getD i zO).x.p L).length) rc2) rfl (ldRl _ rfl r rfl (hw.has kr))
          case o6x10 => exact fun _ _ _ _ => opE_value (v := .int .i64 (((delL (l.getD i zO).x.p L).length : Nat) : Int)) rfl (run_len Try.underlying41 _ rfl _ _ _ rfl _)
          intro ptrs w12 GD hxE
          simp only [List.drop_succ_cons, List.drop_zero]
          replace kt := GD.has kt
          replace kr := GD.has kr
          replace kg1 := GD.has kg1
          replace kg2 := GD.has kg2
          replace kg3 := GD.has kg3
          replace HTt := HTt.gro ((Gro.refl _).drew.trans GD)
          replace HL := HL.gro ((Gro.refl _).drew.trans GD)
          replace GG := GG.drew.trans GD
          clear GD
          refine s_val 140 rfl rfl (.bool false) (run_neq_k 3 .i64 _ _ _ rfl Try.underlying3 (((delL (l.getD i zO).x.p L).length : Nat) : Int) (((delL (l.getD i zO).x.p L).length : Nat) : Int) rfl rfl false (decide_eq_true rfl) _) ?_
          refine nr ?_; intro U h; simp only [z0, z1] at h; subst h
          refine wpList_nil ?_
          refine then_n ?_
          refine wp_cond_false rfl ?_
          refine wp_skip ?_
          refine blk_n ?_
          refine then_n ?_
          refine wp_region_lit ?_
          refine s_val 141 rfl rfl (.int .i64 ((i + 1 : Nat) : Int)) (run_addI 3 _ _ _ rfl ((i : Nat) : Int) 1 ((i + 1 : Nat) : Int) rfl rfl (by omega) (by omega) (by omega) _) ?_
          refine nr ?_; intro U h; simp only [z0, z1] at h; subst h
          refine s_val 29 rfl rfl (.int .i64 ((i + 1 : Nat) : Int)) (rfl) ?_
          refine nr ?_; intro U h; simp only [z0, z1] at h; subst h
          refine wpList_nil ?_
          refine then_n ?_
          exact ⟨l.length + 1 - (i + 1), by omega, i + 1, (delL (l.getD i zO).x.p L), ra2, rc2, (fun kz => ([us1 0, .int .i64 ((i : Nat) : Int), .pointer (some ⟨g1, 0, none⟩), .pointer (some ⟨g2, 0, none⟩), .bool (hasL L (l.getD i zO).x.p), .pointer (some ⟨g3, 0, none⟩), .bool (hasL L (l.getD i zO).x.p), us1 7, us1 8, us1 9, us1 10, .bool true, .int .i64 ((i : Nat) : Int), .pointer (pO ao0 i), .agg (opA (l.getD i zO)), .int .i64 ((i : Nat) : Int), .bool false, .pointer (some ⟨g1, 0, none⟩), .int .i64 ((l.getD i zO).k), us1 19, us1 20, us1 21, us1 22, us1 23, us1 24, .bool false, .bool false, us1 27, us1 28, us1 29, us1 30, us1 31, us1 32, us1 33, us1 34, us1 35, .bool true, .bool true, .tuple #[.agg (enA (getV L (l.getD i zO).x.p)), .bool (hasL L (l.getD i zO).x.p)], .pointer (some ⟨t, 0, none⟩), .pointer (some ⟨g1, 2, none⟩), .pointer (some ⟨g1, 2, none⟩), .agg (paA ((l.getD i zO).x.p)), .tuple #[.agg (enA (getV L (l.getD i zO).x.p)), .bool (hasL L (l.getD i zO).x.p)], .agg (enA (getV L (l.getD i zO).x.p)), .bool (hasL L (l.getD i zO).x.p), .tuple #[.agg (enA (getV L (l.getD i zO).x.p)), .bool (hasL L (l.getD i zO).x.p)], .pointer (some ⟨r, 0, none⟩), .pointer (some ⟨g1, 2, none⟩), .pointer (some ⟨g1, 2, none⟩), .agg (paA ((l.getD i zO).x.p)), .tuple #[.agg (enA (getV L (l.getD i zO).x.p)), .bool (hasL L (l.getD i zO).x.p)], .agg (enA (getV L (l.getD i zO).x.p)), .bool (hasL L (l.getD i zO).x.p), .agg (enA (getV L (l.getD i zO).x.p)), .agg (enA (getV L (l.getD i zO).x.p)), .bool false, .bool false, .bool (hasL L (l.getD i zO).x.p), .bool (hasL L (l.getD i zO).x.p), .bool false, .bool false, us1 62, us1 63, us1 64, us1 65, us1 66, us1 67, us1 68, us1 69, us1 70, us1 71, us1 72, us1 73, us1 74, us1 75, us1 76, us1 77, us1 78, us1 79, us1 80, us1 81, us1 82, us1 83, us1 84, us1 85, us1 86, us1 87, us1 88, us1 89, us1 90, us1 91, us1 92, us1 93, us1 94, us1 95, us1 96, us1 97, us1 98, us1 99, us1 100, us1 101, us1 102, us1 103, us1 104, us1 105, us1 106, us1 107, us1 108, us1 109, us1 110, us1 111, us1 112, us1 113, .pointer (some ⟨t, 0, none⟩), .int .i64 (((delL (l.getD i zO).x.p L).length : Nat) : Int), .pointer (some ⟨r, 0, none⟩), .pointer (some ⟨r, 0, none⟩), .pointer (some ⟨r, 0, none⟩), .slice ra2 ((delL (l.getD i zO).x.p L).length) rc2, .int .i64 (((delL (l.getD i zO).x.p L).length : Nat) : Int), .bool false, .int .i64 ((i + 1 : Nat) : Int)] : List Value).getD kz undef), rfl, rfl, by omega, GG, kt, HTt, kr, HL, hTI.del _⟩
      · refine s_val 45 rfl rfl (.bool true) (run_eq_k 3 .i64 _ _ _ rfl Try.underlying3 ((l.getD i zO).k) 0 rfl rfl true k0 _) ?_
        refine nr ?_; intro U h; simp only [z0, z1] at h; subst h
        refine s_val 44 rfl rfl (.bool true) (rfl) ?_
        refine nr ?_; intro U h; simp only [z0, z1] at h; subst h
        refine wpList_nil ?_
        refine then_n ?_
        refine wp_cond_true rfl ?_
        refine wp_seq ?_
        refine wp_region_pg (A := ?Ax11) [b] 7 [(0, 46), (1, 47), (2, 48), (3, 49), (4, 50), (5, 51), (6, 52)] [.val (.pointer (some ⟨t, 0, none⟩)), .val (.pointer (some ⟨g1, 2, none⟩)), .val (.agg (enA ((l.getD i zO).x))), codeE (addC (rmF most) L (l.getD i zO).x) b (addL (rmF most) L (l.getD i zO).x), .val (.pointer (some ⟨r, 0, none⟩)), .val (.pointer (some ⟨g1, 2, none⟩)), .val (.agg (enA ((l.getD i zO).x)))] 3 follows (by kernel_rfl) rfl (by decide) (hav_vals [0, 1, 2, 4, 5, 6] (by decide) ⟨⟨_, rfl⟩, ⟨_, rfl⟩, ⟨_, rfl⟩, ⟨_, rfl⟩, ⟨_, rfl⟩, ⟨_, rfl⟩, trivial⟩) ?hAx11 (opsG_a (by decide) ?o0x11 (opsG_a (by decide) ?o1x11 (opsG_a (by decide) ?o2x11 (opsG_e ?o3x11 (opsG_a (by decide) ?o4x11 (opsG_a (by decide) ?o5x11 (opsG_a (by decide) ?o6x11 opsG_nil))))))) ?restx11
        case hAx11 =>
          intro ptrs
          simp only [full, foldSlots, filledE, postE, List.foldl_cons, List.foldl_nil, List.getD_cons_zero, List.getD_cons_succ, fill_val, fill_codeE, List.set_cons_zero, List.set_cons_succ]
          exact rfl
        case o0x11 => exact fun _ _ _ _ => opE_move (v := .pointer (some ⟨t, 0, none⟩)) _ rfl rfl rfl
        case o1x11 => exact fun _ _ _ _ => opE_value (v := .pointer (some ⟨g1, 2, none⟩)) rfl (run_fld 35 _ 2 rfl g1 0 rfl 2 (by kernel_rfl))
        case o2x11 => exact fun _ _ hw _ => opE_value (v := .agg (enA ((l.getD i zO).x))) rfl (ldOx _ rfl g1 rfl (hw.has kg1 (by simpa using HTt.nec kg1)))
        case o3x11 =>
          intro ptrs y hw hE
          exact opX_call (codeE (addC (rmF most) L (l.getD i zO).x) b (addL (rmF most) L (l.getD i zO).x)) rfl _ 12 Try.call12 rfl rfl _ rfl [.pointer (some ⟨t, 0, none⟩), .agg (enA (l.getD i zO).x)] rfl ((add_any _ t b (rmF most) L (hw.has kt) (HTt.gro ((Gro.refl _).drew.trans hw)) (l.getD i zO).x (H.at hjl).x).mono fun e w' ⟨he, h1, h2⟩ => ⟨_, he, h2, rfl, h1⟩)
        case o4x11 => exact fun _ _ _ _ => opE_move (v := .pointer (some ⟨r, 0, none⟩)) _ rfl rfl rfl
        case o5x11 => exact fun _ _ _ _ => opE_value (v := .pointer (some ⟨g1, 2, none⟩)) rfl (run_fld 35 _ 2 rfl g1 0 rfl 2 (by kernel_rfl))
        case o6x11 => exact fun _ _ hw _ => opE_value (v := .agg (enA ((l.getD i zO).x))) rfl (ldOx _ rfl g1 rfl (hw.has kg1 (by simpa using HTt.nec kg1)))
        intro ptrs w6 GD hxE
        simp only [List.drop_succ_cons, List.drop_zero]
        obtain ⟨⟨hx3, HT2⟩, _⟩ := hxE
        simp only [hx3]
        clear hx3
        replace kt := GD.has kt (by simpa using HTt.nec kt)
        replace kr := GD.has kr (by simpa using HTt.nec kr)
        replace kg1 := GD.has kg1 (by simpa using HTt.nec kg1)
        replace HL := (HL.gro (Gro.refl _).drew).mapw (HTt.gro (Gro.refl _).drew) GD
        replace GG := GD.gro GG.drew (by simpa using bb)
        clear GD HTt
        have HTt := HT2
        clear HT2
        refine s_callx 53 rfl rfl _ 13 Try.call13 rfl rfl _ rfl [.pointer (some ⟨r, 0, none⟩), .agg (enA ((l.getD i zO).x))] rfl (radd_any _ r (rmF most) ra rc L (kr) (HL) hLb hTI.ris.kn (l.getD i zO).x (H.at (by omega)).x) (by rintro _ _ ⟨he, _⟩; exact ⟨_, he⟩) ?_
        rintro v w7 ⟨he, ra2, rc2, kr2, HL2, G2⟩
        cases he
        replace kt := G2.has kt (ne_cells kt kr (by decide))
        replace kg1 := G2.has kg1 (ne_cells kg1 kr (by decide))
        replace HTt := HTt.gros G2 (by simpa using (HTt.nec kr).symm)
        replace GG := G2.gro GG (by simpa using br)
        clear kr HL G2
        have kr := kr2
        have HL := HL2
        clear kr2 HL2
        refine nr ?_; intro U h; simp only [z0, z1] at h; subst h
        refine s_val 54 rfl rfl (.bool false) (run_neq_k 36 .i64 _ _ _ rfl Try.underlying36 (addC (rmF most) L (l.getD i zO).x) (addC (rmF most) L (l.getD i zO).x) rfl rfl false (decide_eq_true rfl) _) ?_
        refine nr ?_; intro U h; simp only [z0, z1] at h; subst h
        refine wpList_nil ?_
        refine then_n ?_
        refine wp_cond_false rfl ?_
        refine wp_skip ?_
        refine blk_n ?_
        refine then_n ?_
        refine wp_seq ?_
        refine wp_region_exA (A := ?Ax12) 7 [(0, 133), (1, 134), (2, 135), (3, 136), (4, 137), (5, 138), (6, 139)] [.val (.pointer (some ⟨t, 0, none⟩)), .val (.int .i64 (((addL (rmF most) L (l.getD i zO).x).length : Nat) : Int)), .val (.pointer (some ⟨r, 0, none⟩)), .val (.pointer (some ⟨r, 0, none⟩)), .val (.pointer (some ⟨r, 0, none⟩)), .val (.slice ra2 ((addL (rmF most) L (l.getD i zO).x).length) rc2), .val (.int .i64 (((addL (rmF most) L (l.getD i zO).x).length : Nat) : Int))] follows (by kernel_rfl) rfl ?hAx12 (opsA_cons ?o0x12 (opsA_cons ?o1x12 (opsA_cons ?o2x12 (opsA_cons ?o3x12 (opsA_cons ?o4x12 (opsA_cons ?o5x12 (opsA_cons ?o6x12 opsA_nil))))))) ?restx12
        case hAx12 =>
          intro ptrs
          simp only [full, foldSlots, filledE, postE, List.foldl_cons, List.foldl_nil, List.getD_cons_zero, List.getD_cons_succ, fill_val, List.set_cons_zero, List.set_cons_succ]
          exact rfl
        case o0x12 => exact fun _ _ _ _ => opE_move (v := .pointer (some ⟨t, 0, none⟩)) _ rfl rfl rfl
        case o1x12 =>
          intro ptrs w' hw hE
          exact opE_call (.val (.int .i64 (((addL (rmF most) L (l.getD i zO).x).length : Nat) : Int))) rfl _ 25 Try.call25 rfl rfl _ rfl [.pointer (some ⟨t, 0, none⟩)] rfl ((len_any _ t b (rmF most) (addL (rmF most) L (l.getD i zO).x) (hw.has kt) (HTt.gro ((Gro.refl _).drew.trans hw))).mono fun e w' ⟨he, hg⟩ => ⟨_, he, hg, rfl⟩)
        case o2x12 => exact fun _ _ _ _ => opE_move (v := .pointer (some ⟨r, 0, none⟩)) _ rfl rfl rfl
        case o3x12 => exact fun _ _ _ _ => opE_value (v := .pointer (some ⟨r, 0, none⟩)) rfl (run_nc _ rfl _ rfl)
        case o4x12 => exact fun _ _ _ _ => opE_value (v := .pointer (some ⟨r, 0, none⟩)) rfl (run_fld 47 _ 0 rfl r 0 rfl 0 (by kernel_rfl))
        case o5x12 => exact fun _ _ hw _ => opE_value (v := .slice ra2 ((addL (rmF most) L (l.getD i zO).x).length) rc2) rfl (ldRl _ rfl r rfl (hw.has kr))
        case o6x12 => exact fun _ _ _ _ => opE_value (v := .int .i64 (((addL (rmF most) L (l.getD i zO).x).length : Nat) : Int)) rfl (run_len Try.underlying41 _ rfl _ _ _ rfl _)
        intro ptrs w8 GD hxE
        simp only [List.drop_succ_cons, List.drop_zero]
        replace kt := GD.has kt
        replace kr := GD.has kr
        replace kg1 := GD.has kg1
        replace HTt := HTt.gro ((Gro.refl _).drew.trans GD)
        replace HL := HL.gro ((Gro.refl _).drew.trans GD)
        replace GG := GG.drew.trans GD
        clear GD
        refine s_val 140 rfl rfl (.bool false) (run_neq_k 3 .i64 _ _ _ rfl Try.underlying3 (((addL (rmF most) L (l.getD i zO).x).length : Nat) : Int) (((addL (rmF most) L (l.getD i zO).x).length : Nat) : Int) rfl rfl false (decide_eq_true rfl) _) ?_
        refine nr ?_; intro U h; simp only [z0, z1] at h; subst h
        refine wpList_nil ?_
        refine then_n ?_
        refine wp_cond_false rfl ?_
        refine wp_skip ?_
        refine blk_n ?_
        refine then_n ?_
        refine wp_region_lit ?_
        refine s_val 141 rfl rfl (.int .i64 ((i + 1 : Nat) : Int)) (run_addI 3 _ _ _ rfl ((i : Nat) : Int) 1 ((i + 1 : Nat) : Int) rfl rfl (by omega) (by omega) (by omega) _) ?_
        refine nr ?_; intro U h; simp only [z0, z1] at h; subst h
        refine s_val 29 rfl rfl (.int .i64 ((i + 1 : Nat) : Int)) (rfl) ?_
        refine nr ?_; intro U h; simp only [z0, z1] at h; subst h
        refine wpList_nil ?_
        refine then_n ?_
        exact ⟨l.length + 1 - (i + 1), by omega, i + 1, (addL (rmF most) L (l.getD i zO).x), ra2, rc2, (fun kz => ([us1 0, .int .i64 ((i : Nat) : Int), .pointer (some ⟨g1, 0, none⟩), us1 3, us1 4, us1 5, us1 6, us1 7, us1 8, us1 9, us1 10, .bool true, .int .i64 ((i : Nat) : Int), .pointer (pO ao0 i), .agg (opA (l.getD i zO)), .int .i64 ((i : Nat) : Int), .bool false, .pointer (some ⟨g1, 0, none⟩), .int .i64 ((l.getD i zO).k), us1 19, us1 20, us1 21, us1 22, us1 23, us1 24, .bool true, .bool true, .pointer (some ⟨t, 0, none⟩), .pointer (some ⟨g1, 2, none⟩), .agg (enA ((l.getD i zO).x)), .int .i64 (addC (rmF most) L (l.getD i zO).x), .pointer (some ⟨r, 0, none⟩), .pointer (some ⟨g1, 2, none⟩), .agg (enA ((l.getD i zO).x)), .int .i64 (addC (rmF most) L (l.getD i zO).x), .bool false, us1 36, us1 37, us1 38, us1 39, us1 40, us1 41, us1 42, us1 43, us1 44, us1 45, us1 46, us1 47, us1 48, us1 49, us1 50, us1 51, us1 52, us1 53, us1 54, us1 55, us1 56, us1 57, us1 58, us1 59, us1 60, us1 61, us1 62, us1 63, us1 64, us1 65, us1 66, us1 67, us1 68, us1 69, us1 70, us1 71, us1 72, us1 73, us1 74, us1 75, us1 76, us1 77, us1 78, us1 79, us1 80, us1 81, us1 82, us1 83, us1 84, us1 85, us1 86, us1 87, us1 88, us1 89, us1 90, us1 91, us1 92, us1 93, us1 94, us1 95, us1 96, us1 97, us1 98, us1 99, us1 100, us1 101, us1 102, us1 103, us1 104, us1 105, us1 106, us1 107, us1 108, us1 109, us1 110, us1 111, us1 112, us1 113, .pointer (some ⟨t, 0, none⟩), .int .i64 (((addL (rmF most) L (l.getD i zO).x).length : Nat) : Int), .pointer (some ⟨r, 0, none⟩), .pointer (some ⟨r, 0, none⟩), .pointer (some ⟨r, 0, none⟩), .slice ra2 ((addL (rmF most) L (l.getD i zO).x).length) rc2, .int .i64 (((addL (rmF most) L (l.getD i zO).x).length : Nat) : Int), .bool false, .int .i64 ((i + 1 : Nat) : Int)] : List Value).getD kz undef), rfl, rfl, by omega, GG, kt, HTt, kr, HL, hTI.add (H.at hjl).x⟩
    · refine s_val 35 rfl rfl (.bool true) (run_gtrT 3 _ _ _ rfl ((i : Nat) : Int) 300 rfl rfl true h300 _) ?_
      refine nr ?_; intro U h; simp only [z0, z1] at h; subst h
      refine wpList_nil ?_
      refine then_n ?_
      refine wp_cond_true rfl ?_
      refine wp_exit ?_
      refine then_x ?_
      refine blk_xn (by decide) ?_
      refine then_x ?_
      refine then_x ?_
      refine blk_x ?_
      refine then_n ?_
      refine wp_seq ?_
      refine wp_region_exA (A := ?Ax13) 6 [(0, 142), (1, 143), (2, 144), (3, 145), (4, 146), (5, 147)] [.val (.pointer (some ⟨t, 0, none⟩)), rowE L, .val (.pointer (some ⟨r, 0, none⟩)), .val (.pointer (some ⟨r, 0, none⟩)), .val (.pointer (some ⟨r, 0, none⟩)), .val (.slice ra L.length rc)] follows (by kernel_rfl) rfl ?hAx13 (opsA_cons ?o0x13 (opsA_cons ?o1x13 (opsA_cons ?o2x13 (opsA_cons ?o3x13 (opsA_cons ?o4x13 (opsA_cons ?o5x13 opsA_nil)))))) ?restx13
      case hAx13 =>
        intro ptrs
        simp only [full, foldSlots, filledE, postE, List.foldl_cons, List.foldl_nil, List.getD_cons_zero, List.getD_cons_succ, fill_val, fill_rowE, List.set_cons_zero, List.set_cons_succ]
        exact rfl
      case o0x13 => exact fun _ _ _ _ => opE_move (v := .pointer (some ⟨t, 0, none⟩)) _ rfl rfl rfl
      case o1x13 =>
        intro ptrs w' hw hE
        exact opE_call (rowE L) rfl _ 26 Try.call26 rfl rfl _ rfl [.pointer (some ⟨t, 0, none⟩)] rfl ((all_any _ t b (rmF most) L (hw.has kt) (HTt.gro ((Gro.refl _).drew.trans hw)) hTI.ris hLb).mono fun e w' ⟨ao, cap, he, hg, hr⟩ => ⟨_, he, hg, ao, cap, rfl, hr.mono (Nat.zero_le _)⟩)
      case o2x13 => exact fun _ _ _ _ => opE_move (v := .pointer (some ⟨r, 0, none⟩)) _ rfl rfl rfl
      case o3x13 => exact fun _ _ _ _ => opE_value (v := .pointer (some ⟨r, 0, none⟩)) rfl (run_nc _ rfl _ rfl)
      case o4x13 => exact fun _ _ _ _ => opE_value (v := .pointer (some ⟨r, 0, none⟩)) rfl (run_fld 47 _ 0 rfl r 0 rfl 0 (by kernel_rfl))
      case o5x13 => exact fun _ _ hw _ => opE_value (v := .slice ra L.length rc) rfl (ldRl _ rfl r rfl (hw.has kr))
      intro ptrs w6 GD hxE
      simp only [List.drop_succ_cons, List.drop_zero]
      replace kt := GD.has kt
      replace kr := GD.has kr
      replace kg1 := GD.has kg1
      replace HTt := HTt.gro ((Gro.refl _).drew.trans GD)
      replace HL := HL.gro ((Gro.refl _).drew.trans GD)
      replace GG := GG.drew.trans GD
      obtain ⟨⟨ao13, cap13, hx13, HR13⟩, _⟩ := hxE
      simp only [hx13]
      clear hx13
      clear GD
      refine s_callv 148 rfl rfl _ 18 Try.call18 rfl rfl _ rfl [.slice ao13 L.length cap13, .slice ra L.length rc] rfl (Calls.bool (same_any _ ao13 cap13 L (HR13.re) (le_maxL hLf) ra rc L (HL.re)) (decide_eq_true rfl)) ?_
      intro w7 G
      replace kt := G.has kt
      replace kr := G.has kr
      replace kg1 := G.has kg1
      replace HTt := HTt.gro G
      replace HL := HL.gro G
      replace HR13 := HR13.gro G
      replace GG := GG.trans G
      clear G
      refine nr ?_; intro U h; simp only [z0, z1] at h; subst h
      refine s_val 4 rfl rfl (.bool true) (rfl) ?_
      refine nr ?_; intro U h; simp only [z0, z1] at h; subst h
      refine wpList_nil ?_
      refine then_n ?_
      refine wp_ret ?_
      refine bodyPost_ret (results_tmp Try.results3 _ _ _) rfl ?_
      exact ⟨rfl, GG⟩
end Go.Proofs.Ytgfjclcnolnioaa
