/- Two lists compared; lists of a table are new memory. -/
import Derived.Test.YtgfjclcnolnioaaP12
namespace Go.Proofs.Ytgfjclcnolnioaa
open Classical
open Go.RowKit Go.Maps

theorem extE_getD {l m : List En} (h : l.length = m.length) (hk : ∀ k, k < l.length → l.getD k zE = m.getD k zE) : l = m := by
  apply List.ext_getElem h
  intro i h1 h2
  have := hk i h1
  simpa [List.getD_eq_getElem?_getD, h1, h2] using this
theorem maxL : maxLen = 9223372036854775807 := rfl
theorem le_maxL {n : Nat} (h : n ≤ 128) : n ≤ maxLen := by rw [maxL]; omega
set_option maxRecDepth 100000 in
set_option maxHeartbeats 4000000 in
theorem same_any (w : World) (ao : Option Addr) (cap : Nat) (l : List En) (H : RE w ao cap l) (hl : l.length ≤ maxLen) (bo : Option Addr) (bap : Nat) (m : List En) (HM : RE w bo bap m) : Calls Try.prog 18 #[.slice ao l.length cap, .slice bo m.length bap] w (fun e w' => e = .returned (.bool (decide (l = m))) ∧ Gro w w') := by
  refine s_enter Try.func18 rfl Try.ntmps18 [.slice ao l.length cap, .slice bo m.length bap] [.slice ao l.length cap, .slice bo m.length bap, undef, undef, undef, undef, undef, undef, undef, undef, undef, undef, undef, undef, undef, undef, undef, undef, undef, undef, undef, undef, undef, undef, undef, undef] rfl ?_
  have GG := Gro.refl w
  rw [maxL] at hl
  refine wp_seq ?_
  refine wp_region_lit ?_
  refine s_val 4 rfl rfl (.bool false) (rfl) ?_
  refine nr ?_; intro U h; simp only [z0, z1] at h; subst h
  refine wpList_nil ?_
  refine then_n ?_
  refine wp_seq ?_
  refine wp_seq ?_
  refine wp_region_lit ?_
  refine s_val 6 rfl rfl (.slice ao l.length cap) (rfl) ?_
  refine nr ?_; intro U h; simp only [z0, z1] at h; subst h
  refine s_val 7 rfl rfl (.int .i64 ((l.length : Nat) : Int)) (run_len Try.underlying41 _ rfl _ _ _ rfl _) ?_
  refine nr ?_; intro U h; simp only [z0, z1] at h; subst h
  refine s_val 8 rfl rfl (.slice bo m.length bap) (rfl) ?_
  refine nr ?_; intro U h; simp only [z0, z1] at h; subst h
  refine s_val 9 rfl rfl (.int .i64 ((m.length : Nat) : Int)) (run_len Try.underlying41 _ rfl _ _ _ rfl _) ?_
  refine nr ?_; intro U h; simp only [z0, z1] at h; subst h
  cases hne : decide (((l.length : Nat) : Int) = ((m.length : Nat) : Int))
  · refine s_val 10 rfl rfl (.bool true) (run_neq_k 3 .i64 _ _ _ rfl Try.underlying3 ((l.length : Nat) : Int) ((m.length : Nat) : Int) rfl rfl true hne _) ?_
    refine nr ?_; intro U h; simp only [z0, z1] at h; subst h
    refine wpList_nil ?_
    refine then_n ?_
    refine wp_cond_true rfl ?_
    refine wp_seq ?_
    refine wp_region_lit ?_
    refine s_val 4 rfl rfl (.bool false) (rfl) ?_
    refine nr ?_; intro U h; simp only [z0, z1] at h; subst h
    refine wpList_nil ?_
    refine then_n ?_
    refine wp_ret ?_
    refine then_r ?_
    refine bodyPost_ret (results_tmp Try.results18 _ _ _) rfl ?_
    exact ⟨congrArg (fun b => Ending.returned (.bool b)) ((decide_eq_false (fun e => of_decide_eq_false hne (by rw [e]))).symm), GG⟩
  · have hlm : l.length = m.length := by have := of_decide_eq_true hne; omega
    refine s_val 10 rfl rfl (.bool false) (run_neq_k 3 .i64 _ _ _ rfl Try.underlying3 ((l.length : Nat) : Int) ((m.length : Nat) : Int) rfl rfl false hne _) ?_
    refine nr ?_; intro U h; simp only [z0, z1] at h; subst h
    refine wpList_nil ?_
    refine then_n ?_
    refine wp_cond_false rfl ?_
    refine wp_skip ?_
    refine then_n ?_
    refine wp_seq ?_
    refine wp_seq ?_
    refine wp_region_lit ?_
    refine s_val 5 rfl rfl (.int .i64 0) (rfl) ?_
    refine nr ?_; intro U h; simp only [z0, z1] at h; subst h
    refine wpList_nil ?_
    refine then_n ?_
    refine wp_block ?_
    refine wp_loopN (fun mz az wv => ∃ (i : Nat) (us1 : Nat → Value), mz = l.length + 1 - i ∧ az = ⟨[.slice ao l.length cap, .slice bo m.length bap, undef, undef, us1 0, .int .i64 ((i : Nat) : Int), .slice ao l.length cap, .int .i64 ((l.length : Nat) : Int), .slice bo m.length bap, .int .i64 ((m.length : Nat) : Int), .bool false, us1 1, us1 2, us1 3, us1 4, us1 5, us1 6, us1 7, us1 8, us1 9, us1 10, us1 11, us1 12, us1 13, us1 14, us1 15].toArray, []⟩ ∧ i ≤ l.length ∧ (∀ k, k < i → l.getD k zE = m.getD k zE) ∧ Gro w wv) ?_ _ ⟨0, (fun kz => ([.bool false, undef, undef, undef, undef, undef, undef, undef, undef, undef, undef, undef, undef, undef, undef, undef] : List Value).getD kz undef), rfl, rfl, Nat.zero_le _, fun k hk => absurd hk (by omega), GG⟩
    clear GG
    rintro mz az wv ⟨i, us1, rfl, rfl, hi, hs, GG⟩
    refine wp_seq ?_
    refine wp_seq ?_
    refine wp_region_lit ?_
    refine s_val 11 rfl rfl (.int .i64 ((i : Nat) : Int)) (rfl) ?_
    refine nr ?_; intro U h; simp only [z0, z1] at h; subst h
    refine s_val 12 rfl rfl (.slice ao l.length cap) (rfl) ?_
    refine nr ?_; intro U h; simp only [z0, z1] at h; subst h
    refine s_val 13 rfl rfl (.int .i64 ((l.length : Nat) : Int)) (run_len Try.underlying41 _ rfl _ _ _ rfl _) ?_
    refine nr ?_; intro U h; simp only [z0, z1] at h; subst h
    cases hj1 : decide (((i : Nat) : Int) < ((l.length : Nat) : Int))
    · have hje : i = l.length := by have := of_decide_eq_false hj1; omega
      refine s_val 14 rfl rfl (.bool false) (run_lssT 3 _ _ _ rfl ((i : Nat) : Int) ((l.length : Nat) : Int) rfl rfl false hj1 _) ?_
      refine nr ?_; intro U h; simp only [z0, z1] at h; subst h
      refine wpList_nil ?_
      refine then_n ?_
      refine wp_cond_false rfl ?_
      refine wp_exit ?_
      refine then_x ?_
      refine then_x ?_
      refine blk_x ?_
      refine then_n ?_
      refine wp_seq ?_
      refine wp_region_lit ?_
      refine s_val 4 rfl rfl (.bool true) (rfl) ?_
      refine nr ?_; intro U h; simp only [z0, z1] at h; subst h
      refine wpList_nil ?_
      refine then_n ?_
      refine wp_ret ?_
      refine bodyPost_ret (results_tmp Try.results18 _ _ _) rfl ?_
      exact ⟨congrArg (fun b => Ending.returned (.bool b)) ((decide_eq_true (extE_getD hlm (fun k hk => hs k (by omega)))).symm), GG⟩
    · have hjl : i < l.length := by have := of_decide_eq_true hj1; omega
      refine s_val 14 rfl rfl (.bool true) (run_lssT 3 _ _ _ rfl ((i : Nat) : Int) ((l.length : Nat) : Int) rfl rfl true hj1 _) ?_
      refine nr ?_; intro U h; simp only [z0, z1] at h; subst h
      refine wpList_nil ?_
      refine then_n ?_
      refine wp_cond_true rfl ?_
      refine wp_skip ?_
      refine then_n ?_
      refine wp_seq ?_
      refine wp_block ?_
      refine wp_seq ?_
      cases hx : decide (l.getD i zE = m.getD i zE)
      · refine wp_region_exA (A := ?Ax1) 8 [(0, 17), (1, 18), (2, 19), (3, 20), (4, 21), (5, 22), (6, 23), (7, 24)] [.val (.slice ao l.length cap), .val (.int .i64 ((i : Nat) : Int)), .val (.pointer (pE ao i 0)), .val (.agg (enA (l.getD i zE))), .val (.slice bo m.length bap), .val (.int .i64 ((i : Nat) : Int)), .val (.pointer (pE bo i 0)), .val (.agg (enA (m.getD i zE)))] follows (by kernel_rfl) rfl ?hAx1 (opsA_cons ?o0x1 (opsA_cons ?o1x1 (opsA_cons ?o2x1 (opsA_cons ?o3x1 (opsA_cons ?o4x1 (opsA_cons ?o5x1 (opsA_cons ?o6x1 (opsA_cons ?o7x1 opsA_nil)))))))) ?restx1
        case hAx1 =>
          intro ptrs
          simp only [full, foldSlots, filledE, postE, List.foldl_cons, List.foldl_nil, List.getD_cons_zero, List.getD_cons_succ, fill_val, List.set_cons_zero, List.set_cons_succ]
          exact rfl
        case o0x1 => exact fun _ _ _ _ => opE_move (v := .slice ao l.length cap) _ rfl rfl rfl
        case o1x1 => exact fun _ _ _ _ => opE_move (v := .int .i64 ((i : Nat) : Int)) _ rfl rfl rfl
        case o2x1 => exact fun _ _ hw _ => opE_value (v := .pointer (pE ao i 0)) rfl (run_ixE (H.gro (GG.drew.trans hw)) _ _ rfl rfl i rfl (by omega))
        case o3x1 => exact fun _ _ hw _ => opE_value (v := .agg (enA (l.getD i zE))) rfl (run_ldE (H.gro (GG.drew.trans hw)) _ rfl i rfl (by omega))
        case o4x1 => exact fun _ _ _ _ => opE_move (v := .slice bo m.length bap) _ rfl rfl rfl
        case o5x1 => exact fun _ _ _ _ => opE_move (v := .int .i64 ((i : Nat) : Int)) _ rfl rfl rfl
        case o6x1 => exact fun _ _ hw _ => opE_value (v := .pointer (pE bo i 0)) rfl (run_ixE (HM.gro (GG.drew.trans hw)) _ _ rfl rfl i rfl (by omega))
        case o7x1 => exact fun _ _ hw _ => opE_value (v := .agg (enA (m.getD i zE))) rfl (run_ldE (HM.gro (GG.drew.trans hw)) _ rfl i rfl (by omega))
        intro ptrs w1 GD hxE
        simp only [List.drop_succ_cons, List.drop_zero]
        replace GG := GG.drew.trans GD
        clear GD
        refine s_val 25 rfl rfl (.bool true) (run_neE _ _ _ rfl _ _ rfl rfl (H.all.at (by omega)) (HM.all.at (by omega)) true hx) ?_
        refine nr ?_; intro U h; simp only [z0, z1] at h; subst h
        refine wpList_nil ?_
        refine then_n ?_
        refine wp_cond_true rfl ?_
        refine wp_seq ?_
        refine wp_region_lit ?_
        refine s_val 4 rfl rfl (.bool false) (rfl) ?_
        refine nr ?_; intro U h; simp only [z0, z1] at h; subst h
        refine wpList_nil ?_
        refine then_n ?_
        refine wp_ret ?_
        refine blk_r ?_
        refine then_r ?_
        refine then_r ?_
        refine blk_r ?_
        refine then_r ?_
        refine bodyPost_ret (results_tmp Try.results18 _ _ _) rfl ?_
        exact ⟨congrArg (fun b => Ending.returned (.bool b)) ((decide_eq_false (fun e => of_decide_eq_false hx (by rw [e]))).symm), GG⟩
      · refine wp_region_exA (A := ?Ax2) 8 [(0, 17), (1, 18), (2, 19), (3, 20), (4, 21), (5, 22), (6, 23), (7, 24)] [.val (.slice ao l.length cap), .val (.int .i64 ((i : Nat) : Int)), .val (.pointer (pE ao i 0)), .val (.agg (enA (l.getD i zE))), .val (.slice bo m.length bap), .val (.int .i64 ((i : Nat) : Int)), .val (.pointer (pE bo i 0)), .val (.agg (enA (m.getD i zE)))] follows (by kernel_rfl) rfl ?hAx2 (opsA_cons ?o0x2 (opsA_cons ?o1x2 (opsA_cons ?o2x2 (opsA_cons ?o3x2 (opsA_cons ?o4x2 (opsA_cons ?o5x2 (opsA_cons ?o6x2 (opsA_cons ?o7x2 opsA_nil)))))))) ?restx2
        case hAx2 =>
          intro ptrs
          simp only [full, foldSlots, filledE, postE, List.foldl_cons, List.foldl_nil, List.getD_cons_zero, List.getD_cons_succ, fill_val, List.set_cons_zero, List.set_cons_succ]
          exact rfl
        case o0x2 => exact fun _ _ _ _ => opE_move (v := .slice ao l.length cap) _ rfl rfl rfl
        case o1x2 => exact fun _ _ _ _ => opE_move (v := .int .i64 ((i : Nat) : Int)) _ rfl rfl rfl
        case o2x2 => exact fun _ _ hw _ => opE_value (v := .pointer (pE ao i 0)) rfl (run_ixE (H.gro (GG.drew.trans hw)) _ _ rfl rfl i rfl (by omega))
        case o3x2 => exact fun _ _ hw _ => opE_value (v := .agg (enA (l.getD i zE))) rfl (run_ldE (H.gro (GG.drew.trans hw)) _ rfl i rfl (by omega))
        case o4x2 => exact fun _ _ _ _ => opE_move (v := .slice bo m.length bap) _ rfl rfl rfl
        case o5x2 => exact fun _ _ _ _ => opE_move (v := .int .i64 ((i : Nat) : Int)) _ rfl rfl rfl
        case o6x2 => exact fun _ _ hw _ => opE_value (v := .pointer (pE bo i 0)) rfl (run_ixE (HM.gro (GG.drew.trans hw)) _ _ rfl rfl i rfl (by omega))
        case o7x2 => exact fun _ _ hw _ => opE_value (v := .agg (enA (m.getD i zE))) rfl (run_ldE (HM.gro (GG.drew.trans hw)) _ rfl i rfl (by omega))
        intro ptrs w1 GD hxE
        simp only [List.drop_succ_cons, List.drop_zero]
        replace GG := GG.drew.trans GD
        clear GD
        refine s_val 25 rfl rfl (.bool false) (run_neE _ _ _ rfl _ _ rfl rfl (H.all.at (by omega)) (HM.all.at (by omega)) false hx) ?_
        refine nr ?_; intro U h; simp only [z0, z1] at h; subst h
        refine wpList_nil ?_
        refine then_n ?_
        refine wp_cond_false rfl ?_
        refine wp_skip ?_
        refine blk_n ?_
        refine then_n ?_
        refine wp_region_lit ?_
        refine s_val 15 rfl rfl (.int .i64 ((i : Nat) : Int)) (rfl) ?_
        refine nr ?_; intro U h; simp only [z0, z1] at h; subst h
        refine s_val 16 rfl rfl (.int .i64 ((i + 1 : Nat) : Int)) (run_addI 3 _ _ _ rfl ((i : Nat) : Int) 1 ((i + 1 : Nat) : Int) rfl rfl (by omega) (by omega) (by omega) _) ?_
        refine nr ?_; intro U h; simp only [z0, z1] at h; subst h
        refine s_val 5 rfl rfl (.int .i64 ((i + 1 : Nat) : Int)) (rfl) ?_
        refine nr ?_; intro U h; simp only [z0, z1] at h; subst h
        refine wpList_nil ?_
        refine then_n ?_
        exact ⟨l.length + 1 - (i + 1), by omega, i + 1, (fun kz => ([us1 0, .int .i64 ((i : Nat) : Int), .slice ao l.length cap, .int .i64 ((l.length : Nat) : Int), .bool true, .int .i64 ((i : Nat) : Int), .int .i64 ((i + 1 : Nat) : Int), .slice ao l.length cap, .int .i64 ((i : Nat) : Int), .pointer (pE ao i 0), .agg (enA (l.getD i zE)), .slice bo m.length bap, .int .i64 ((i : Nat) : Int), .pointer (pE bo i 0), .agg (enA (m.getD i zE)), .bool false] : List Value).getD kz undef), rfl, rfl, by omega, fun k hk => (Nat.lt_succ_iff_lt_or_eq.1 hk).elim (hs k) (fun e => e ▸ of_decide_eq_true hx), GG⟩

section
variable {o : Oper} {A : Act} {w w' : World} {B : Nat} {ao : Option Addr} {cap n : Nat} {cs : List Value}
theorem OY.some (h : OY w 33 51 B ao cap n cs) (h0 : 0 < n) : ∃ ad, ao = .some ad := by
  rcases h.row with ⟨_, _, h3⟩ | ⟨g, d, cur, h1, _⟩
  · omega
  · exact ⟨_, h1⟩
theorem run_ixY (h : OY w 33 51 B ao cap n cs) (x y : Operand) (ho : o.op = .indexAddr 41 x y) (hx : A.eval x = .slice ao n cap) (j : Nat) (hy : A.eval y = .int .i64 (j : Int)) (hj : j < n) :
    (execOp A.eval o).run Try.prog w = .ok (.value (.pointer (pE ao j 0))) w := by
  obtain ⟨ad, rfl⟩ := h.some (by omega)
  exact run_idxX rE x y ho ad _ _ j hx hy hj w
theorem run_fdY (h : OY w 33 51 B ao cap n cs) (x : Operand) (ho : o.op = .fieldAddr 33 x 3) (j : Nat) (hx : A.eval x = .pointer (pE ao j 0)) (hj : j < n) :
    (execOp A.eval o).run Try.prog w = .ok (.value (.pointer (pE ao j 49))) w := by
  obtain ⟨ad, rfl⟩ := h.some (by omega)
  have := fd33_3 w (ad.add (j * 51 + 0))
  rw [add_add, Nat.add_zero] at this
  exact run_fdA 33 x 3 ho hx _ this
variable {ops : Array Oper} {rest : List Oper} {T : List Value} {ds : List Deferred} {Q : Exit → Act → World → Prop}
/-- A number is written into an element of one's own row. -/
theorem s_setY (hgd : o.guard = none) (hdst : o.dst = none) (x y : Operand) (ho : o.op = .store 3 x y) (h : OY w 33 51 B ao cap n cs) (j : Nat) (hj : j < n) (hx : (⟨T.toArray, ds⟩ : Act).eval x = .pointer (pE ao j 49)) (z : Int) (hy : (⟨T.toArray, ds⟩ : Act).eval y = .int .i64 z)
    (hk : ∀ w' cs', OY w' 33 51 B ao cap n cs' → GroS (blk ao) w w' → wpList Try.prog ops Q rest ⟨T.toArray, ds⟩ w') : wpList Try.prog ops Q (o :: rest) ⟨T.toArray, ds⟩ w := by
  obtain ⟨g, d, cur, rfl, hB, hg, hlt, hset⟩ := h.set (j := j * 51 + 49) (by omega) (.int .i64 z) rfl
  have hx2 : (⟨T.toArray, ds⟩ : Act).eval x = .pointer (some ⟨g, d + (j * 51 + 49), none⟩) := by rw [hx]; simp [pE, add_at]
  refine s_store hgd hdst 3 x y ho g (d + (j * 51 + 49)) hx2 (.int .i64 z) hy 33 cur hg #[.int .i64 z] rfl si3 (by show d + (j * 51 + 49) + 1 ≤ _; omega) (i_one z) _ rfl ?_
  intro w' St
  exact hk w' _ (hset w' St) ⟨St.os, St.tape, St.output, Nat.le_of_eq St.size.symm, fun k _ hn => St.old k (fun e => hn (mem_blk.2 ⟨_, rfl, e.symm⟩))⟩
end
theorem OE.ap {w w' : World} {B B2 : Nat} {ao bo : Option Addr} {cap bap n : Nat} {l : List En} {cs : List Value} (h : OE w B2 bo bap l) (_ha : OY w 33 51 B ao cap n cs) (G : GroS (Go.Proofs.Ytgfjclcnolnioaa.blk ao) w w') (hb : ∀ k ∈ Go.Proofs.Ytgfjclcnolnioaa.blk ao, k < B2) : OE w' B2 bo bap l :=
  h.gros G fun k hk hm => by
    have h1 := h.own.base k hk
    have h2 := hb k hm
    omega
theorem OE.named {w : World} {n : Nat} {ao : Option Addr} {cap : Nat} {l : List En} (h : OE w n ao cap l) : ∃ B, B = n ∧ OE w B ao cap l := ⟨n, rfl, h⟩
theorem TM.ap {w w' : World} {B b : Nat} {ao : Option Addr} {cap n : Nat} {L : List En} {cs : List Value} (h : TM w b L) (ha : OY w 33 51 B ao cap n cs) (G : GroS (blk ao) w w') : TM w' b L :=
  h.gros G fun hm => by
    obtain ⟨_, cur, hc⟩ := ha.at b hm
    exact h.nec hc rfl
set_option maxRecDepth 100000 in
set_option maxHeartbeats 4000000 in
theorem tableNew_any (w : World) (ao : Option Addr) (cap : Nat) (l : List En) (H : RE w ao cap l) (hl : l.length ≤ maxLen) : Calls Try.prog 7 #[.slice ao l.length cap] w (fun e w' => e = .returned (.bool true) ∧ Gro w w') := by
  refine s_enter Try.func7 rfl Try.ntmps7 [.slice ao l.length cap] [.slice ao l.length cap, undef, undef, undef, undef, undef, undef, undef, undef, undef, undef, undef, undef, undef, undef, undef, undef, undef, undef, undef, undef, undef, undef, undef, undef, undef, undef, undef, undef, undef, undef, undef, undef, undef, undef, undef, undef, undef, undef, undef, undef, undef, undef, undef, undef, undef, undef, undef, undef, undef, undef, undef, undef] rfl ?_
  have GG := Gro.refl w
  rw [maxL] at hl
  refine wp_seq ?_
  refine wp_region_lit ?_
  refine s_val 2 rfl rfl (.bool false) (rfl) ?_
  refine nr ?_; intro U h; simp only [z0, z1] at h; subst h
  refine wpList_nil ?_
  refine then_n ?_
  refine wp_seq ?_
  refine wp_region_lit ?_
  refine s_callx 10 rfl rfl _ 9 Try.call9 rfl rfl _ rfl [.int .i64 128] rfl (new_any 128 _) (by rintro _ _ ⟨_, _, he, _⟩; exact ⟨_, he⟩) ?_
  rintro v w1 ⟨t, b, he, G, kt, HTt, h1t, h2t⟩
  cases he
  have bt := Nat.le_trans GG.size h1t
  have bb := Nat.le_trans GG.size h2t
  clear h1t h2t
  replace GG := GG.trans G
  clear G
  refine nr ?_; intro U h; simp only [z0, z1] at h; subst h
  refine s_val 3 rfl rfl (.pointer (some ⟨t, 0, none⟩)) (rfl) ?_
  refine nr ?_; intro U h; simp only [z0, z1] at h; subst h
  refine wpList_nil ?_
  refine then_n ?_
  refine wp_seq ?_
  refine wp_seq ?_
  refine wp_region_opq ?_
  intro OPS hY
  have y2 := hY 2 13 rfl
  clear hY
  refine s_val 11 rfl rfl (.pointer (some ⟨t, 0, none⟩)) (rfl) ?_
  refine nr ?_; intro U h; simp only [z0, z1] at h; subst h
  refine s_val 12 rfl rfl (.bool false) (run_eqnp 23 _ _ _ rfl _ rfl rfl Try.underlying23 _) ?_
  refine nr ?_; intro U h; simp only [z0, z1] at h; subst h
  refine s_val 13 rfl rfl (.bool false) (rfl) ?_
  refine nr ?_; intro U h; simp only [z0, z1] at h; subst h
  refine s_gcallvY 14 rfl rfl y2 rfl _ 11 Try.call11 rfl rfl _ rfl [] rfl (fixed_any _) ?_
  intro w2 G
  replace kt := G.has kt
  replace HTt := HTt.gro G
  replace GG := GG.trans G
  clear G
  refine nr ?_; intro U h; simp only [z0, z1] at h; subst h
  refine s_gvalY 15 rfl rfl y2 rfl (.bool false) (run_nt _ _ rfl true rfl) ?_
  refine nr ?_; intro U h; simp only [z0, z1] at h; subst h
  refine s_val 16 rfl rfl (.bool false) (rfl) ?_
  refine nr ?_; intro U h; simp only [z0, z1] at h; subst h
  refine wpList_nil ?_
  refine then_n ?_
  refine wp_cond_false rfl ?_
  refine wp_skip ?_
  refine then_n ?_
  refine wp_seq ?_
  refine wp_seq ?_
  refine wp_region_lit ?_
  refine s_val 17 rfl rfl (.slice ao l.length cap) (rfl) ?_
  refine nr ?_; intro U h; simp only [z0, z1] at h; subst h
  refine s_val 18 rfl rfl (.int .i64 ((l.length : Nat) : Int)) (run_len Try.underlying41 _ rfl _ _ _ rfl _) ?_
  refine nr ?_; intro U h; simp only [z0, z1] at h; subst h
  refine s_val 19 rfl rfl (.int .i64 0) (rfl) ?_
  refine nr ?_; intro U h; simp only [z0, z1] at h; subst h
  refine wpList_nil ?_
  refine then_n ?_
  refine wp_block ?_
  refine wp_loopN (fun mz az wv => ∃ (i : Nat) (L : List En) (us1 : Nat → Value), mz = l.length + 1 - i ∧ az = ⟨[.slice ao l.length cap, undef, .bool false, .pointer (some ⟨t, 0, none⟩), undef, us1 0, undef, undef, undef, undef, .pointer (some ⟨t, 0, none⟩), .pointer (some ⟨t, 0, none⟩), .bool false, .bool false, .bool true, .bool false, .bool false, .slice ao l.length cap, .int .i64 ((l.length : Nat) : Int), .int .i64 ((i : Nat) : Int), us1 1, us1 2, us1 3, us1 4, us1 5, us1 6, us1 7, undef, undef, undef, undef, undef, undef, undef, undef, undef, undef, undef, undef, undef, undef, undef, undef, undef, undef, undef, undef, undef, undef, undef, undef, undef, undef].toArray, []⟩ ∧ i ≤ l.length ∧ Gro w wv ∧ wv.heap[t]? = some (.cells (tbA 128 b) 59 (0, 0)) ∧ TM wv b L ∧ TI 128 L) ?_ _ ⟨0, [], (fun kz => ([undef, undef, undef, undef, undef, undef, undef, undef] : List Value).getD kz undef), rfl, rfl, Nat.zero_le _, GG, kt, HTt, TI.nil 128⟩
  clear GG kt HTt
  rintro mz az wv ⟨i, L, us1, rfl, rfl, hi, GG, kt, HTt, hTI⟩
  refine wp_seq ?_
  refine wp_region_lit ?_
  cases hj1 : decide (((i : Nat) : Int) < ((l.length : Nat) : Int))
  · have hje : i = l.length := by have := of_decide_eq_false hj1; omega
    refine s_val 20 rfl rfl (.bool false) (run_lssT 3 _ _ _ rfl ((i : Nat) : Int) ((l.length : Nat) : Int) rfl rfl false hj1 _) ?_
    refine nr ?_; intro U h; simp only [z0, z1] at h; subst h
    refine wpList_nil ?_
    refine then_n ?_
    refine wp_seq ?_
    refine wp_cond_false rfl ?_
    refine wp_exit ?_
    refine then_x ?_
    refine then_x ?_
    refine blk_x ?_
    refine then_n ?_
    refine wp_seq ?_
    refine wp_region_lit ?_
    refine s_val 27 rfl rfl (.pointer (some ⟨t, 0, none⟩)) (rfl) ?_
    refine nr ?_; intro U h; simp only [z0, z1] at h; subst h
    refine s_callx 28 rfl rfl _ 26 Try.call26 rfl rfl _ rfl [.pointer (some ⟨t, 0, none⟩)] rfl (all_any _ t b 128 L kt HTt hTI.ris (Nat.le_trans hTI.fit (by decide))) (by rintro _ _ ⟨_, _, he, _⟩; exact ⟨_, he⟩) ?_
    rintro v w3 ⟨ao1, cap1, he, G, HOx⟩
    cases he
    obtain ⟨B1, hB1, HO1⟩ := HOx.named
    clear HOx
    have hb1 := GG.size
    rw [← hB1] at hb1
    clear hB1
    replace kt := G.has kt
    replace HTt := HTt.gro G
    replace GG := GG.trans G
    clear G
    refine nr ?_; intro U h; simp only [z0, z1] at h; subst h
    refine s_val 29 rfl rfl (.pointer (some ⟨t, 0, none⟩)) (rfl) ?_
    refine nr ?_; intro U h; simp only [z0, z1] at h; subst h
    have h12 := HO1.own.lt
    refine s_callx 30 rfl rfl _ 26 Try.call26 rfl rfl _ rfl [.pointer (some ⟨t, 0, none⟩)] rfl (all_any _ t b 128 L kt HTt hTI.ris (Nat.le_trans hTI.fit (by decide))) (by rintro _ _ ⟨_, _, he, _⟩; exact ⟨_, he⟩) ?_
    rintro v w4 ⟨ao2, cap2, he, G, HOx⟩
    cases he
    obtain ⟨B2, hB2, HO2⟩ := HOx.named
    clear HOx
    have hb2 := GG.size
    rw [← hB2] at hb2
    rw [← hB2] at h12
    clear hB2
    replace kt := G.has kt
    replace HTt := HTt.gro G
    replace HO1 := HO1.gro G
    replace GG := GG.trans G
    clear G
    refine nr ?_; intro U h; simp only [z0, z1] at h; subst h
    refine s_val 6 rfl rfl (.slice ao1 L.length cap1) (rfl) ?_
    refine nr ?_; intro U h; simp only [z0, z1] at h; subst h
    refine s_val 7 rfl rfl (.slice ao2 L.length cap2) (rfl) ?_
    refine nr ?_; intro U h; simp only [z0, z1] at h; subst h
    refine wpList_nil ?_
    refine then_n ?_
    refine wp_seq ?_
    refine wp_region_lit ?_
    refine s_bsl 31 rfl rfl 41 0 _ rfl [] rfl (flE []).toArray 33 (bs0 _) ?_
    intro w5 qq G eqq kqq
    have h13 : ∀ k ∈ blk ao1, k < qq := fun k hk => eqq ▸ HO1.own.lt k hk
    have h23 : ∀ k ∈ blk ao2, k < qq := fun k hk => eqq ▸ HO2.own.lt k hk
    have bqq := size_base GG eqq
    replace kt := G.has kt
    replace HTt := HTt.gro G
    replace HO1 := HO1.gro G
    replace HO2 := HO2.gro G
    replace GG := GG.trans G
    clear G
    clear eqq
    refine nr ?_; intro U h; simp only [z0, z1] at h; subst h
    refine s_val 32 rfl rfl (.slice ao2 L.length cap2) (rfl) ?_
    refine nr ?_; intro U h; simp only [z0, z1] at h; subst h
    have HQ : OE _ qq (some ⟨qq, 0, none⟩) 0 [] := OE.blk kqq AllE.nil (Nat.le_refl _) (by decide)
    have hQ1 : ∀ k ∈ blk (some ⟨qq, 0, none⟩), k = qq := fun k hk => by obtain ⟨ad, h1, h2⟩ := mem_blk.1 hk; cases h1; exact h2.symm
    refine s_appE 33 rfl rfl _ _ rfl rfl HQ rfl HO2.re (by have := hTI.fit; simp only [List.length_nil]; omega) (Nat.le_of_lt (lt_of_heap kqq)) ?_
    intro ao3 cap3 w6 HO3 G2 _
    replace kt := G2.has kt (HQ.own.ne kt (by decide))
    replace HTt := HTt.ap HQ.own G2
    replace HO1 := HO1.gros G2 (fun k hk hm => by have h1 := h13 k hk; have h2 := hQ1 k hm; omega)
    replace HO2 := HO2.gros G2 (fun k hk hm => by have h1 := h23 k hk; have h2 := hQ1 k hm; omega)
    replace GG := G2.gro GG (fun k hk => by rw [hQ1 k hk]; exact bqq)
    clear G2 HQ hQ1
    refine nr ?_; intro U h; simp only [z0, z1] at h; subst h
    refine s_val 8 rfl rfl (.slice ao3 (([] ++ L).length) cap3) (rfl) ?_
    refine nr ?_; intro U h; simp only [z0, z1] at h; subst h
    refine wpList_nil ?_
    refine then_n ?_
    refine wp_seq ?_
    refine wp_seq ?_
    refine wp_region_lit ?_
    refine s_val 34 rfl rfl (.slice ao1 L.length cap1) (rfl) ?_
    refine nr ?_; intro U h; simp only [z0, z1] at h; subst h
    refine s_val 35 rfl rfl (.int .i64 ((L.length : Nat) : Int)) (run_len Try.underlying41 _ rfl _ _ _ rfl _) ?_
    refine nr ?_; intro U h; simp only [z0, z1] at h; subst h
    refine s_val 36 rfl rfl (.int .i64 0) (rfl) ?_
    refine nr ?_; intro U h; simp only [z0, z1] at h; subst h
    refine wpList_nil ?_
    refine then_n ?_
    refine wp_block ?_
    rw [List.nil_append] at HO3
    refine wp_loopN (fun mz az wv => ∃ (j : Nat) (cs : List Value) (us2 : Nat → Value), mz = L.length + 1 - j ∧ az = ⟨[.slice ao l.length cap, undef, .bool false, .pointer (some ⟨t, 0, none⟩), undef, us1 0, .slice ao1 L.length cap1, .slice ao2 L.length cap2, .slice ao3 L.length cap3, us2 0, .pointer (some ⟨t, 0, none⟩), .pointer (some ⟨t, 0, none⟩), .bool false, .bool false, .bool true, .bool false, .bool false, .slice ao l.length cap, .int .i64 ((l.length : Nat) : Int), .int .i64 ((i : Nat) : Int), .bool false, us1 2, us1 3, us1 4, us1 5, us1 6, us1 7, .pointer (some ⟨t, 0, none⟩), .slice ao1 L.length cap1, .pointer (some ⟨t, 0, none⟩), .slice ao2 L.length cap2, .slice (some ⟨qq, 0, none⟩) 0 0, .slice ao2 L.length cap2, .slice ao3 L.length cap3, .slice ao1 L.length cap1, .int .i64 ((L.length : Nat) : Int), .int .i64 ((j : Nat) : Int), us2 1, us2 2, us2 3, us2 4, us2 5, us2 6, us2 7, undef, undef, undef, undef, undef, undef, undef, undef, undef].toArray, []⟩ ∧ j ≤ L.length ∧ Gro w wv ∧ wv.heap[t]? = some (.cells (tbA 128 b) 59 (0, 0)) ∧ TM wv b L ∧ OY wv 33 51 B1 ao1 cap1 L.length cs ∧ OE wv B2 ao2 cap2 L ∧ OE wv qq ao3 cap3 L) ?_ _ ⟨0, _, (fun kz => ([undef, undef, undef, undef, undef, undef, undef, undef] : List Value).getD kz undef), rfl, rfl, Nat.zero_le _, GG, kt, HTt, HO1.own, HO2, HO3⟩
    clear GG kt HTt HO2 HO3
    rintro mz az wv ⟨j, cs, us2, rfl, rfl, hj0, GG, kt, HTt, HA, HO2, HO3⟩
    have hLf := hTI.fit
    refine wp_seq ?_
    refine wp_region_lit ?_
    cases hq1 : decide (((j : Nat) : Int) < ((L.length : Nat) : Int))
    · have hqe : j = L.length := by have := of_decide_eq_false hq1; omega
      refine s_val 37 rfl rfl (.bool false) (run_lssT 3 _ _ _ rfl ((j : Nat) : Int) ((L.length : Nat) : Int) rfl rfl false hq1 _) ?_
      refine nr ?_; intro U h; simp only [z0, z1] at h; subst h
      refine wpList_nil ?_
      refine then_n ?_
      refine wp_seq ?_
      refine wp_cond_false rfl ?_
      refine wp_exit ?_
      refine then_x ?_
      refine then_x ?_
      refine blk_x ?_
      refine then_n ?_
      refine wp_seq ?_
      refine wp_region_opq ?_
      intro OPS hY
      have y3 := hY 3 47 rfl
      clear hY
      refine s_val 44 rfl rfl (.slice ao2 L.length cap2) (rfl) ?_
      refine nr ?_; intro U h; simp only [z0, z1] at h; subst h
      refine s_val 45 rfl rfl (.slice ao3 L.length cap3) (rfl) ?_
      refine nr ?_; intro U h; simp only [z0, z1] at h; subst h
      refine s_callv 46 rfl rfl _ 18 Try.call18 rfl rfl _ rfl [.slice ao2 L.length cap2, .slice ao3 L.length cap3] rfl (Calls.bool (same_any _ ao2 cap2 L (HO2.re) (le_maxL hTI.fit) ao3 cap3 L (HO3.re)) (decide_eq_true rfl)) ?_
      intro w7 G
      replace kt := G.has kt
      replace HTt := HTt.gro G
      replace HO2 := HO2.gro G
      replace HO3 := HO3.gro G
      replace GG := GG.trans G
      clear G
      refine nr ?_; intro U h; simp only [z0, z1] at h; subst h
      refine s_val 47 rfl rfl (.bool true) (rfl) ?_
      refine nr ?_; intro U h; simp only [z0, z1] at h; subst h
      refine s_gvalY 48 rfl rfl y3 rfl (.pointer (some ⟨t, 0, none⟩)) (rfl) ?_
      refine nr ?_; intro U h; simp only [z0, z1] at h; subst h
      refine s_gcallxY 49 rfl rfl y3 rfl _ 26 Try.call26 rfl rfl _ rfl [.pointer (some ⟨t, 0, none⟩)] rfl (all_any _ t b 128 L (kt) (HTt) hTI.ris (Nat.le_trans hTI.fit (by decide))) (by rintro _ _ ⟨_, _, he, _⟩; exact ⟨_, he⟩) ?_
      rintro v w8 ⟨ao12, cap12, he, G, HO12⟩
      cases he
      replace HO12 := HO12.mono GG.size
      replace kt := G.has kt
      replace HTt := HTt.gro G
      replace HO2 := HO2.gro G
      replace HO3 := HO3.gro G
      replace GG := GG.trans G
      clear G
      have HR12 := HO12.re
      refine nr ?_; intro U h; simp only [z0, z1] at h; subst h
      refine s_gvalY 50 rfl rfl y3 rfl (.slice ao3 L.length cap3) (rfl) ?_
      refine nr ?_; intro U h; simp only [z0, z1] at h; subst h
      refine s_gcallvY 51 rfl rfl y3 rfl _ 18 Try.call18 rfl rfl _ rfl [.slice ao12 L.length cap12, .slice ao3 L.length cap3] rfl (Calls.bool (same_any _ ao12 cap12 L (HR12) (le_maxL hTI.fit) ao3 cap3 L (HO3.re)) (decide_eq_true rfl)) ?_
      intro w9 G
      replace kt := G.has kt
      replace HTt := HTt.gro G
      replace HO2 := HO2.gro G
      replace HO3 := HO3.gro G
      replace HR12 := HR12.gro G
      replace HO12 := HO12.gro G
      replace GG := GG.trans G
      clear G
      refine nr ?_; intro U h; simp only [z0, z1] at h; subst h
      refine s_val 52 rfl rfl (.bool true) (rfl) ?_
      refine nr ?_; intro U h; simp only [z0, z1] at h; subst h
      refine s_val 2 rfl rfl (.bool true) (rfl) ?_
      refine nr ?_; intro U h; simp only [z0, z1] at h; subst h
      refine wpList_nil ?_
      refine then_n ?_
      refine wp_ret ?_
      refine bodyPost_ret (results_tmp Try.results7 _ _ _) rfl ?_
      exact ⟨rfl, GG⟩
    · have hql : j < L.length := by have := of_decide_eq_true hq1; omega
      refine s_val 37 rfl rfl (.bool true) (run_lssT 3 _ _ _ rfl ((j : Nat) : Int) ((L.length : Nat) : Int) rfl rfl true hq1 _) ?_
      refine nr ?_; intro U h; simp only [z0, z1] at h; subst h
      refine wpList_nil ?_
      refine then_n ?_
      refine wp_seq ?_
      refine wp_cond_true rfl ?_
      refine wp_skip ?_
      refine then_n ?_
      refine wp_seq ?_
      refine wp_block ?_
      refine wp_seq ?_
      refine wp_region_lit ?_
      refine s_val 38 rfl rfl (.int .i64 ((j : Nat) : Int)) (rfl) ?_
      refine nr ?_; intro U h; simp only [z0, z1] at h; subst h
      refine s_val 9 rfl rfl (.int .i64 ((j : Nat) : Int)) (rfl) ?_
      refine nr ?_; intro U h; simp only [z0, z1] at h; subst h
      refine wpList_nil ?_
      refine then_n ?_
      refine wp_region_lit ?_
      refine s_val 39 rfl rfl (.slice ao1 L.length cap1) (rfl) ?_
      refine nr ?_; intro U h; simp only [z0, z1] at h; subst h
      refine s_val 40 rfl rfl (.int .i64 ((j : Nat) : Int)) (rfl) ?_
      refine nr ?_; intro U h; simp only [z0, z1] at h; subst h
      refine s_val 41 rfl rfl (.pointer (pE ao1 j 0)) (run_ixY HA _ _ rfl rfl j rfl hql) ?_
      refine nr ?_; intro U h; simp only [z0, z1] at h; subst h
      refine s_val 42 rfl rfl (.pointer (pE ao1 j 49)) (run_fdY HA _ rfl j rfl hql) ?_
      refine nr ?_; intro U h; simp only [z0, z1] at h; subst h
      refine s_setY rfl rfl _ _ rfl HA j hql rfl 77 rfl ?_
      intro w7 cs2 HA2 G2
      replace kt := G2.has kt (HA.ne kt (by decide))
      replace HTt := HTt.ap HA G2
      replace HO2 := HO2.ap HA G2 h12
      replace HO3 := HO3.ap HA G2 h13
      replace GG := G2.gro GG (fun k hk => Nat.le_trans hb1 (HA.base k hk))
      clear G2 HA
      have HA := HA2
      clear HA2
      refine wpList_nil ?_
      refine blk_n ?_
      refine then_n ?_
      refine wp_region_lit ?_
      refine s_val 43 rfl rfl (.int .i64 ((j + 1 : Nat) : Int)) (run_addI 3 _ _ _ rfl ((j : Nat) : Int) 1 ((j + 1 : Nat) : Int) rfl rfl (by omega) (by omega) (by omega) _) ?_
      refine nr ?_; intro U h; simp only [z0, z1] at h; subst h
      refine s_val 36 rfl rfl (.int .i64 ((j + 1 : Nat) : Int)) (rfl) ?_
      refine nr ?_; intro U h; simp only [z0, z1] at h; subst h
      refine wpList_nil ?_
      refine then_n ?_
      exact ⟨L.length + 1 - (j + 1), by omega, j + 1, _, (fun kz => ([.int .i64 ((j : Nat) : Int), .bool true, .int .i64 ((j : Nat) : Int), .slice ao1 L.length cap1, .int .i64 ((j : Nat) : Int), .pointer (pE ao1 j 0), .pointer (pE ao1 j 49), .int .i64 ((j + 1 : Nat) : Int)] : List Value).getD kz undef), rfl, rfl, by omega, GG, kt, HTt, HA, HO2, HO3⟩
  · have hjl : i < l.length := by have := of_decide_eq_true hj1; omega
    refine s_val 20 rfl rfl (.bool true) (run_lssT 3 _ _ _ rfl ((i : Nat) : Int) ((l.length : Nat) : Int) rfl rfl true hj1 _) ?_
    refine nr ?_; intro U h; simp only [z0, z1] at h; subst h
    refine wpList_nil ?_
    refine then_n ?_
    refine wp_seq ?_
    refine wp_cond_true rfl ?_
    refine wp_skip ?_
    refine then_n ?_
    refine wp_seq ?_
    refine wp_block ?_
    refine wp_seq ?_
    refine wp_region_lit ?_
    refine s_val 21 rfl rfl (.pointer (pE ao i 0)) (run_ixE (H.gro GG) _ _ rfl rfl i rfl (by omega)) ?_
    refine nr ?_; intro U h; simp only [z0, z1] at h; subst h
    refine s_val 22 rfl rfl (.agg (enA (l.getD i zE))) (run_ldE (H.gro GG) _ rfl i rfl (by omega)) ?_
    refine nr ?_; intro U h; simp only [z0, z1] at h; subst h
    refine s_alloc 5 rfl rfl 33 rfl _ zero33 (enA zE) rfl ?_
    intro w3 g1 G eg1 kg1
    have bg1 := size_base GG eg1
    have dtg1 := lt_new kt eg1
    have dHTtg1 := HTt.ne eg1
    replace kt := G.has kt
    replace HTt := HTt.gro G
    replace GG := GG.trans G
    clear G
    clear eg1
    refine nr ?_; intro U h; simp only [z0, z1] at h; subst h
    refine s_store rfl rfl 33 _ _ rfl g1 0 rfl (.agg (enA (l.getD i zE))) rfl 33 _ kg1 (enA (l.getD i zE)) rfl (si33' _) (enA_fit _ _) (enA_one _) (enA (l.getD i zE)) (splice_whole _ _ (enA_sz _ _)) ?_
    intro w4 St
    have kS := kg1
    replace kt := St.has (by omega) kt
    replace HTt := HTt.st St dHTtg1
    replace GG := GG.store St bg1
    replace kg1 := St.new
    clear St
    refine wpList_nil ?_
    refine then_n ?_
    refine wp_region_lit ?_
    refine s_val 23 rfl rfl (.pointer (some ⟨t, 0, none⟩)) (rfl) ?_
    refine nr ?_; intro U h; simp only [z0, z1] at h; subst h
    refine s_val 24 rfl rfl (.agg (enA (l.getD i zE))) (ldE0 _ rfl g1 rfl (kg1)) ?_
    refine nr ?_; intro U h; simp only [z0, z1] at h; subst h
    refine s_callx 25 rfl rfl _ 12 Try.call12 rfl rfl _ rfl [.pointer (some ⟨t, 0, none⟩), .agg (enA (l.getD i zE))] rfl (add_any _ t b 128 L (kt) (HTt) (l.getD i zE) (H.all.at (by omega))) (by rintro _ _ ⟨he, _⟩; exact ⟨_, he⟩) ?_
    rintro v w5 ⟨he, HT2, G2⟩
    cases he
    replace kt := G2.has kt (by simpa using HTt.nec kt)
    replace kg1 := G2.has kg1 (by simpa using HTt.nec kg1)
    replace GG := G2.gro GG (by simpa using bb)
    clear HTt G2
    have HTt := HT2
    clear HT2
    refine nr ?_; intro U h; simp only [z0, z1] at h; subst h
    refine wpList_nil ?_
    refine blk_n ?_
    refine then_n ?_
    refine wp_region_lit ?_
    refine s_val 26 rfl rfl (.int .i64 ((i + 1 : Nat) : Int)) (run_addI 3 _ _ _ rfl ((i : Nat) : Int) 1 ((i + 1 : Nat) : Int) rfl rfl (by omega) (by omega) (by omega) _) ?_
    refine nr ?_; intro U h; simp only [z0, z1] at h; subst h
    refine s_val 19 rfl rfl (.int .i64 ((i + 1 : Nat) : Int)) (rfl) ?_
    refine nr ?_; intro U h; simp only [z0, z1] at h; subst h
    refine wpList_nil ?_
    refine then_n ?_
    exact ⟨l.length + 1 - (i + 1), by omega, i + 1, addL 128 L (l.getD i zE), (fun kz => ([.pointer (some ⟨g1, 0, none⟩), .bool true, .pointer (pE ao i 0), .agg (enA (l.getD i zE)), .pointer (some ⟨t, 0, none⟩), .agg (enA (l.getD i zE)), .int .i64 (addC 128 L (l.getD i zE)), .int .i64 ((i + 1 : Nat) : Int)] : List Value).getD kz undef), rfl, rfl, by omega, GG, kt, HTt, hTI.add (H.all.at hjl)⟩
end Go.Proofs.Ytgfjclcnolnioaa
