/- The laws on calls: RepBests, RepNotes, RepLeast. -/
import Derived.Test.YtljihaihhnamfaaA4
namespace Go.Proofs.Ytljihaihhnamfaa
open Go.RowKit

def boxE (B : Nat) (t : TypeId) (cs : Array Value) : PostE := PostE.ex (fun v x => ∃ g, v = .pointer (some ⟨g, 0, none⟩) ∧ x.heap[g]? = some (.cells cs t (0, 0)) ∧ B ≤ g) (fun _ _ _ G ⟨g, h1, h2, h3⟩ => ⟨g, h1, G.has h2, h3⟩)
theorem fill_boxE (B : Nat) (t : TypeId) (cs : Array Value) (v : Value) : (boxE B t cs).fill v = v := rfl
theorem opE_alloc {P : Program} {ops : Array Oper} {o : Oper} {A : Act} {w : World} (hw : Region.wanted o (yielded ops A.tmps) = true) (ty : TypeId) (ho : o.op = .alloc ty) (v : Value) (hz : ∀ w, (zeroValue ty).run P w = .ok v w) (cs : Array Value) (hc : v.cells = cs) (B : Nat) (hB : B ≤ w.heap.size) : OpE P ops (boxE B ty cs) o A w := by
  subst hc
  exact opE_new (boxE B ty v.cells) hw (run_alloc_op ty ho v hz) (gro_alloc _ _) ⟨_, rfl, heap_alloc_new _ _, hB⟩
theorem i64_77 : I64 77 := ⟨by decide, by decide⟩
theorem i64_78 : I64 78 := ⟨by decide, by decide⟩
theorem siHl (x : Hd) : (Try.prog.info? 26).map (·.size) = some (hdL x).length := by rw [hdL_len]; exact siH
theorem best_own (s : Nat) (l : List Hd) : (bestH s l).id ≤ s := by
  have := (bestH_is s l).own
  simp only [hdLe, hdOwn] at this
  omega
theorem best_all {s : Nat} {l : List Hd} {i : Nat} (hi : i < l.length) (h : hdNear (l.getD i zH)) : (bestH s l).id ≤ (l.getD i zH).id := by
  have hg : l.getD i zH = l[i] := by simp [List.getD_eq_getElem?_getD, hi]
  have := (bestH_is s l).all (l.getD i zH) (by rw [hg]; exact List.getElem_mem hi) h
  simp only [hdLe, hdUp] at this
  omega
def Told (s : Nat) (l : List Hd) (i : Nat) : Prop := ∃ k, i ≤ k ∧ k < l.length ∧ hdNear (l.getD k zH) ∧ bestH s l = hdUp (l.getD k zH)
theorem told_0 (s : Nat) (l : List Hd) : eqH (bestH s l) (mkH (-1) s 0) = true ∨ Told s l 0 := by
  rcases (bestH_is s l).of with e | ⟨y, hy, hn, e⟩
  · exact .inl (eqH_iff.2 e)
  · obtain ⟨k, hk, rfl⟩ := List.mem_iff_getElem.1 hy
    have hg : l.getD k zH = l[k] := by simp [List.getD_eq_getElem?_getD, hk]
    exact .inr ⟨k, Nat.zero_le _, hk, by rw [hg]; exact hn, by rw [hg]; exact e⟩
theorem told_end {s : Nat} {l : List Hd} {i : Nat} {tb : Bool} (h : tb = true ∨ Told s l i) (hi : i = l.length) : tb = true := by
  rcases h with h | ⟨k, h1, h2, _⟩
  · exact h
  · omega
theorem told_step {s : Nat} {l : List Hd} {i : Nat} {b : Bool} (h : false = true ∨ Told s l i) (hc : ¬ ((l.getD i zH).n = (bestH s l).n ∧ (l.getD i zH).id = (bestH s l).id ∧ (l.getD i zH).far < 6 ∧ (l.getD i zH).far + 1 = (bestH s l).far)) : b = true ∨ Told s l (i + 1) := by
  rcases h with h | ⟨k, h1, h2, h3, h4⟩
  · cases h
  · refine .inr ⟨k, ?_, h2, h3, h4⟩
    by_cases e : k = i
    · subst e
      refine absurd ?_ hc
      have := h3.2
      rw [h4]
      exact ⟨rfl, rfl, by omega, rfl⟩
    · omega
set_option maxRecDepth 100000 in
set_option maxHeartbeats 4000000 in
theorem repBests_any (w : World) (s : Nat) (hs : s < top) (ao : Option Addr) (cap : Nat) (l : List Hd) (HL : RK kH w ao cap l) (hl : l.length ≤ 4398046510976) : Calls Try.prog 3 #[.agg (idA s), .slice ao l.length cap] w (fun e w' => e = .returned (.bool true) ∧ Gro w w') := by
  refine s_enter Try.func3 rfl Try.ntmps3 [.agg (idA s), .slice ao l.length cap] [.agg (idA s), .slice ao l.length cap, undef, undef, undef, undef, undef, undef, undef, undef, undef, undef, undef, undef, undef, undef, undef, undef, undef, undef, undef, undef, undef, undef, undef, undef, undef, undef, undef, undef, undef, undef, undef, undef, undef, undef] rfl ?_
  have GG := Gro.refl w
  have hbok : (bestH s l).ok := bestH_ok hs HL.all
  refine wp_seq ?_
  refine wp_region_lit ?_
  refine s_box 2 rfl rfl 23 _ rfl _ rfl (idA s) rfl ?_
  intro w1 g1 G eg1 kg1
  have bg1 := size_base GG eg1
  replace GG := GG.trans G
  clear G
  clear eg1
  refine nr ?_; intro U h; simp only [z0, z1] at h; subst h
  refine s_val 4 rfl rfl (.bool false) (rfl) ?_
  refine nr ?_; intro U h; simp only [z0, z1] at h; subst h
  refine wpList_nil ?_
  refine then_n ?_
  refine wp_seq ?_
  refine wp_region_lit ?_
  refine s_val 7 rfl rfl (.agg (idA s)) (ldI0 _ rfl g1 rfl (kg1)) ?_
  refine nr ?_; intro U h; simp only [z0, z1] at h; subst h
  refine s_val 8 rfl rfl (.slice ao l.length cap) (rfl) ?_
  refine nr ?_; intro U h; simp only [z0, z1] at h; subst h
  refine s_callv 9 rfl rfl _ 8 Try.call8 rfl rfl _ rfl [.agg (idA s), .slice ao l.length cap] rfl (best_any _ s hs ao cap l (HL.gro GG) (by omega)) ?_
  intro w2 G
  replace kg1 := G.has kg1
  replace GG := GG.trans G
  clear G
  refine nr ?_; intro U h; simp only [z0, z1] at h; subst h
  refine s_alloc 5 rfl rfl 26 rfl _ zeroH (hdA zH) rfl ?_
  intro w3 g2 G eg2 kg2
  have bg2 := size_base GG eg2
  have dg1g2 := lt_new kg1 eg2
  replace kg1 := G.has kg1
  replace GG := GG.trans G
  clear G
  clear eg2
  refine nr ?_; intro U h; simp only [z0, z1] at h; subst h
  refine s_store rfl rfl 26 _ _ rfl g2 0 rfl (.agg (hdA (bestH s l))) rfl 26 _ kg2 (hdA (bestH s l)) rfl (siH' _) (hdA_fit _ _) (hdA_one _) (hdA (bestH s l)) (splice_whole _ _ (hdA_sz _ _)) ?_
  intro w4 St
  have kS := kg2
  replace kg1 := St.has (by omega) kg1
  replace GG := GG.store St bg2
  replace kg2 := St.new
  clear St
  refine wpList_nil ?_
  refine then_n ?_
  refine wp_seq ?_
  refine wp_region_exA (A := ?Ax1) 5 [(0, 10), (1, 11), (2, 12), (3, 13), (4, 6)] [.val (.agg (idA s)), .val (.slice ao l.length cap), rowK kH l, .val (.agg (hdA (bestH s l))), boxE w4.heap.size 28 (hdA zH)] follows (by kernel_rfl) rfl ?hAx1 (opsA_cons ?o0x1 (opsA_cons ?o1x1 (opsA_cons ?o2x1 (opsA_cons ?o3x1 (opsA_cons ?o4x1 opsA_nil))))) ?restx1
  case hAx1 =>
    intro ptrs
    simp only [full, foldSlots, filledE, postE, List.foldl_cons, List.foldl_nil, List.getD_cons_zero, List.getD_cons_succ, fill_val, fill_rowK, fill_boxE, List.set_cons_zero, List.set_cons_succ]
    exact rfl
  case o0x1 => exact fun _ _ hw _ => opE_value (v := .agg (idA s)) rfl (ldI0 _ rfl g1 rfl (hw.has kg1))
  case o1x1 => exact fun _ _ _ _ => opE_move (v := .slice ao l.length cap) _ rfl rfl rfl
  case o2x1 =>
    intro ptrs w' hw hE
    exact opE_call (rowK kH l) rfl _ 10 Try.call10 rfl rfl _ rfl [.slice ao l.length cap] rfl ((plain_any _ ao cap l (HL.gro (GG.drew.trans hw)) hl).mono fun e w' ⟨ao, cap, he, hg, hr⟩ => ⟨_, he, hg, ao, cap, rfl, hr.re⟩)
  case o3x1 =>
    intro ptrs w' hw hE
    obtain ⟨⟨ao2, cap2, h2, o2⟩, _, _⟩ := hE
    exact opE_call (.val (.agg (hdA (bestH s l)))) rfl _ 9 Try.call9 rfl rfl _ rfl [.agg (idA s), .slice ao2 l.length cap2] (by show [.agg (idA s), ptrs 2] = _; rw [h2]) ((rbest_any _ s hs ao2 cap2 l (o2) hl).mono fun e w' ⟨he, hg⟩ => ⟨_, he, hg, rfl⟩)
  case o4x1 => exact fun _ _ hw _ => opE_alloc rfl 28 rfl _ zeroD _ rfl _ hw.size
  have lzg1 := lt_of_heap kg1
  have lzg2 := lt_of_heap kg2
  have bz := GG.size
  intro ptrs w5 GD hxE
  simp only [List.drop_succ_cons, List.drop_zero]
  replace kg1 := GD.has kg1
  replace kg2 := GD.has kg2
  replace GG := GG.drew.trans GD
  obtain ⟨_, ⟨g3, hx1, kg3, czg3⟩, _⟩ := hxE
  simp only [hx1]
  clear hx1
  have dg1g3 : g1 < g3 := Nat.lt_of_lt_of_le lzg1 czg3
  have dg2g3 : g2 < g3 := Nat.lt_of_lt_of_le lzg2 czg3
  have bg3 := Nat.le_trans bz czg3
  clear GD
  refine s_store rfl rfl 28 _ _ rfl g3 0 rfl (.agg (hdA (bestH s l))) rfl 28 _ kg3 (hdA (bestH s l)) rfl (siD' _) (hdA_fit _ _) (hdA_one _) (hdA (bestH s l)) (splice_whole _ _ (hdA_sz _ _)) ?_
  intro w6 St
  have kS := kg3
  replace kg1 := St.has (by omega) kg1
  replace kg2 := St.has (by omega) kg2
  replace GG := GG.store St bg3
  replace kg3 := St.new
  clear St
  refine wpList_nil ?_
  refine then_n ?_
  refine wp_seq ?_
  refine wp_region_opq ?_
  intro OPS hY
  have y1 := hY 1 15 rfl
  have y8 := hY 8 22 rfl
  have y15 := hY 15 29 rfl
  clear hY
  refine s_callv 14 rfl rfl _ 11 Try.call11 rfl rfl _ rfl [] rfl (fixed_any _) ?_
  intro w7 G
  replace kg1 := G.has kg1
  replace kg2 := G.has kg2
  replace kg3 := G.has kg3
  replace GG := GG.trans G
  clear G
  refine nr ?_; intro U h; simp only [z0, z1] at h; subst h
  refine s_val 15 rfl rfl (.bool true) (rfl) ?_
  refine nr ?_; intro U h; simp only [z0, z1] at h; subst h
  refine s_gvalY 16 rfl rfl y1 rfl (.pointer (some ⟨g2, 0, none⟩)) (run_fld 26 _ 0 rfl g2 0 rfl 0 (by kernel_rfl)) ?_
  refine nr ?_; intro U h; simp only [z0, z1] at h; subst h
  refine s_gvalY 17 rfl rfl y1 rfl (.int .i64 (bestH s l).n) (ldHn _ rfl g2 rfl (kg2)) ?_
  refine nr ?_; intro U h; simp only [z0, z1] at h; subst h
  refine s_gvalY 18 rfl rfl y1 rfl (.pointer (some ⟨g3, 0, none⟩)) (run_fld 28 _ 0 rfl g3 0 rfl 0 (by kernel_rfl)) ?_
  refine nr ?_; intro U h; simp only [z0, z1] at h; subst h
  refine s_gvalY 19 rfl rfl y1 rfl (.int .i64 (bestH s l).n) (ldDn _ rfl g3 rfl (kg3)) ?_
  refine nr ?_; intro U h; simp only [z0, z1] at h; subst h
  refine s_gvalY 20 rfl rfl y1 rfl (.bool true) (run_eq_k 3 .i64 _ _ _ rfl Try.underlying3 (bestH s l).n (bestH s l).n rfl rfl true (decide_eq_true rfl) _) ?_
  refine nr ?_; intro U h; simp only [z0, z1] at h; subst h
  refine s_val 21 rfl rfl (.bool true) (rfl) ?_
  refine nr ?_; intro U h; simp only [z0, z1] at h; subst h
  refine s_val 22 rfl rfl (.bool true) (rfl) ?_
  refine nr ?_; intro U h; simp only [z0, z1] at h; subst h
  refine s_gvalY 23 rfl rfl y8 rfl (.pointer (some ⟨g2, 1, none⟩)) (run_fld 26 _ 1 rfl g2 0 rfl 1 (by kernel_rfl)) ?_
  refine nr ?_; intro U h; simp only [z0, z1] at h; subst h
  refine s_gvalY 24 rfl rfl y8 rfl (.agg (idA (bestH s l).id)) (ldHi _ rfl g2 rfl (kg2)) ?_
  refine nr ?_; intro U h; simp only [z0, z1] at h; subst h
  refine s_gvalY 25 rfl rfl y8 rfl (.pointer (some ⟨g3, 1, none⟩)) (run_fld 28 _ 1 rfl g3 0 rfl 1 (by kernel_rfl)) ?_
  refine nr ?_; intro U h; simp only [z0, z1] at h; subst h
  refine s_gvalY 26 rfl rfl y8 rfl (.agg (idA (bestH s l).id)) (ldDi _ rfl g3 rfl (kg3)) ?_
  refine nr ?_; intro U h; simp only [z0, z1] at h; subst h
  refine s_gvalY 27 rfl rfl y8 rfl (.bool true) (run_eqI _ _ _ rfl _ _ rfl rfl hbok.id hbok.id true (decide_eq_true rfl)) ?_
  refine nr ?_; intro U h; simp only [z0, z1] at h; subst h
  refine s_val 28 rfl rfl (.bool true) (rfl) ?_
  refine nr ?_; intro U h; simp only [z0, z1] at h; subst h
  refine s_val 29 rfl rfl (.bool true) (rfl) ?_
  refine nr ?_; intro U h; simp only [z0, z1] at h; subst h
  refine s_gvalY 30 rfl rfl y15 rfl (.pointer (some ⟨g2, 17, none⟩)) (run_fld 26 _ 2 rfl g2 0 rfl 17 (by kernel_rfl)) ?_
  refine nr ?_; intro U h; simp only [z0, z1] at h; subst h
  refine s_gvalY 31 rfl rfl y15 rfl (.int .i64 (bestH s l).far) (ldHf _ rfl g2 rfl (kg2)) ?_
  refine nr ?_; intro U h; simp only [z0, z1] at h; subst h
  refine s_gvalY 32 rfl rfl y15 rfl (.pointer (some ⟨g3, 17, none⟩)) (run_fld 28 _ 2 rfl g3 0 rfl 17 (by kernel_rfl)) ?_
  refine nr ?_; intro U h; simp only [z0, z1] at h; subst h
  refine s_gvalY 33 rfl rfl y15 rfl (.int .i64 (bestH s l).far) (ldDf _ rfl g3 rfl (kg3)) ?_
  refine nr ?_; intro U h; simp only [z0, z1] at h; subst h
  refine s_gvalY 34 rfl rfl y15 rfl (.bool true) (run_eq_k 2 .i64 _ _ _ rfl Try.underlying2 (bestH s l).far (bestH s l).far rfl rfl true (decide_eq_true rfl) _) ?_
  refine nr ?_; intro U h; simp only [z0, z1] at h; subst h
  refine s_val 35 rfl rfl (.bool true) (rfl) ?_
  refine nr ?_; intro U h; simp only [z0, z1] at h; subst h
  refine s_val 4 rfl rfl (.bool true) (rfl) ?_
  refine nr ?_; intro U h; simp only [z0, z1] at h; subst h
  refine wpList_nil ?_
  refine then_n ?_
  refine wp_ret ?_
  refine bodyPost_ret (results_tmp Try.results3 _ _ _) rfl ?_
  exact ⟨rfl, GG⟩
set_option maxRecDepth 100000 in
set_option maxHeartbeats 4000000 in
theorem repLeast_any (w : World) (s : Nat) (hs : s < top) (ao : Option Addr) (cap : Nat) (l : List Hd) (HL : RK kH w ao cap l) (hl : l.length ≤ 4398046510976) : Calls Try.prog 5 #[.agg (idA s), .slice ao l.length cap] w (fun e w' => e = .returned (.bool true) ∧ Gro w w') := by
  refine s_enter Try.func5 rfl Try.ntmps5 [.agg (idA s), .slice ao l.length cap] [.agg (idA s), .slice ao l.length cap, undef, undef, undef, undef, undef, undef, undef, undef, undef, undef, undef, undef, undef, undef, undef, undef, undef, undef, undef, undef, undef, undef, undef, undef, undef, undef, undef, undef, undef, undef, undef, undef, undef, undef, undef, undef, undef, undef, undef, undef, undef, undef, undef, undef, undef, undef, undef, undef, undef, undef, undef, undef, undef, undef, undef, undef, undef, undef, undef, undef, undef, undef, undef, undef, undef, undef, undef, undef, undef, undef, undef, undef] rfl ?_
  have GG := Gro.refl w
  have hbok : (bestH s l).ok := bestH_ok hs HL.all
  refine wp_seq ?_
  refine wp_region_lit ?_
  refine s_box 2 rfl rfl 23 _ rfl _ rfl (idA s) rfl ?_
  intro w1 g1 G eg1 kg1
  have bg1 := size_base GG eg1
  replace GG := GG.trans G
  clear G
  clear eg1
  refine nr ?_; intro U h; simp only [z0, z1] at h; subst h
  refine s_val 4 rfl rfl (.bool false) (rfl) ?_
  refine nr ?_; intro U h; simp only [z0, z1] at h; subst h
  refine wpList_nil ?_
  refine then_n ?_
  refine wp_seq ?_
  refine wp_region_lit ?_
  refine s_val 9 rfl rfl (.agg (idA s)) (ldI0 _ rfl g1 rfl (kg1)) ?_
  refine nr ?_; intro U h; simp only [z0, z1] at h; subst h
  refine s_val 10 rfl rfl (.slice ao l.length cap) (rfl) ?_
  refine nr ?_; intro U h; simp only [z0, z1] at h; subst h
  refine s_callv 11 rfl rfl _ 8 Try.call8 rfl rfl _ rfl [.agg (idA s), .slice ao l.length cap] rfl (best_any _ s hs ao cap l (HL.gro GG) (by omega)) ?_
  intro w2 G
  replace kg1 := G.has kg1
  replace GG := GG.trans G
  clear G
  refine nr ?_; intro U h; simp only [z0, z1] at h; subst h
  refine s_alloc 5 rfl rfl 26 rfl _ zeroH (hdA zH) rfl ?_
  intro w3 g2 G eg2 kg2
  have bg2 := size_base GG eg2
  have dg1g2 := lt_new kg1 eg2
  replace kg1 := G.has kg1
  replace GG := GG.trans G
  clear G
  clear eg2
  refine nr ?_; intro U h; simp only [z0, z1] at h; subst h
  refine s_store rfl rfl 26 _ _ rfl g2 0 rfl (.agg (hdA (bestH s l))) rfl 26 _ kg2 (hdA (bestH s l)) rfl (siH' _) (hdA_fit _ _) (hdA_one _) (hdA (bestH s l)) (splice_whole _ _ (hdA_sz _ _)) ?_
  intro w4 St
  have kS := kg2
  replace kg1 := St.has (by omega) kg1
  replace GG := GG.store St bg2
  replace kg2 := St.new
  clear St
  refine wpList_nil ?_
  refine then_n ?_
  refine wp_seq ?_
  refine wp_seq ?_
  refine wp_region_lit ?_
  refine s_val 12 rfl rfl (.agg (idA s)) (ldI0 _ rfl g1 rfl (kg1)) ?_
  refine nr ?_; intro U h; simp only [z0, z1] at h; subst h
  refine s_val 13 rfl rfl (.pointer (some ⟨g2, 1, none⟩)) (run_fld 26 _ 1 rfl g2 0 rfl 1 (by kernel_rfl)) ?_
  refine nr ?_; intro U h; simp only [z0, z1] at h; subst h
  refine s_val 14 rfl rfl (.agg (idA (bestH s l).id)) (ldHi _ rfl g2 rfl (kg2)) ?_
  refine nr ?_; intro U h; simp only [z0, z1] at h; subst h
  refine s_callv 15 rfl rfl _ 17 Try.call17 rfl rfl _ rfl [.agg (idA s), .agg (idA (bestH s l).id)] rfl (Calls.bool (less_any s (bestH s l).id hs hbok.id _) (decide_eq_false (by have := best_own s l; omega))) ?_
  intro w5 G
  replace kg1 := G.has kg1
  replace kg2 := G.has kg2
  replace GG := GG.trans G
  clear G
  refine nr ?_; intro U h; simp only [z0, z1] at h; subst h
  refine wpList_nil ?_
  refine then_n ?_
  refine wp_cond_false rfl ?_
  refine wp_skip ?_
  refine then_n ?_
  refine wp_seq ?_
  refine wp_region_lit ?_
  refine s_val 16 rfl rfl (.agg (hdA (bestH s l))) (ldH0 _ rfl g2 rfl (kg2)) ?_
  refine nr ?_; intro U h; simp only [z0, z1] at h; subst h
  refine s_val 17 rfl rfl (.agg (idA s)) (ldI0 _ rfl g1 rfl (kg1)) ?_
  refine nr ?_; intro U h; simp only [z0, z1] at h; subst h
  refine s_val 18 rfl rfl (.agg (hdA (mkH (-1) s 0))) (run_bd 26 _ rfl [(0, .int .i64 (-1)), (1, .agg (idA s))] rfl _ (bdH01 _ _ _)) ?_
  refine nr ?_; intro U h; simp only [z0, z1] at h; subst h
  refine s_val 19 rfl rfl (.bool (eqH (bestH s l) (mkH (-1) s 0))) (run_eqH _ _ _ rfl _ _ rfl rfl hbok (hdOwn_ok hs) _ rfl) ?_
  refine nr ?_; intro U h; simp only [z0, z1] at h; subst h
  refine s_val 6 rfl rfl (.bool (eqH (bestH s l) (mkH (-1) s 0))) (rfl) ?_
  refine nr ?_; intro U h; simp only [z0, z1] at h; subst h
  refine wpList_nil ?_
  refine then_n ?_
  refine wp_seq ?_
  refine wp_seq ?_
  refine wp_region_lit ?_
  refine s_val 20 rfl rfl (.slice ao l.length cap) (rfl) ?_
  refine nr ?_; intro U h; simp only [z0, z1] at h; subst h
  refine s_val 21 rfl rfl (.int .i64 ((l.length : Nat) : Int)) (run_len Try.underlying24 _ rfl _ _ _ rfl _) ?_
  refine nr ?_; intro U h; simp only [z0, z1] at h; subst h
  refine s_val 22 rfl rfl (.int .i64 0) (rfl) ?_
  refine nr ?_; intro U h; simp only [z0, z1] at h; subst h
  refine wpList_nil ?_
  refine then_n ?_
  refine wp_block ?_
  refine wp_loopN (fun mz az wv => ∃ (i : Nat) (tb : Bool) (us1 : Nat → Value), mz = l.length + 1 - i ∧ az = ⟨[.agg (idA s), .slice ao l.length cap, .pointer (some ⟨g1, 0, none⟩), undef, us1 0, .pointer (some ⟨g2, 0, none⟩), .bool tb, undef, us1 1, .agg (idA s), .slice ao l.length cap, .agg (hdA (bestH s l)), .agg (idA s), .pointer (some ⟨g2, 1, none⟩), .agg (idA (bestH s l).id), .bool false, .agg (hdA (bestH s l)), .agg (idA s), .agg (hdA (mkH (-1) s 0)), .bool (eqH (bestH s l) (mkH (-1) s 0)), .slice ao l.length cap, .int .i64 ((l.length : Nat) : Int), .int .i64 ((i : Nat) : Int), us1 2, us1 3, us1 4, us1 5, us1 6, us1 7, us1 8, us1 9, us1 10, us1 11, us1 12, us1 13, us1 14, us1 15, us1 16, us1 17, us1 18, us1 19, us1 20, us1 21, us1 22, us1 23, us1 24, us1 25, us1 26, us1 27, us1 28, us1 29, us1 30, us1 31, us1 32, us1 33, us1 34, us1 35, us1 36, us1 37, us1 38, us1 39, us1 40, us1 41, us1 42, us1 43, us1 44, us1 45, us1 46, us1 47, us1 48, undef, undef, undef, undef].toArray, []⟩ ∧ i ≤ l.length ∧ Gro w wv ∧ wv.heap[g1]? = some (.cells (idA s) 23 (0, 0)) ∧ wv.heap[g2]? = some (.cells (hdA (bestH s l)) 26 (0, 0)) ∧ (tb = true ∨ Told s l i)) ?_ _ ⟨0, eqH (bestH s l) (mkH (-1) s 0), (fun kz => ([.bool false, undef, undef, undef, undef, undef, undef, undef, undef, undef, undef, undef, undef, undef, undef, undef, undef, undef, undef, undef, undef, undef, undef, undef, undef, undef, undef, undef, undef, undef, undef, undef, undef, undef, undef, undef, undef, undef, undef, undef, undef, undef, undef, undef, undef, undef, undef, undef, undef] : List Value).getD kz undef), rfl, rfl, Nat.zero_le _, GG, kg1, kg2, told_0 s l⟩
  clear GG kg1 kg2
  rintro mz az wv ⟨i, tb, us1, rfl, rfl, hi, GG, kg1, kg2, hT⟩
  refine wp_seq ?_
  refine wp_region_lit ?_
  cases hi1 : decide (((i : Nat) : Int) < ((l.length : Nat) : Int))
  · have hie : i = l.length := by have := of_decide_eq_false hi1; omega
    refine s_val 23 rfl rfl (.bool false) (run_lssT 3 _ _ _ rfl ((i : Nat) : Int) ((l.length : Nat) : Int) rfl rfl false hi1 _) ?_
    refine nr ?_; intro U h; simp only [z0, z1] at h; subst h
    refine wpList_nil ?_
    refine then_n ?_
    refine wp_seq ?_
    refine wp_cond_false rfl ?_
    refine wp_exit ?_
    refine then_x ?_
    refine then_x ?_
    refine blk_x ?_
    refine then_n ?_
    refine wp_seq ?_
    have htb := told_end hT hie
    subst htb
    refine wp_region_opq ?_
    intro OPS hY
    have y1 := hY 1 71 rfl
    clear hY
    refine s_callv 70 rfl rfl _ 11 Try.call11 rfl rfl _ rfl [] rfl (fixed_any _) ?_
    intro w6 G
    replace kg1 := G.has kg1
    replace kg2 := G.has kg2
    replace GG := GG.trans G
    clear G
    refine nr ?_; intro U h; simp only [z0, z1] at h; subst h
    refine s_val 71 rfl rfl (.bool true) (rfl) ?_
    refine nr ?_; intro U h; simp only [z0, z1] at h; subst h
    refine s_gvalY 72 rfl rfl y1 rfl (.bool true) (rfl) ?_
    refine nr ?_; intro U h; simp only [z0, z1] at h; subst h
    refine s_val 73 rfl rfl (.bool true) (rfl) ?_
    refine nr ?_; intro U h; simp only [z0, z1] at h; subst h
    refine s_val 4 rfl rfl (.bool true) (rfl) ?_
    refine nr ?_; intro U h; simp only [z0, z1] at h; subst h
    refine wpList_nil ?_
    refine then_n ?_
    refine wp_ret ?_
    refine bodyPost_ret (results_tmp Try.results5 _ _ _) rfl ?_
    exact ⟨rfl, GG⟩
  · have hil : i < l.length := by have := of_decide_eq_true hi1; omega
    refine s_val 23 rfl rfl (.bool true) (run_lssT 3 _ _ _ rfl ((i : Nat) : Int) ((l.length : Nat) : Int) rfl rfl true hi1 _) ?_
    refine nr ?_; intro U h; simp only [z0, z1] at h; subst h
    refine wpList_nil ?_
    refine then_n ?_
    refine wp_seq ?_
    refine wp_cond_true rfl ?_
    refine wp_skip ?_
    refine then_n ?_
    refine wp_seq ?_
    refine wp_block ?_
    refine wp_seq ?_
    refine wp_region_lit ?_
    refine s_val 24 rfl rfl (.pointer (pK kH ao i 0)) (run_ixK rH (HL.gro GG) _ _ rfl rfl i rfl (by omega)) ?_
    refine nr ?_; intro U h; simp only [z0, z1] at h; subst h
    refine s_val 25 rfl rfl (.agg (hdA (l.getD i zH))) (run_ldKH (HL.gro GG) _ rfl i rfl (by omega)) ?_
    refine nr ?_; intro U h; simp only [z0, z1] at h; subst h
    refine s_alloc 8 rfl rfl 26 rfl _ zeroH (hdA zH) rfl ?_
    intro w6 g3 G eg3 kg3
    have bg3 := size_base GG eg3
    have dg1g3 := lt_new kg1 eg3
    have dg2g3 := lt_new kg2 eg3
    replace kg1 := G.has kg1
    replace kg2 := G.has kg2
    replace GG := GG.trans G
    clear G
    clear eg3
    refine nr ?_; intro U h; simp only [z0, z1] at h; subst h
    refine s_store rfl rfl 26 _ _ rfl g3 0 rfl (.agg (hdA (l.getD i zH))) rfl 26 _ kg3 (hdA (l.getD i zH)) rfl (siH' _) (hdA_fit _ _) (hdA_one _) (hdA (l.getD i zH)) (splice_whole _ _ (hdA_sz _ _)) ?_
    intro w7 St
    have kS := kg3
    replace kg1 := St.has (by omega) kg1
    replace kg2 := St.has (by omega) kg2
    replace GG := GG.store St bg3
    replace kg3 := St.new
    clear St
    refine wpList_nil ?_
    refine then_n ?_
    refine wp_seq ?_
    refine wp_seq ?_
    cases h1 : decide (0 ≤ (l.getD i zH).far)
    · refine wp_region_opq ?_
      intro OPS hY
      have y3 := hY 3 29 rfl
      have y8 := hY 8 34 rfl
      clear hY
      refine s_val 26 rfl rfl (.pointer (some ⟨g3, 17, none⟩)) (run_fld 26 _ 2 rfl g3 0 rfl 17 (by kernel_rfl)) ?_
      refine nr ?_; intro U h; simp only [z0, z1] at h; subst h
      refine s_val 27 rfl rfl (.int .i64 (l.getD i zH).far) (ldHf _ rfl g3 rfl (kg3)) ?_
      refine nr ?_; intro U h; simp only [z0, z1] at h; subst h
      refine s_val 28 rfl rfl (.bool false) (run_geqT 2 _ _ _ rfl (l.getD i zH).far 0 rfl rfl false h1 _) ?_
      refine nr ?_; intro U h; simp only [z0, z1] at h; subst h
      refine s_val 29 rfl rfl (.bool false) (rfl) ?_
      refine nr ?_; intro U h; simp only [z0, z1] at h; subst h
      refine s_skipY 30 rfl rfl y3 rfl ?_
      refine nr ?_; intro U h; simp only [z0, z1] at h; subst h
      refine s_skipY 31 rfl rfl y3 rfl ?_
      refine nr ?_; intro U h; simp only [z0, z1] at h; subst h
      refine s_skipY 32 rfl rfl y3 rfl ?_
      refine nr ?_; intro U h; simp only [z0, z1] at h; subst h
      refine s_val 33 rfl rfl (.bool false) (rfl) ?_
      refine nr ?_; intro U h; simp only [z0, z1] at h; subst h
      refine s_val 34 rfl rfl (.bool false) (rfl) ?_
      refine nr ?_; intro U h; simp only [z0, z1] at h; subst h
      refine s_skipY 35 rfl rfl y8 rfl ?_
      refine nr ?_; intro U h; simp only [z0, z1] at h; subst h
      refine s_skipY 36 rfl rfl y8 rfl ?_
      refine nr ?_; intro U h; simp only [z0, z1] at h; subst h
      refine s_skipY 37 rfl rfl y8 rfl ?_
      refine nr ?_; intro U h; simp only [z0, z1] at h; subst h
      refine s_skipY 38 rfl rfl y8 rfl ?_
      refine nr ?_; intro U h; simp only [z0, z1] at h; subst h
      refine s_skipY 39 rfl rfl y8 rfl ?_
      refine nr ?_; intro U h; simp only [z0, z1] at h; subst h
      refine s_val 40 rfl rfl (.bool false) (rfl) ?_
      refine nr ?_; intro U h; simp only [z0, z1] at h; subst h
      refine wpList_nil ?_
      refine then_n ?_
      refine wp_cond_false rfl ?_
      refine wp_skip ?_
      refine then_n ?_
      cases ht : decide (tb = true)
      · have htb : tb = false := Bool.eq_false_iff.2 (of_decide_eq_false ht)
        subst htb
        cases e1 : decide ((l.getD i zH).n = (bestH s l).n)
        · refine wp_region_opq ?_
          intro OPS hY
          have y1 := hY 1 42 rfl
          have y7 := hY 7 48 rfl
          have y14 := hY 14 55 rfl
          have y19 := hY 19 60 rfl
          clear hY
          refine s_val 41 rfl rfl (.bool false) (rfl) ?_
          refine nr ?_; intro U h; simp only [z0, z1] at h; subst h
          refine s_val 42 rfl rfl (.bool false) (rfl) ?_
          refine nr ?_; intro U h; simp only [z0, z1] at h; subst h
          refine s_gvalY 43 rfl rfl y1 rfl (.pointer (some ⟨g3, 0, none⟩)) (run_fld 26 _ 0 rfl g3 0 rfl 0 (by kernel_rfl)) ?_
          refine nr ?_; intro U h; simp only [z0, z1] at h; subst h
          refine s_gvalY 44 rfl rfl y1 rfl (.int .i64 (l.getD i zH).n) (ldHn _ rfl g3 rfl (kg3)) ?_
          refine nr ?_; intro U h; simp only [z0, z1] at h; subst h
          refine s_gvalY 45 rfl rfl y1 rfl (.pointer (some ⟨g2, 0, none⟩)) (run_fld 26 _ 0 rfl g2 0 rfl 0 (by kernel_rfl)) ?_
          refine nr ?_; intro U h; simp only [z0, z1] at h; subst h
          refine s_gvalY 46 rfl rfl y1 rfl (.int .i64 (bestH s l).n) (ldHn _ rfl g2 rfl (kg2)) ?_
          refine nr ?_; intro U h; simp only [z0, z1] at h; subst h
          refine s_gvalY 47 rfl rfl y1 rfl (.bool false) (run_eq_k 3 .i64 _ _ _ rfl Try.underlying3 (l.getD i zH).n (bestH s l).n rfl rfl false e1 _) ?_
          refine nr ?_; intro U h; simp only [z0, z1] at h; subst h
          refine s_gvalY 48 rfl rfl y1 rfl (.bool false) (rfl) ?_
          refine nr ?_; intro U h; simp only [z0, z1] at h; subst h
          refine s_skipY 49 rfl rfl y7 rfl ?_
          refine nr ?_; intro U h; simp only [z0, z1] at h; subst h
          refine s_skipY 50 rfl rfl y7 rfl ?_
          refine nr ?_; intro U h; simp only [z0, z1] at h; subst h
          refine s_skipY 51 rfl rfl y7 rfl ?_
          refine nr ?_; intro U h; simp only [z0, z1] at h; subst h
          refine s_skipY 52 rfl rfl y7 rfl ?_
          refine nr ?_; intro U h; simp only [z0, z1] at h; subst h
          refine s_skipY 53 rfl rfl y7 rfl ?_
          refine nr ?_; intro U h; simp only [z0, z1] at h; subst h
          refine s_gvalY 54 rfl rfl y1 rfl (.bool false) (rfl) ?_
          refine nr ?_; intro U h; simp only [z0, z1] at h; subst h
          refine s_gvalY 55 rfl rfl y1 rfl (.bool false) (rfl) ?_
          refine nr ?_; intro U h; simp only [z0, z1] at h; subst h
          refine s_skipY 56 rfl rfl y14 rfl ?_
          refine nr ?_; intro U h; simp only [z0, z1] at h; subst h
          refine s_skipY 57 rfl rfl y14 rfl ?_
          refine nr ?_; intro U h; simp only [z0, z1] at h; subst h
          refine s_skipY 58 rfl rfl y14 rfl ?_
          refine nr ?_; intro U h; simp only [z0, z1] at h; subst h
          refine s_gvalY 59 rfl rfl y1 rfl (.bool false) (rfl) ?_
          refine nr ?_; intro U h; simp only [z0, z1] at h; subst h
          refine s_gvalY 60 rfl rfl y1 rfl (.bool false) (rfl) ?_
          refine nr ?_; intro U h; simp only [z0, z1] at h; subst h
          refine s_skipY 61 rfl rfl y19 rfl ?_
          refine nr ?_; intro U h; simp only [z0, z1] at h; subst h
          refine s_skipY 62 rfl rfl y19 rfl ?_
          refine nr ?_; intro U h; simp only [z0, z1] at h; subst h
          refine s_skipY 63 rfl rfl y19 rfl ?_
          refine nr ?_; intro U h; simp only [z0, z1] at h; subst h
          refine s_skipY 64 rfl rfl y19 rfl ?_
          refine nr ?_; intro U h; simp only [z0, z1] at h; subst h
          refine s_skipY 65 rfl rfl y19 rfl ?_
          refine nr ?_; intro U h; simp only [z0, z1] at h; subst h
          refine s_skipY 66 rfl rfl y19 rfl ?_
          refine nr ?_; intro U h; simp only [z0, z1] at h; subst h
          refine s_gvalY 67 rfl rfl y1 rfl (.bool false) (rfl) ?_
          refine nr ?_; intro U h; simp only [z0, z1] at h; subst h
          refine s_val 68 rfl rfl (.bool false) (rfl) ?_
          refine nr ?_; intro U h; simp only [z0, z1] at h; subst h
          refine s_val 6 rfl rfl (.bool false) (rfl) ?_
          refine nr ?_; intro U h; simp only [z0, z1] at h; subst h
          refine wpList_nil ?_
          refine blk_n ?_
          refine then_n ?_
          refine wp_region_lit ?_
          refine s_val 69 rfl rfl (.int .i64 ((i + 1 : Nat) : Int)) (run_addI 3 _ _ _ rfl ((i : Nat) : Int) 1 ((i + 1 : Nat) : Int) rfl rfl (by omega) (by omega) (by omega) _) ?_
          refine nr ?_; intro U h; simp only [z0, z1] at h; subst h
          refine s_val 22 rfl rfl (.int .i64 ((i + 1 : Nat) : Int)) (rfl) ?_
          refine nr ?_; intro U h; simp only [z0, z1] at h; subst h
          refine wpList_nil ?_
          refine then_n ?_
          exact ⟨l.length + 1 - (i + 1), by omega, i + 1, false, (fun kz => ([us1 0, .pointer (some ⟨g3, 0, none⟩), .bool true, .pointer (pK kH ao i 0), .agg (hdA (l.getD i zH)), .pointer (some ⟨g3, 17, none⟩), .int .i64 (l.getD i zH).far, .bool false, .bool false, undef, undef, undef, .bool false, .bool false, undef, undef, undef, undef, undef, .bool false, .bool false, .bool false, .pointer (some ⟨g3, 0, none⟩), .int .i64 (l.getD i zH).n, .pointer (some ⟨g2, 0, none⟩), .int .i64 (bestH s l).n, .bool false, .bool false, undef, undef, undef, undef, undef, .bool false, .bool false, undef, undef, undef, .bool false, .bool false, undef, undef, undef, undef, undef, undef, .bool false, .bool false, .int .i64 ((i + 1 : Nat) : Int)] : List Value).getD kz undef), rfl, rfl, by omega, GG, kg1, kg2, told_step hT (fun c => of_decide_eq_false e1 c.1)⟩
        · cases e2 : decide ((l.getD i zH).id = (bestH s l).id)
          · refine wp_region_opq ?_
            intro OPS hY
            have y1 := hY 1 42 rfl
            have y7 := hY 7 48 rfl
            have y14 := hY 14 55 rfl
            have y19 := hY 19 60 rfl
            clear hY
            refine s_val 41 rfl rfl (.bool false) (rfl) ?_
            refine nr ?_; intro U h; simp only [z0, z1] at h; subst h
            refine s_val 42 rfl rfl (.bool false) (rfl) ?_
            refine nr ?_; intro U h; simp only [z0, z1] at h; subst h
            refine s_gvalY 43 rfl rfl y1 rfl (.pointer (some ⟨g3, 0, none⟩)) (run_fld 26 _ 0 rfl g3 0 rfl 0 (by kernel_rfl)) ?_
            refine nr ?_; intro U h; simp only [z0, z1] at h; subst h
            refine s_gvalY 44 rfl rfl y1 rfl (.int .i64 (l.getD i zH).n) (ldHn _ rfl g3 rfl (kg3)) ?_
            refine nr ?_; intro U h; simp only [z0, z1] at h; subst h
            refine s_gvalY 45 rfl rfl y1 rfl (.pointer (some ⟨g2, 0, none⟩)) (run_fld 26 _ 0 rfl g2 0 rfl 0 (by kernel_rfl)) ?_
            refine nr ?_; intro U h; simp only [z0, z1] at h; subst h
            refine s_gvalY 46 rfl rfl y1 rfl (.int .i64 (bestH s l).n) (ldHn _ rfl g2 rfl (kg2)) ?_
            refine nr ?_; intro U h; simp only [z0, z1] at h; subst h
            refine s_gvalY 47 rfl rfl y1 rfl (.bool true) (run_eq_k 3 .i64 _ _ _ rfl Try.underlying3 (l.getD i zH).n (bestH s l).n rfl rfl true e1 _) ?_
            refine nr ?_; intro U h; simp only [z0, z1] at h; subst h
            refine s_gvalY 48 rfl rfl y1 rfl (.bool true) (rfl) ?_
            refine nr ?_; intro U h; simp only [z0, z1] at h; subst h
            refine s_gvalY 49 rfl rfl y7 rfl (.pointer (some ⟨g3, 1, none⟩)) (run_fld 26 _ 1 rfl g3 0 rfl 1 (by kernel_rfl)) ?_
            refine nr ?_; intro U h; simp only [z0, z1] at h; subst h
            refine s_gvalY 50 rfl rfl y7 rfl (.agg (idA (l.getD i zH).id)) (ldHi _ rfl g3 rfl (kg3)) ?_
            refine nr ?_; intro U h; simp only [z0, z1] at h; subst h
            refine s_gvalY 51 rfl rfl y7 rfl (.pointer (some ⟨g2, 1, none⟩)) (run_fld 26 _ 1 rfl g2 0 rfl 1 (by kernel_rfl)) ?_
            refine nr ?_; intro U h; simp only [z0, z1] at h; subst h
            refine s_gvalY 52 rfl rfl y7 rfl (.agg (idA (bestH s l).id)) (ldHi _ rfl g2 rfl (kg2)) ?_
            refine nr ?_; intro U h; simp only [z0, z1] at h; subst h
            refine s_gvalY 53 rfl rfl y7 rfl (.bool false) (run_eqI _ _ _ rfl _ _ rfl rfl (atH HL hil).id hbok.id false e2) ?_
            refine nr ?_; intro U h; simp only [z0, z1] at h; subst h
            refine s_gvalY 54 rfl rfl y1 rfl (.bool false) (rfl) ?_
            refine nr ?_; intro U h; simp only [z0, z1] at h; subst h
            refine s_gvalY 55 rfl rfl y1 rfl (.bool false) (rfl) ?_
            refine nr ?_; intro U h; simp only [z0, z1] at h; subst h
            refine s_skipY 56 rfl rfl y14 rfl ?_
            refine nr ?_; intro U h; simp only [z0, z1] at h; subst h
            refine s_skipY 57 rfl rfl y14 rfl ?_
            refine nr ?_; intro U h; simp only [z0, z1] at h; subst h
            refine s_skipY 58 rfl rfl y14 rfl ?_
            refine nr ?_; intro U h; simp only [z0, z1] at h; subst h
            refine s_gvalY 59 rfl rfl y1 rfl (.bool false) (rfl) ?_
            refine nr ?_; intro U h; simp only [z0, z1] at h; subst h
            refine s_gvalY 60 rfl rfl y1 rfl (.bool false) (rfl) ?_
            refine nr ?_; intro U h; simp only [z0, z1] at h; subst h
            refine s_skipY 61 rfl rfl y19 rfl ?_
            refine nr ?_; intro U h; simp only [z0, z1] at h; subst h
            refine s_skipY 62 rfl rfl y19 rfl ?_
            refine nr ?_; intro U h; simp only [z0, z1] at h; subst h
            refine s_skipY 63 rfl rfl y19 rfl ?_
            refine nr ?_; intro U h; simp only [z0, z1] at h; subst h
            refine s_skipY 64 rfl rfl y19 rfl ?_
            refine nr ?_; intro U h; simp only [z0, z1] at h; subst h
            refine s_skipY 65 rfl rfl y19 rfl ?_
            refine nr ?_; intro U h; simp only [z0, z1] at h; subst h
            refine s_skipY 66 rfl rfl y19 rfl ?_
            refine nr ?_; intro U h; simp only [z0, z1] at h; subst h
            refine s_gvalY 67 rfl rfl y1 rfl (.bool false) (rfl) ?_
            refine nr ?_; intro U h; simp only [z0, z1] at h; subst h
            refine s_val 68 rfl rfl (.bool false) (rfl) ?_
            refine nr ?_; intro U h; simp only [z0, z1] at h; subst h
            refine s_val 6 rfl rfl (.bool false) (rfl) ?_
            refine nr ?_; intro U h; simp only [z0, z1] at h; subst h
            refine wpList_nil ?_
            refine blk_n ?_
            refine then_n ?_
            refine wp_region_lit ?_
            refine s_val 69 rfl rfl (.int .i64 ((i + 1 : Nat) : Int)) (run_addI 3 _ _ _ rfl ((i : Nat) : Int) 1 ((i + 1 : Nat) : Int) rfl rfl (by omega) (by omega) (by omega) _) ?_
            refine nr ?_; intro U h; simp only [z0, z1] at h; subst h
            refine s_val 22 rfl rfl (.int .i64 ((i + 1 : Nat) : Int)) (rfl) ?_
            refine nr ?_; intro U h; simp only [z0, z1] at h; subst h
            refine wpList_nil ?_
            refine then_n ?_
            exact ⟨l.length + 1 - (i + 1), by omega, i + 1, false, (fun kz => ([us1 0, .pointer (some ⟨g3, 0, none⟩), .bool true, .pointer (pK kH ao i 0), .agg (hdA (l.getD i zH)), .pointer (some ⟨g3, 17, none⟩), .int .i64 (l.getD i zH).far, .bool false, .bool false, undef, undef, undef, .bool false, .bool false, undef, undef, undef, undef, undef, .bool false, .bool false, .bool false, .pointer (some ⟨g3, 0, none⟩), .int .i64 (l.getD i zH).n, .pointer (some ⟨g2, 0, none⟩), .int .i64 (bestH s l).n, .bool true, .bool true, .pointer (some ⟨g3, 1, none⟩), .agg (idA (l.getD i zH).id), .pointer (some ⟨g2, 1, none⟩), .agg (idA (bestH s l).id), .bool false, .bool false, .bool false, undef, undef, undef, .bool false, .bool false, undef, undef, undef, undef, undef, undef, .bool false, .bool false, .int .i64 ((i + 1 : Nat) : Int)] : List Value).getD kz undef), rfl, rfl, by omega, GG, kg1, kg2, told_step hT (fun c => of_decide_eq_false e2 c.2.1)⟩
          · cases e3 : decide ((l.getD i zH).far < 6)
            · refine wp_region_opq ?_
              intro OPS hY
              have y1 := hY 1 42 rfl
              have y7 := hY 7 48 rfl
              have y14 := hY 14 55 rfl
              have y19 := hY 19 60 rfl
              clear hY
              refine s_val 41 rfl rfl (.bool false) (rfl) ?_
              refine nr ?_; intro U h; simp only [z0, z1] at h; subst h
              refine s_val 42 rfl rfl (.bool false) (rfl) ?_
              refine nr ?_; intro U h; simp only [z0, z1] at h; subst h
              refine s_gvalY 43 rfl rfl y1 rfl (.pointer (some ⟨g3, 0, none⟩)) (run_fld 26 _ 0 rfl g3 0 rfl 0 (by kernel_rfl)) ?_
              refine nr ?_; intro U h; simp only [z0, z1] at h; subst h
              refine s_gvalY 44 rfl rfl y1 rfl (.int .i64 (l.getD i zH).n) (ldHn _ rfl g3 rfl (kg3)) ?_
              refine nr ?_; intro U h; simp only [z0, z1] at h; subst h
              refine s_gvalY 45 rfl rfl y1 rfl (.pointer (some ⟨g2, 0, none⟩)) (run_fld 26 _ 0 rfl g2 0 rfl 0 (by kernel_rfl)) ?_
              refine nr ?_; intro U h; simp only [z0, z1] at h; subst h
              refine s_gvalY 46 rfl rfl y1 rfl (.int .i64 (bestH s l).n) (ldHn _ rfl g2 rfl (kg2)) ?_
              refine nr ?_; intro U h; simp only [z0, z1] at h; subst h
              refine s_gvalY 47 rfl rfl y1 rfl (.bool true) (run_eq_k 3 .i64 _ _ _ rfl Try.underlying3 (l.getD i zH).n (bestH s l).n rfl rfl true e1 _) ?_
              refine nr ?_; intro U h; simp only [z0, z1] at h; subst h
              refine s_gvalY 48 rfl rfl y1 rfl (.bool true) (rfl) ?_
              refine nr ?_; intro U h; simp only [z0, z1] at h; subst h
              refine s_gvalY 49 rfl rfl y7 rfl (.pointer (some ⟨g3, 1, none⟩)) (run_fld 26 _ 1 rfl g3 0 rfl 1 (by kernel_rfl)) ?_
              refine nr ?_; intro U h; simp only [z0, z1] at h; subst h
              refine s_gvalY 50 rfl rfl y7 rfl (.agg (idA (l.getD i zH).id)) (ldHi _ rfl g3 rfl (kg3)) ?_
              refine nr ?_; intro U h; simp only [z0, z1] at h; subst h
              refine s_gvalY 51 rfl rfl y7 rfl (.pointer (some ⟨g2, 1, none⟩)) (run_fld 26 _ 1 rfl g2 0 rfl 1 (by kernel_rfl)) ?_
              refine nr ?_; intro U h; simp only [z0, z1] at h; subst h
              refine s_gvalY 52 rfl rfl y7 rfl (.agg (idA (bestH s l).id)) (ldHi _ rfl g2 rfl (kg2)) ?_
              refine nr ?_; intro U h; simp only [z0, z1] at h; subst h
              refine s_gvalY 53 rfl rfl y7 rfl (.bool true) (run_eqI _ _ _ rfl _ _ rfl rfl (atH HL hil).id hbok.id true e2) ?_
              refine nr ?_; intro U h; simp only [z0, z1] at h; subst h
              refine s_gvalY 54 rfl rfl y1 rfl (.bool true) (rfl) ?_
              refine nr ?_; intro U h; simp only [z0, z1] at h; subst h
              refine s_gvalY 55 rfl rfl y1 rfl (.bool true) (rfl) ?_
              refine nr ?_; intro U h; simp only [z0, z1] at h; subst h
              refine s_gvalY 56 rfl rfl y14 rfl (.pointer (some ⟨g3, 17, none⟩)) (run_fld 26 _ 2 rfl g3 0 rfl 17 (by kernel_rfl)) ?_
              refine nr ?_; intro U h; simp only [z0, z1] at h; subst h
              refine s_gvalY 57 rfl rfl y14 rfl (.int .i64 (l.getD i zH).far) (ldHf _ rfl g3 rfl (kg3)) ?_
              refine nr ?_; intro U h; simp only [z0, z1] at h; subst h
              refine s_gvalY 58 rfl rfl y14 rfl (.bool false) (run_lssT 2 _ _ _ rfl (l.getD i zH).far 6 rfl rfl false e3 _) ?_
              refine nr ?_; intro U h; simp only [z0, z1] at h; subst h
              refine s_gvalY 59 rfl rfl y1 rfl (.bool false) (rfl) ?_
              refine nr ?_; intro U h; simp only [z0, z1] at h; subst h
              refine s_gvalY 60 rfl rfl y1 rfl (.bool false) (rfl) ?_
              refine nr ?_; intro U h; simp only [z0, z1] at h; subst h
              refine s_skipY 61 rfl rfl y19 rfl ?_
              refine nr ?_; intro U h; simp only [z0, z1] at h; subst h
              refine s_skipY 62 rfl rfl y19 rfl ?_
              refine nr ?_; intro U h; simp only [z0, z1] at h; subst h
              refine s_skipY 63 rfl rfl y19 rfl ?_
              refine nr ?_; intro U h; simp only [z0, z1] at h; subst h
              refine s_skipY 64 rfl rfl y19 rfl ?_
              refine nr ?_; intro U h; simp only [z0, z1] at h; subst h
              refine s_skipY 65 rfl rfl y19 rfl ?_
              refine nr ?_; intro U h; simp only [z0, z1] at h; subst h
              refine s_skipY 66 rfl rfl y19 rfl ?_
              refine nr ?_; intro U h; simp only [z0, z1] at h; subst h
              refine s_gvalY 67 rfl rfl y1 rfl (.bool false) (rfl) ?_
              refine nr ?_; intro U h; simp only [z0, z1] at h; subst h
              refine s_val 68 rfl rfl (.bool false) (rfl) ?_
              refine nr ?_; intro U h; simp only [z0, z1] at h; subst h
              refine s_val 6 rfl rfl (.bool false) (rfl) ?_
              refine nr ?_; intro U h; simp only [z0, z1] at h; subst h
              refine wpList_nil ?_
              refine blk_n ?_
              refine then_n ?_
              refine wp_region_lit ?_
              refine s_val 69 rfl rfl (.int .i64 ((i + 1 : Nat) : Int)) (run_addI 3 _ _ _ rfl ((i : Nat) : Int) 1 ((i + 1 : Nat) : Int) rfl rfl (by omega) (by omega) (by omega) _) ?_
              refine nr ?_; intro U h; simp only [z0, z1] at h; subst h
              refine s_val 22 rfl rfl (.int .i64 ((i + 1 : Nat) : Int)) (rfl) ?_
              refine nr ?_; intro U h; simp only [z0, z1] at h; subst h
              refine wpList_nil ?_
              refine then_n ?_
              exact ⟨l.length + 1 - (i + 1), by omega, i + 1, false, (fun kz => ([us1 0, .pointer (some ⟨g3, 0, none⟩), .bool true, .pointer (pK kH ao i 0), .agg (hdA (l.getD i zH)), .pointer (some ⟨g3, 17, none⟩), .int .i64 (l.getD i zH).far, .bool false, .bool false, undef, undef, undef, .bool false, .bool false, undef, undef, undef, undef, undef, .bool false, .bool false, .bool false, .pointer (some ⟨g3, 0, none⟩), .int .i64 (l.getD i zH).n, .pointer (some ⟨g2, 0, none⟩), .int .i64 (bestH s l).n, .bool true, .bool true, .pointer (some ⟨g3, 1, none⟩), .agg (idA (l.getD i zH).id), .pointer (some ⟨g2, 1, none⟩), .agg (idA (bestH s l).id), .bool true, .bool true, .bool true, .pointer (some ⟨g3, 17, none⟩), .int .i64 (l.getD i zH).far, .bool false, .bool false, .bool false, undef, undef, undef, undef, undef, undef, .bool false, .bool false, .int .i64 ((i + 1 : Nat) : Int)] : List Value).getD kz undef), rfl, rfl, by omega, GG, kg1, kg2, told_step hT (fun c => of_decide_eq_false e3 c.2.2.1)⟩
            · have hf := (atH HL hil).far
              have hf1 := hf.1
              have hf3 := of_decide_eq_true e3
              cases e4 : decide ((l.getD i zH).far + 1 = (bestH s l).far)
              · refine wp_region_opq ?_
                intro OPS hY
                have y1 := hY 1 42 rfl
                have y7 := hY 7 48 rfl
                have y14 := hY 14 55 rfl
                have y19 := hY 19 60 rfl
                clear hY
                refine s_val 41 rfl rfl (.bool false) (rfl) ?_
                refine nr ?_; intro U h; simp only [z0, z1] at h; subst h
                refine s_val 42 rfl rfl (.bool false) (rfl) ?_
                refine nr ?_; intro U h; simp only [z0, z1] at h; subst h
                refine s_gvalY 43 rfl rfl y1 rfl (.pointer (some ⟨g3, 0, none⟩)) (run_fld 26 _ 0 rfl g3 0 rfl 0 (by kernel_rfl)) ?_
                refine nr ?_; intro U h; simp only [z0, z1] at h; subst h
                refine s_gvalY 44 rfl rfl y1 rfl (.int .i64 (l.getD i zH).n) (ldHn _ rfl g3 rfl (kg3)) ?_
                refine nr ?_; intro U h; simp only [z0, z1] at h; subst h
                refine s_gvalY 45 rfl rfl y1 rfl (.pointer (some ⟨g2, 0, none⟩)) (run_fld 26 _ 0 rfl g2 0 rfl 0 (by kernel_rfl)) ?_
                refine nr ?_; intro U h; simp only [z0, z1] at h; subst h
                refine s_gvalY 46 rfl rfl y1 rfl (.int .i64 (bestH s l).n) (ldHn _ rfl g2 rfl (kg2)) ?_
                refine nr ?_; intro U h; simp only [z0, z1] at h; subst h
                refine s_gvalY 47 rfl rfl y1 rfl (.bool true) (run_eq_k 3 .i64 _ _ _ rfl Try.underlying3 (l.getD i zH).n (bestH s l).n rfl rfl true e1 _) ?_
                refine nr ?_; intro U h; simp only [z0, z1] at h; subst h
                refine s_gvalY 48 rfl rfl y1 rfl (.bool true) (rfl) ?_
                refine nr ?_; intro U h; simp only [z0, z1] at h; subst h
                refine s_gvalY 49 rfl rfl y7 rfl (.pointer (some ⟨g3, 1, none⟩)) (run_fld 26 _ 1 rfl g3 0 rfl 1 (by kernel_rfl)) ?_
                refine nr ?_; intro U h; simp only [z0, z1] at h; subst h
                refine s_gvalY 50 rfl rfl y7 rfl (.agg (idA (l.getD i zH).id)) (ldHi _ rfl g3 rfl (kg3)) ?_
                refine nr ?_; intro U h; simp only [z0, z1] at h; subst h
                refine s_gvalY 51 rfl rfl y7 rfl (.pointer (some ⟨g2, 1, none⟩)) (run_fld 26 _ 1 rfl g2 0 rfl 1 (by kernel_rfl)) ?_
                refine nr ?_; intro U h; simp only [z0, z1] at h; subst h
                refine s_gvalY 52 rfl rfl y7 rfl (.agg (idA (bestH s l).id)) (ldHi _ rfl g2 rfl (kg2)) ?_
                refine nr ?_; intro U h; simp only [z0, z1] at h; subst h
                refine s_gvalY 53 rfl rfl y7 rfl (.bool true) (run_eqI _ _ _ rfl _ _ rfl rfl (atH HL hil).id hbok.id true e2) ?_
                refine nr ?_; intro U h; simp only [z0, z1] at h; subst h
                refine s_gvalY 54 rfl rfl y1 rfl (.bool true) (rfl) ?_
                refine nr ?_; intro U h; simp only [z0, z1] at h; subst h
                refine s_gvalY 55 rfl rfl y1 rfl (.bool true) (rfl) ?_
                refine nr ?_; intro U h; simp only [z0, z1] at h; subst h
                refine s_gvalY 56 rfl rfl y14 rfl (.pointer (some ⟨g3, 17, none⟩)) (run_fld 26 _ 2 rfl g3 0 rfl 17 (by kernel_rfl)) ?_
                refine nr ?_; intro U h; simp only [z0, z1] at h; subst h
                refine s_gvalY 57 rfl rfl y14 rfl (.int .i64 (l.getD i zH).far) (ldHf _ rfl g3 rfl (kg3)) ?_
                refine nr ?_; intro U h; simp only [z0, z1] at h; subst h
                refine s_gvalY 58 rfl rfl y14 rfl (.bool true) (run_lssT 2 _ _ _ rfl (l.getD i zH).far 6 rfl rfl true e3 _) ?_
                refine nr ?_; intro U h; simp only [z0, z1] at h; subst h
                refine s_gvalY 59 rfl rfl y1 rfl (.bool true) (rfl) ?_
                refine nr ?_; intro U h; simp only [z0, z1] at h; subst h
                refine s_gvalY 60 rfl rfl y1 rfl (.bool true) (rfl) ?_
                refine nr ?_; intro U h; simp only [z0, z1] at h; subst h
                refine s_gvalY 61 rfl rfl y19 rfl (.pointer (some ⟨g3, 17, none⟩)) (run_fld 26 _ 2 rfl g3 0 rfl 17 (by kernel_rfl)) ?_
                refine nr ?_; intro U h; simp only [z0, z1] at h; subst h
                refine s_gvalY 62 rfl rfl y19 rfl (.int .i64 (l.getD i zH).far) (ldHf _ rfl g3 rfl (kg3)) ?_
                refine nr ?_; intro U h; simp only [z0, z1] at h; subst h
                refine s_gvalY 63 rfl rfl y19 rfl (.int .i64 ((l.getD i zH).far + 1)) (run_addI 2 _ _ _ rfl (l.getD i zH).far 1 ((l.getD i zH).far + 1) rfl rfl (by omega) (by omega) (by omega) _) ?_
                refine nr ?_; intro U h; simp only [z0, z1] at h; subst h
                refine s_gvalY 64 rfl rfl y19 rfl (.pointer (some ⟨g2, 17, none⟩)) (run_fld 26 _ 2 rfl g2 0 rfl 17 (by kernel_rfl)) ?_
                refine nr ?_; intro U h; simp only [z0, z1] at h; subst h
                refine s_gvalY 65 rfl rfl y19 rfl (.int .i64 (bestH s l).far) (ldHf _ rfl g2 rfl (kg2)) ?_
                refine nr ?_; intro U h; simp only [z0, z1] at h; subst h
                refine s_gvalY 66 rfl rfl y19 rfl (.bool false) (run_eq_k 2 .i64 _ _ _ rfl Try.underlying2 ((l.getD i zH).far + 1) (bestH s l).far rfl rfl false e4 _) ?_
                refine nr ?_; intro U h; simp only [z0, z1] at h; subst h
                refine s_gvalY 67 rfl rfl y1 rfl (.bool false) (rfl) ?_
                refine nr ?_; intro U h; simp only [z0, z1] at h; subst h
                refine s_val 68 rfl rfl (.bool false) (rfl) ?_
                refine nr ?_; intro U h; simp only [z0, z1] at h; subst h
                refine s_val 6 rfl rfl (.bool false) (rfl) ?_
                refine nr ?_; intro U h; simp only [z0, z1] at h; subst h
                refine wpList_nil ?_
                refine blk_n ?_
                refine then_n ?_
                refine wp_region_lit ?_
                refine s_val 69 rfl rfl (.int .i64 ((i + 1 : Nat) : Int)) (run_addI 3 _ _ _ rfl ((i : Nat) : Int) 1 ((i + 1 : Nat) : Int) rfl rfl (by omega) (by omega) (by omega) _) ?_
                refine nr ?_; intro U h; simp only [z0, z1] at h; subst h
                refine s_val 22 rfl rfl (.int .i64 ((i + 1 : Nat) : Int)) (rfl) ?_
                refine nr ?_; intro U h; simp only [z0, z1] at h; subst h
                refine wpList_nil ?_
                refine then_n ?_
                exact ⟨l.length + 1 - (i + 1), by omega, i + 1, false, (fun kz => ([us1 0, .pointer (some ⟨g3, 0, none⟩), .bool true, .pointer (pK kH ao i 0), .agg (hdA (l.getD i zH)), .pointer (some ⟨g3, 17, none⟩), .int .i64 (l.getD i zH).far, .bool false, .bool false, undef, undef, undef, .bool false, .bool false, undef, undef, undef, undef, undef, .bool false, .bool false, .bool false, .pointer (some ⟨g3, 0, none⟩), .int .i64 (l.getD i zH).n, .pointer (some ⟨g2, 0, none⟩), .int .i64 (bestH s l).n, .bool true, .bool true, .pointer (some ⟨g3, 1, none⟩), .agg (idA (l.getD i zH).id), .pointer (some ⟨g2, 1, none⟩), .agg (idA (bestH s l).id), .bool true, .bool true, .bool true, .pointer (some ⟨g3, 17, none⟩), .int .i64 (l.getD i zH).far, .bool true, .bool true, .bool true, .pointer (some ⟨g3, 17, none⟩), .int .i64 (l.getD i zH).far, .int .i64 ((l.getD i zH).far + 1), .pointer (some ⟨g2, 17, none⟩), .int .i64 (bestH s l).far, .bool false, .bool false, .bool false, .int .i64 ((i + 1 : Nat) : Int)] : List Value).getD kz undef), rfl, rfl, by omega, GG, kg1, kg2, told_step hT (fun c => of_decide_eq_false e4 c.2.2.2)⟩
              · refine wp_region_opq ?_
                intro OPS hY
                have y1 := hY 1 42 rfl
                have y7 := hY 7 48 rfl
                have y14 := hY 14 55 rfl
                have y19 := hY 19 60 rfl
                clear hY
                refine s_val 41 rfl rfl (.bool false) (rfl) ?_
                refine nr ?_; intro U h; simp only [z0, z1] at h; subst h
                refine s_val 42 rfl rfl (.bool false) (rfl) ?_
                refine nr ?_; intro U h; simp only [z0, z1] at h; subst h
                refine s_gvalY 43 rfl rfl y1 rfl (.pointer (some ⟨g3, 0, none⟩)) (run_fld 26 _ 0 rfl g3 0 rfl 0 (by kernel_rfl)) ?_
                refine nr ?_; intro U h; simp only [z0, z1] at h; subst h
                refine s_gvalY 44 rfl rfl y1 rfl (.int .i64 (l.getD i zH).n) (ldHn _ rfl g3 rfl (kg3)) ?_
                refine nr ?_; intro U h; simp only [z0, z1] at h; subst h
                refine s_gvalY 45 rfl rfl y1 rfl (.pointer (some ⟨g2, 0, none⟩)) (run_fld 26 _ 0 rfl g2 0 rfl 0 (by kernel_rfl)) ?_
                refine nr ?_; intro U h; simp only [z0, z1] at h; subst h
                refine s_gvalY 46 rfl rfl y1 rfl (.int .i64 (bestH s l).n) (ldHn _ rfl g2 rfl (kg2)) ?_
                refine nr ?_; intro U h; simp only [z0, z1] at h; subst h
                refine s_gvalY 47 rfl rfl y1 rfl (.bool true) (run_eq_k 3 .i64 _ _ _ rfl Try.underlying3 (l.getD i zH).n (bestH s l).n rfl rfl true e1 _) ?_
                refine nr ?_; intro U h; simp only [z0, z1] at h; subst h
                refine s_gvalY 48 rfl rfl y1 rfl (.bool true) (rfl) ?_
                refine nr ?_; intro U h; simp only [z0, z1] at h; subst h
                refine s_gvalY 49 rfl rfl y7 rfl (.pointer (some ⟨g3, 1, none⟩)) (run_fld 26 _ 1 rfl g3 0 rfl 1 (by kernel_rfl)) ?_
                refine nr ?_; intro U h; simp only [z0, z1] at h; subst h
                refine s_gvalY 50 rfl rfl y7 rfl (.agg (idA (l.getD i zH).id)) (ldHi _ rfl g3 rfl (kg3)) ?_
                refine nr ?_; intro U h; simp only [z0, z1] at h; subst h
                refine s_gvalY 51 rfl rfl y7 rfl (.pointer (some ⟨g2, 1, none⟩)) (run_fld 26 _ 1 rfl g2 0 rfl 1 (by kernel_rfl)) ?_
                refine nr ?_; intro U h; simp only [z0, z1] at h; subst h
                refine s_gvalY 52 rfl rfl y7 rfl (.agg (idA (bestH s l).id)) (ldHi _ rfl g2 rfl (kg2)) ?_
                refine nr ?_; intro U h; simp only [z0, z1] at h; subst h
                refine s_gvalY 53 rfl rfl y7 rfl (.bool true) (run_eqI _ _ _ rfl _ _ rfl rfl (atH HL hil).id hbok.id true e2) ?_
                refine nr ?_; intro U h; simp only [z0, z1] at h; subst h
                refine s_gvalY 54 rfl rfl y1 rfl (.bool true) (rfl) ?_
                refine nr ?_; intro U h; simp only [z0, z1] at h; subst h
                refine s_gvalY 55 rfl rfl y1 rfl (.bool true) (rfl) ?_
                refine nr ?_; intro U h; simp only [z0, z1] at h; subst h
                refine s_gvalY 56 rfl rfl y14 rfl (.pointer (some ⟨g3, 17, none⟩)) (run_fld 26 _ 2 rfl g3 0 rfl 17 (by kernel_rfl)) ?_
                refine nr ?_; intro U h; simp only [z0, z1] at h; subst h
                refine s_gvalY 57 rfl rfl y14 rfl (.int .i64 (l.getD i zH).far) (ldHf _ rfl g3 rfl (kg3)) ?_
                refine nr ?_; intro U h; simp only [z0, z1] at h; subst h
                refine s_gvalY 58 rfl rfl y14 rfl (.bool true) (run_lssT 2 _ _ _ rfl (l.getD i zH).far 6 rfl rfl true e3 _) ?_
                refine nr ?_; intro U h; simp only [z0, z1] at h; subst h
                refine s_gvalY 59 rfl rfl y1 rfl (.bool true) (rfl) ?_
                refine nr ?_; intro U h; simp only [z0, z1] at h; subst h
                refine s_gvalY 60 rfl rfl y1 rfl (.bool true) (rfl) ?_
                refine nr ?_; intro U h; simp only [z0, z1] at h; subst h
                refine s_gvalY 61 rfl rfl y19 rfl (.pointer (some ⟨g3, 17, none⟩)) (run_fld 26 _ 2 rfl g3 0 rfl 17 (by kernel_rfl)) ?_
                refine nr ?_; intro U h; simp only [z0, z1] at h; subst h
                refine s_gvalY 62 rfl rfl y19 rfl (.int .i64 (l.getD i zH).far) (ldHf _ rfl g3 rfl (kg3)) ?_
                refine nr ?_; intro U h; simp only [z0, z1] at h; subst h
                refine s_gvalY 63 rfl rfl y19 rfl (.int .i64 ((l.getD i zH).far + 1)) (run_addI 2 _ _ _ rfl (l.getD i zH).far 1 ((l.getD i zH).far + 1) rfl rfl (by omega) (by omega) (by omega) _) ?_
                refine nr ?_; intro U h; simp only [z0, z1] at h; subst h
                refine s_gvalY 64 rfl rfl y19 rfl (.pointer (some ⟨g2, 17, none⟩)) (run_fld 26 _ 2 rfl g2 0 rfl 17 (by kernel_rfl)) ?_
                refine nr ?_; intro U h; simp only [z0, z1] at h; subst h
                refine s_gvalY 65 rfl rfl y19 rfl (.int .i64 (bestH s l).far) (ldHf _ rfl g2 rfl (kg2)) ?_
                refine nr ?_; intro U h; simp only [z0, z1] at h; subst h
                refine s_gvalY 66 rfl rfl y19 rfl (.bool true) (run_eq_k 2 .i64 _ _ _ rfl Try.underlying2 ((l.getD i zH).far + 1) (bestH s l).far rfl rfl true e4 _) ?_
                refine nr ?_; intro U h; simp only [z0, z1] at h; subst h
                refine s_gvalY 67 rfl rfl y1 rfl (.bool true) (rfl) ?_
                refine nr ?_; intro U h; simp only [z0, z1] at h; subst h
                refine s_val 68 rfl rfl (.bool true) (rfl) ?_
                refine nr ?_; intro U h; simp only [z0, z1] at h; subst h
                refine s_val 6 rfl rfl (.bool true) (rfl) ?_
                refine nr ?_; intro U h; simp only [z0, z1] at h; subst h
                refine wpList_nil ?_
                refine blk_n ?_
                refine then_n ?_
                refine wp_region_lit ?_
                refine s_val 69 rfl rfl (.int .i64 ((i + 1 : Nat) : Int)) (run_addI 3 _ _ _ rfl ((i : Nat) : Int) 1 ((i + 1 : Nat) : Int) rfl rfl (by omega) (by omega) (by omega) _) ?_
                refine nr ?_; intro U h; simp only [z0, z1] at h; subst h
                refine s_val 22 rfl rfl (.int .i64 ((i + 1 : Nat) : Int)) (rfl) ?_
                refine nr ?_; intro U h; simp only [z0, z1] at h; subst h
                refine wpList_nil ?_
                refine then_n ?_
                exact ⟨l.length + 1 - (i + 1), by omega, i + 1, true, (fun kz => ([us1 0, .pointer (some ⟨g3, 0, none⟩), .bool true, .pointer (pK kH ao i 0), .agg (hdA (l.getD i zH)), .pointer (some ⟨g3, 17, none⟩), .int .i64 (l.getD i zH).far, .bool false, .bool false, undef, undef, undef, .bool false, .bool false, undef, undef, undef, undef, undef, .bool false, .bool false, .bool false, .pointer (some ⟨g3, 0, none⟩), .int .i64 (l.getD i zH).n, .pointer (some ⟨g2, 0, none⟩), .int .i64 (bestH s l).n, .bool true, .bool true, .pointer (some ⟨g3, 1, none⟩), .agg (idA (l.getD i zH).id), .pointer (some ⟨g2, 1, none⟩), .agg (idA (bestH s l).id), .bool true, .bool true, .bool true, .pointer (some ⟨g3, 17, none⟩), .int .i64 (l.getD i zH).far, .bool true, .bool true, .bool true, .pointer (some ⟨g3, 17, none⟩), .int .i64 (l.getD i zH).far, .int .i64 ((l.getD i zH).far + 1), .pointer (some ⟨g2, 17, none⟩), .int .i64 (bestH s l).far, .bool true, .bool true, .bool true, .int .i64 ((i + 1 : Nat) : Int)] : List Value).getD kz undef), rfl, rfl, by omega, GG, kg1, kg2, .inl rfl⟩
      · have htb : tb = true := of_decide_eq_true ht
        subst htb
        refine wp_region_opq ?_
        intro OPS hY
        have y1 := hY 1 42 rfl
        have y7 := hY 7 48 rfl
        have y14 := hY 14 55 rfl
        have y19 := hY 19 60 rfl
        clear hY
        refine s_val 41 rfl rfl (.bool true) (rfl) ?_
        refine nr ?_; intro U h; simp only [z0, z1] at h; subst h
        refine s_val 42 rfl rfl (.bool true) (rfl) ?_
        refine nr ?_; intro U h; simp only [z0, z1] at h; subst h
        refine s_skipY 43 rfl rfl y1 rfl ?_
        refine nr ?_; intro U h; simp only [z0, z1] at h; subst h
        refine s_skipY 44 rfl rfl y1 rfl ?_
        refine nr ?_; intro U h; simp only [z0, z1] at h; subst h
        refine s_skipY 45 rfl rfl y1 rfl ?_
        refine nr ?_; intro U h; simp only [z0, z1] at h; subst h
        refine s_skipY 46 rfl rfl y1 rfl ?_
        refine nr ?_; intro U h; simp only [z0, z1] at h; subst h
        refine s_skipY 47 rfl rfl y1 rfl ?_
        refine nr ?_; intro U h; simp only [z0, z1] at h; subst h
        refine s_skipY 48 rfl rfl y1 rfl ?_
        refine nr ?_; intro U h; simp only [z0, z1] at h; subst h
        refine s_skipY 49 rfl rfl y7 rfl ?_
        refine nr ?_; intro U h; simp only [z0, z1] at h; subst h
        refine s_skipY 50 rfl rfl y7 rfl ?_
        refine nr ?_; intro U h; simp only [z0, z1] at h; subst h
        refine s_skipY 51 rfl rfl y7 rfl ?_
        refine nr ?_; intro U h; simp only [z0, z1] at h; subst h
        refine s_skipY 52 rfl rfl y7 rfl ?_
        refine nr ?_; intro U h; simp only [z0, z1] at h; subst h
        refine s_skipY 53 rfl rfl y7 rfl ?_
        refine nr ?_; intro U h; simp only [z0, z1] at h; subst h
        refine s_skipY 54 rfl rfl y1 rfl ?_
        refine nr ?_; intro U h; simp only [z0, z1] at h; subst h
        refine s_skipY 55 rfl rfl y1 rfl ?_
        refine nr ?_; intro U h; simp only [z0, z1] at h; subst h
        refine s_skipY 56 rfl rfl y14 rfl ?_
        refine nr ?_; intro U h; simp only [z0, z1] at h; subst h
        refine s_skipY 57 rfl rfl y14 rfl ?_
        refine nr ?_; intro U h; simp only [z0, z1] at h; subst h
        refine s_skipY 58 rfl rfl y14 rfl ?_
        refine nr ?_; intro U h; simp only [z0, z1] at h; subst h
        refine s_skipY 59 rfl rfl y1 rfl ?_
        refine nr ?_; intro U h; simp only [z0, z1] at h; subst h
        refine s_skipY 60 rfl rfl y1 rfl ?_
        refine nr ?_; intro U h; simp only [z0, z1] at h; subst h
        refine s_skipY 61 rfl rfl y19 rfl ?_
        refine nr ?_; intro U h; simp only [z0, z1] at h; subst h
        refine s_skipY 62 rfl rfl y19 rfl ?_
        refine nr ?_; intro U h; simp only [z0, z1] at h; subst h
        refine s_skipY 63 rfl rfl y19 rfl ?_
        refine nr ?_; intro U h; simp only [z0, z1] at h; subst h
        refine s_skipY 64 rfl rfl y19 rfl ?_
        refine nr ?_; intro U h; simp only [z0, z1] at h; subst h
        refine s_skipY 65 rfl rfl y19 rfl ?_
        refine nr ?_; intro U h; simp only [z0, z1] at h; subst h
        refine s_skipY 66 rfl rfl y19 rfl ?_
        refine nr ?_; intro U h; simp only [z0, z1] at h; subst h
        refine s_skipY 67 rfl rfl y1 rfl ?_
        refine nr ?_; intro U h; simp only [z0, z1] at h; subst h
        refine s_val 68 rfl rfl (.bool true) (rfl) ?_
        refine nr ?_; intro U h; simp only [z0, z1] at h; subst h
        refine s_val 6 rfl rfl (.bool true) (rfl) ?_
        refine nr ?_; intro U h; simp only [z0, z1] at h; subst h
        refine wpList_nil ?_
        refine blk_n ?_
        refine then_n ?_
        refine wp_region_lit ?_
        refine s_val 69 rfl rfl (.int .i64 ((i + 1 : Nat) : Int)) (run_addI 3 _ _ _ rfl ((i : Nat) : Int) 1 ((i + 1 : Nat) : Int) rfl rfl (by omega) (by omega) (by omega) _) ?_
        refine nr ?_; intro U h; simp only [z0, z1] at h; subst h
        refine s_val 22 rfl rfl (.int .i64 ((i + 1 : Nat) : Int)) (rfl) ?_
        refine nr ?_; intro U h; simp only [z0, z1] at h; subst h
        refine wpList_nil ?_
        refine then_n ?_
        exact ⟨l.length + 1 - (i + 1), by omega, i + 1, true, (fun kz => ([us1 0, .pointer (some ⟨g3, 0, none⟩), .bool true, .pointer (pK kH ao i 0), .agg (hdA (l.getD i zH)), .pointer (some ⟨g3, 17, none⟩), .int .i64 (l.getD i zH).far, .bool false, .bool false, undef, undef, undef, .bool false, .bool false, undef, undef, undef, undef, undef, .bool false, .bool true, .bool true, undef, undef, undef, undef, undef, undef, undef, undef, undef, undef, undef, undef, undef, undef, undef, undef, undef, undef, undef, undef, undef, undef, undef, undef, undef, .bool true, .int .i64 ((i + 1 : Nat) : Int)] : List Value).getD kz undef), rfl, rfl, by omega, GG, kg1, kg2, .inl rfl⟩
    · cases h2 : decide ((l.getD i zH).far ≤ 5)
      · refine wp_region_opq ?_
        intro OPS hY
        have y3 := hY 3 29 rfl
        have y8 := hY 8 34 rfl
        clear hY
        refine s_val 26 rfl rfl (.pointer (some ⟨g3, 17, none⟩)) (run_fld 26 _ 2 rfl g3 0 rfl 17 (by kernel_rfl)) ?_
        refine nr ?_; intro U h; simp only [z0, z1] at h; subst h
        refine s_val 27 rfl rfl (.int .i64 (l.getD i zH).far) (ldHf _ rfl g3 rfl (kg3)) ?_
        refine nr ?_; intro U h; simp only [z0, z1] at h; subst h
        refine s_val 28 rfl rfl (.bool true) (run_geqT 2 _ _ _ rfl (l.getD i zH).far 0 rfl rfl true h1 _) ?_
        refine nr ?_; intro U h; simp only [z0, z1] at h; subst h
        refine s_val 29 rfl rfl (.bool true) (rfl) ?_
        refine nr ?_; intro U h; simp only [z0, z1] at h; subst h
        refine s_gvalY 30 rfl rfl y3 rfl (.pointer (some ⟨g3, 17, none⟩)) (run_fld 26 _ 2 rfl g3 0 rfl 17 (by kernel_rfl)) ?_
        refine nr ?_; intro U h; simp only [z0, z1] at h; subst h
        refine s_gvalY 31 rfl rfl y3 rfl (.int .i64 (l.getD i zH).far) (ldHf _ rfl g3 rfl (kg3)) ?_
        refine nr ?_; intro U h; simp only [z0, z1] at h; subst h
        refine s_gvalY 32 rfl rfl y3 rfl (.bool false) (run_leqT 2 _ _ _ rfl (l.getD i zH).far 5 rfl rfl false h2 _) ?_
        refine nr ?_; intro U h; simp only [z0, z1] at h; subst h
        refine s_val 33 rfl rfl (.bool false) (rfl) ?_
        refine nr ?_; intro U h; simp only [z0, z1] at h; subst h
        refine s_val 34 rfl rfl (.bool false) (rfl) ?_
        refine nr ?_; intro U h; simp only [z0, z1] at h; subst h
        refine s_skipY 35 rfl rfl y8 rfl ?_
        refine nr ?_; intro U h; simp only [z0, z1] at h; subst h
        refine s_skipY 36 rfl rfl y8 rfl ?_
        refine nr ?_; intro U h; simp only [z0, z1] at h; subst h
        refine s_skipY 37 rfl rfl y8 rfl ?_
        refine nr ?_; intro U h; simp only [z0, z1] at h; subst h
        refine s_skipY 38 rfl rfl y8 rfl ?_
        refine nr ?_; intro U h; simp only [z0, z1] at h; subst h
        refine s_skipY 39 rfl rfl y8 rfl ?_
        refine nr ?_; intro U h; simp only [z0, z1] at h; subst h
        refine s_val 40 rfl rfl (.bool false) (rfl) ?_
        refine nr ?_; intro U h; simp only [z0, z1] at h; subst h
        refine wpList_nil ?_
        refine then_n ?_
        refine wp_cond_false rfl ?_
        refine wp_skip ?_
        refine then_n ?_
        cases ht : decide (tb = true)
        · have htb : tb = false := Bool.eq_false_iff.2 (of_decide_eq_false ht)
          subst htb
          cases e1 : decide ((l.getD i zH).n = (bestH s l).n)
          · refine wp_region_opq ?_
            intro OPS hY
            have y1 := hY 1 42 rfl
            have y7 := hY 7 48 rfl
            have y14 := hY 14 55 rfl
            have y19 := hY 19 60 rfl
            clear hY
            refine s_val 41 rfl rfl (.bool false) (rfl) ?_
            refine nr ?_; intro U h; simp only [z0, z1] at h; subst h
            refine s_val 42 rfl rfl (.bool false) (rfl) ?_
            refine nr ?_; intro U h; simp only [z0, z1] at h; subst h
            refine s_gvalY 43 rfl rfl y1 rfl (.pointer (some ⟨g3, 0, none⟩)) (run_fld 26 _ 0 rfl g3 0 rfl 0 (by kernel_rfl)) ?_
            refine nr ?_; intro U h; simp only [z0, z1] at h; subst h
            refine s_gvalY 44 rfl rfl y1 rfl (.int .i64 (l.getD i zH).n) (ldHn _ rfl g3 rfl (kg3)) ?_
            refine nr ?_; intro U h; simp only [z0, z1] at h; subst h
            refine s_gvalY 45 rfl rfl y1 rfl (.pointer (some ⟨g2, 0, none⟩)) (run_fld 26 _ 0 rfl g2 0 rfl 0 (by kernel_rfl)) ?_
            refine nr ?_; intro U h; simp only [z0, z1] at h; subst h
            refine s_gvalY 46 rfl rfl y1 rfl (.int .i64 (bestH s l).n) (ldHn _ rfl g2 rfl (kg2)) ?_
            refine nr ?_; intro U h; simp only [z0, z1] at h; subst h
            refine s_gvalY 47 rfl rfl y1 rfl (.bool false) (run_eq_k 3 .i64 _ _ _ rfl Try.underlying3 (l.getD i zH).n (bestH s l).n rfl rfl false e1 _) ?_
            refine nr ?_; intro U h; simp only [z0, z1] at h; subst h
            refine s_gvalY 48 rfl rfl y1 rfl (.bool false) (rfl) ?_
            refine nr ?_; intro U h; simp only [z0, z1] at h; subst h
            refine s_skipY 49 rfl rfl y7 rfl ?_
            refine nr ?_; intro U h; simp only [z0, z1] at h; subst h
            refine s_skipY 50 rfl rfl y7 rfl ?_
            refine nr ?_; intro U h; simp only [z0, z1] at h; subst h
            refine s_skipY 51 rfl rfl y7 rfl ?_
            refine nr ?_; intro U h; simp only [z0, z1] at h; subst h
            refine s_skipY 52 rfl rfl y7 rfl ?_
            refine nr ?_; intro U h; simp only [z0, z1] at h; subst h
            refine s_skipY 53 rfl rfl y7 rfl ?_
            refine nr ?_; intro U h; simp only [z0, z1] at h; subst h
            refine s_gvalY 54 rfl rfl y1 rfl (.bool false) (rfl) ?_
            refine nr ?_; intro U h; simp only [z0, z1] at h; subst h
            refine s_gvalY 55 rfl rfl y1 rfl (.bool false) (rfl) ?_
            refine nr ?_; intro U h; simp only [z0, z1] at h; subst h
            refine s_skipY 56 rfl rfl y14 rfl ?_
            refine nr ?_; intro U h; simp only [z0, z1] at h; subst h
            refine s_skipY 57 rfl rfl y14 rfl ?_
            refine nr ?_; intro U h; simp only [z0, z1] at h; subst h
            refine s_skipY 58 rfl rfl y14 rfl ?_
            refine nr ?_; intro U h; simp only [z0, z1] at h; subst h
            refine s_gvalY 59 rfl rfl y1 rfl (.bool false) (rfl) ?_
            refine nr ?_; intro U h; simp only [z0, z1] at h; subst h
            refine s_gvalY 60 rfl rfl y1 rfl (.bool false) (rfl) ?_
            refine nr ?_; intro U h; simp only [z0, z1] at h; subst h
            refine s_skipY 61 rfl rfl y19 rfl ?_
            refine nr ?_; intro U h; simp only [z0, z1] at h; subst h
            refine s_skipY 62 rfl rfl y19 rfl ?_
            refine nr ?_; intro U h; simp only [z0, z1] at h; subst h
            refine s_skipY 63 rfl rfl y19 rfl ?_
            refine nr ?_; intro U h; simp only [z0, z1] at h; subst h
            refine s_skipY 64 rfl rfl y19 rfl ?_
            refine nr ?_; intro U h; simp only [z0, z1] at h; subst h
            refine s_skipY 65 rfl rfl y19 rfl ?_
            refine nr ?_; intro U h; simp only [z0, z1] at h; subst h
            refine s_skipY 66 rfl rfl y19 rfl ?_
            refine nr ?_; intro U h; simp only [z0, z1] at h; subst h
            refine s_gvalY 67 rfl rfl y1 rfl (.bool false) (rfl) ?_
            refine nr ?_; intro U h; simp only [z0, z1] at h; subst h
            refine s_val 68 rfl rfl (.bool false) (rfl) ?_
            refine nr ?_; intro U h; simp only [z0, z1] at h; subst h
            refine s_val 6 rfl rfl (.bool false) (rfl) ?_
            refine nr ?_; intro U h; simp only [z0, z1] at h; subst h
            refine wpList_nil ?_
            refine blk_n ?_
            refine then_n ?_
            refine wp_region_lit ?_
            refine s_val 69 rfl rfl (.int .i64 ((i + 1 : Nat) : Int)) (run_addI 3 _ _ _ rfl ((i : Nat) : Int) 1 ((i + 1 : Nat) : Int) rfl rfl (by omega) (by omega) (by omega) _) ?_
            refine nr ?_; intro U h; simp only [z0, z1] at h; subst h
            refine s_val 22 rfl rfl (.int .i64 ((i + 1 : Nat) : Int)) (rfl) ?_
            refine nr ?_; intro U h; simp only [z0, z1] at h; subst h
            refine wpList_nil ?_
            refine then_n ?_
            exact ⟨l.length + 1 - (i + 1), by omega, i + 1, false, (fun kz => ([us1 0, .pointer (some ⟨g3, 0, none⟩), .bool true, .pointer (pK kH ao i 0), .agg (hdA (l.getD i zH)), .pointer (some ⟨g3, 17, none⟩), .int .i64 (l.getD i zH).far, .bool true, .bool true, .pointer (some ⟨g3, 17, none⟩), .int .i64 (l.getD i zH).far, .bool false, .bool false, .bool false, undef, undef, undef, undef, undef, .bool false, .bool false, .bool false, .pointer (some ⟨g3, 0, none⟩), .int .i64 (l.getD i zH).n, .pointer (some ⟨g2, 0, none⟩), .int .i64 (bestH s l).n, .bool false, .bool false, undef, undef, undef, undef, undef, .bool false, .bool false, undef, undef, undef, .bool false, .bool false, undef, undef, undef, undef, undef, undef, .bool false, .bool false, .int .i64 ((i + 1 : Nat) : Int)] : List Value).getD kz undef), rfl, rfl, by omega, GG, kg1, kg2, told_step hT (fun c => of_decide_eq_false e1 c.1)⟩
          · cases e2 : decide ((l.getD i zH).id = (bestH s l).id)
            · refine wp_region_opq ?_
              intro OPS hY
              have y1 := hY 1 42 rfl
              have y7 := hY 7 48 rfl
              have y14 := hY 14 55 rfl
              have y19 := hY 19 60 rfl
              clear hY
              refine s_val 41 rfl rfl (.bool false) (rfl) ?_
              refine nr ?_; intro U h; simp only [z0, z1] at h; subst h
              refine s_val 42 rfl rfl (.bool false) (rfl) ?_
              refine nr ?_; intro U h; simp only [z0, z1] at h; subst h
              refine s_gvalY 43 rfl rfl y1 rfl (.pointer (some ⟨g3, 0, none⟩)) (run_fld 26 _ 0 rfl g3 0 rfl 0 (by kernel_rfl)) ?_
              refine nr ?_; intro U h; simp only [z0, z1] at h; subst h
              refine s_gvalY 44 rfl rfl y1 rfl (.int .i64 (l.getD i zH).n) (ldHn _ rfl g3 rfl (kg3)) ?_
              refine nr ?_; intro U h; simp only [z0, z1] at h; subst h
              refine s_gvalY 45 rfl rfl y1 rfl (.pointer (some ⟨g2, 0, none⟩)) (run_fld 26 _ 0 rfl g2 0 rfl 0 (by kernel_rfl)) ?_
              refine nr ?_; intro U h; simp only [z0, z1] at h; subst h
              refine s_gvalY 46 rfl rfl y1 rfl (.int .i64 (bestH s l).n) (ldHn _ rfl g2 rfl (kg2)) ?_
              refine nr ?_; intro U h; simp only [z0, z1] at h; subst h
              refine s_gvalY 47 rfl rfl y1 rfl (.bool true) (run_eq_k 3 .i64 _ _ _ rfl Try.underlying3 (l.getD i zH).n (bestH s l).n rfl rfl true e1 _) ?_
              refine nr ?_; intro U h; simp only [z0, z1] at h; subst h
              refine s_gvalY 48 rfl rfl y1 rfl (.bool true) (rfl) ?_
              refine nr ?_; intro U h; simp only [z0, z1] at h; subst h
              refine s_gvalY 49 rfl rfl y7 rfl (.pointer (some ⟨g3, 1, none⟩)) (run_fld 26 _ 1 rfl g3 0 rfl 1 (by kernel_rfl)) ?_
              refine nr ?_; intro U h; simp only [z0, z1] at h; subst h
              refine s_gvalY 50 rfl rfl y7 rfl (.agg (idA (l.getD i zH).id)) (ldHi _ rfl g3 rfl (kg3)) ?_
              refine nr ?_; intro U h; simp only [z0, z1] at h; subst h
              refine s_gvalY 51 rfl rfl y7 rfl (.pointer (some ⟨g2, 1, none⟩)) (run_fld 26 _ 1 rfl g2 0 rfl 1 (by kernel_rfl)) ?_
              refine nr ?_; intro U h; simp only [z0, z1] at h; subst h
              refine s_gvalY 52 rfl rfl y7 rfl (.agg (idA (bestH s l).id)) (ldHi _ rfl g2 rfl (kg2)) ?_
              refine nr ?_; intro U h; simp only [z0, z1] at h; subst h
              refine s_gvalY 53 rfl rfl y7 rfl (.bool false) (run_eqI _ _ _ rfl _ _ rfl rfl (atH HL hil).id hbok.id false e2) ?_
              refine nr ?_; intro U h; simp only [z0, z1] at h; subst h
              refine s_gvalY 54 rfl rfl y1 rfl (.bool false) (rfl) ?_
              refine nr ?_; intro U h; simp only [z0, z1] at h; subst h
              refine s_gvalY 55 rfl rfl y1 rfl (.bool false) (rfl) ?_
              refine nr ?_; intro U h; simp only [z0, z1] at h; subst h
              refine s_skipY 56 rfl rfl y14 rfl ?_
              refine nr ?_; intro U h; simp only [z0, z1] at h; subst h
              refine s_skipY 57 rfl rfl y14 rfl ?_
              refine nr ?_; intro U h; simp only [z0, z1] at h; subst h
              refine s_skipY 58 rfl rfl y14 rfl ?_
              refine nr ?_; intro U h; simp only [z0, z1] at h; subst h
              refine s_gvalY 59 rfl rfl y1 rfl (.bool false) (rfl) ?_
              refine nr ?_; intro U h; simp only [z0, z1] at h; subst h
              refine s_gvalY 60 rfl rfl y1 rfl (.bool false) (rfl) ?_
              refine nr ?_; intro U h; simp only [z0, z1] at h; subst h
              refine s_skipY 61 rfl rfl y19 rfl ?_
              refine nr ?_; intro U h; simp only [z0, z1] at h; subst h
              refine s_skipY 62 rfl rfl y19 rfl ?_
              refine nr ?_; intro U h; simp only [z0, z1] at h; subst h
              refine s_skipY 63 rfl rfl y19 rfl ?_
              refine nr ?_; intro U h; simp only [z0, z1] at h; subst h
              refine s_skipY 64 rfl rfl y19 rfl ?_
              refine nr ?_; intro U h; simp only [z0, z1] at h; subst h
              refine s_skipY 65 rfl rfl y19 rfl ?_
              refine nr ?_; intro U h; simp only [z0, z1] at h; subst h
              refine s_skipY 66 rfl rfl y19 rfl ?_
              refine nr ?_; intro U h; simp only [z0, z1] at h; subst h
              refine s_gvalY 67 rfl rfl y1 rfl (.bool false) (rfl) ?_
              refine nr ?_; intro U h; simp only [z0, z1] at h; subst h
              refine s_val 68 rfl rfl (.bool false) (rfl) ?_
              refine nr ?_; intro U h; simp only [z0, z1] at h; subst h
              refine s_val 6 rfl rfl (.bool false) (rfl) ?_
              refine nr ?_; intro U h; simp only [z0, z1] at h; subst h
              refine wpList_nil ?_
              refine blk_n ?_
              refine then_n ?_
              refine wp_region_lit ?_
              refine s_val 69 rfl rfl (.int .i64 ((i + 1 : Nat) : Int)) (run_addI 3 _ _ _ rfl ((i : Nat) : Int) 1 ((i + 1 : Nat) : Int) rfl rfl (by omega) (by omega) (by omega) _) ?_
              refine nr ?_; intro U h; simp only [z0, z1] at h; subst h
              refine s_val 22 rfl rfl (.int .i64 ((i + 1 : Nat) : Int)) (rfl) ?_
              refine nr ?_; intro U h; simp only [z0, z1] at h; subst h
              refine wpList_nil ?_
              refine then_n ?_
              exact ⟨l.length + 1 - (i + 1), by omega, i + 1, false, (fun kz => ([us1 0, .pointer (some ⟨g3, 0, none⟩), .bool true, .pointer (pK kH ao i 0), .agg (hdA (l.getD i zH)), .pointer (some ⟨g3, 17, none⟩), .int .i64 (l.getD i zH).far, .bool true, .bool true, .pointer (some ⟨g3, 17, none⟩), .int .i64 (l.getD i zH).far, .bool false, .bool false, .bool false, undef, undef, undef, undef, undef, .bool false, .bool false, .bool false, .pointer (some ⟨g3, 0, none⟩), .int .i64 (l.getD i zH).n, .pointer (some ⟨g2, 0, none⟩), .int .i64 (bestH s l).n, .bool true, .bool true, .pointer (some ⟨g3, 1, none⟩), .agg (idA (l.getD i zH).id), .pointer (some ⟨g2, 1, none⟩), .agg (idA (bestH s l).id), .bool false, .bool false, .bool false, undef, undef, undef, .bool false, .bool false, undef, undef, undef, undef, undef, undef, .bool false, .bool false, .int .i64 ((i + 1 : Nat) : Int)] : List Value).getD kz undef), rfl, rfl, by omega, GG, kg1, kg2, told_step hT (fun c => of_decide_eq_false e2 c.2.1)⟩
            · cases e3 : decide ((l.getD i zH).far < 6)
              · refine wp_region_opq ?_
                intro OPS hY
                have y1 := hY 1 42 rfl
                have y7 := hY 7 48 rfl
                have y14 := hY 14 55 rfl
                have y19 := hY 19 60 rfl
                clear hY
                refine s_val 41 rfl rfl (.bool false) (rfl) ?_
                refine nr ?_; intro U h; simp only [z0, z1] at h; subst h
                refine s_val 42 rfl rfl (.bool false) (rfl) ?_
                refine nr ?_; intro U h; simp only [z0, z1] at h; subst h
                refine s_gvalY 43 rfl rfl y1 rfl (.pointer (some ⟨g3, 0, none⟩)) (run_fld 26 _ 0 rfl g3 0 rfl 0 (by kernel_rfl)) ?_
                refine nr ?_; intro U h; simp only [z0, z1] at h; subst h
                refine s_gvalY 44 rfl rfl y1 rfl (.int .i64 (l.getD i zH).n) (ldHn _ rfl g3 rfl (kg3)) ?_
                refine nr ?_; intro U h; simp only [z0, z1] at h; subst h
                refine s_gvalY 45 rfl rfl y1 rfl (.pointer (some ⟨g2, 0, none⟩)) (run_fld 26 _ 0 rfl g2 0 rfl 0 (by kernel_rfl)) ?_
                refine nr ?_; intro U h; simp only [z0, z1] at h; subst h
                refine s_gvalY 46 rfl rfl y1 rfl (.int .i64 (bestH s l).n) (ldHn _ rfl g2 rfl (kg2)) ?_
                refine nr ?_; intro U h; simp only [z0, z1] at h; subst h
                refine s_gvalY 47 rfl rfl y1 rfl (.bool true) (run_eq_k 3 .i64 _ _ _ rfl Try.underlying3 (l.getD i zH).n (bestH s l).n rfl rfl true e1 _) ?_
                refine nr ?_; intro U h; simp only [z0, z1] at h; subst h
                refine s_gvalY 48 rfl rfl y1 rfl (.bool true) (rfl) ?_
                refine nr ?_; intro U h; simp only [z0, z1] at h; subst h
                refine s_gvalY 49 rfl rfl y7 rfl (.pointer (some ⟨g3, 1, none⟩)) (run_fld 26 _ 1 rfl g3 0 rfl 1 (by kernel_rfl)) ?_
                refine nr ?_; intro U h; simp only [z0, z1] at h; subst h
                refine s_gvalY 50 rfl rfl y7 rfl (.agg (idA (l.getD i zH).id)) (ldHi _ rfl g3 rfl (kg3)) ?_
                refine nr ?_; intro U h; simp only [z0, z1] at h; subst h
                refine s_gvalY 51 rfl rfl y7 rfl (.pointer (some ⟨g2, 1, none⟩)) (run_fld 26 _ 1 rfl g2 0 rfl 1 (by kernel_rfl)) ?_
                refine nr ?_; intro U h; simp only [z0, z1] at h; subst h
                refine s_gvalY 52 rfl rfl y7 rfl (.agg (idA (bestH s l).id)) (ldHi _ rfl g2 rfl (kg2)) ?_
                refine nr ?_; intro U h; simp only [z0, z1] at h; subst h
                refine s_gvalY 53 rfl rfl y7 rfl (.bool true) (run_eqI _ _ _ rfl _ _ rfl rfl (atH HL hil).id hbok.id true e2) ?_
                refine nr ?_; intro U h; simp only [z0, z1] at h; subst h
                refine s_gvalY 54 rfl rfl y1 rfl (.bool true) (rfl) ?_
                refine nr ?_; intro U h; simp only [z0, z1] at h; subst h
                refine s_gvalY 55 rfl rfl y1 rfl (.bool true) (rfl) ?_
                refine nr ?_; intro U h; simp only [z0, z1] at h; subst h
                refine s_gvalY 56 rfl rfl y14 rfl (.pointer (some ⟨g3, 17, none⟩)) (run_fld 26 _ 2 rfl g3 0 rfl 17 (by kernel_rfl)) ?_
                refine nr ?_; intro U h; simp only [z0, z1] at h; subst h
                refine s_gvalY 57 rfl rfl y14 rfl (.int .i64 (l.getD i zH).far) (ldHf _ rfl g3 rfl (kg3)) ?_
                refine nr ?_; intro U h; simp only [z0, z1] at h; subst h
                refine s_gvalY 58 rfl rfl y14 rfl (.bool false) (run_lssT 2 _ _ _ rfl (l.getD i zH).far 6 rfl rfl false e3 _) ?_
                refine nr ?_; intro U h; simp only [z0, z1] at h; subst h
                refine s_gvalY 59 rfl rfl y1 rfl (.bool false) (rfl) ?_
                refine nr ?_; intro U h; simp only [z0, z1] at h; subst h
                refine s_gvalY 60 rfl rfl y1 rfl (.bool false) (rfl) ?_
                refine nr ?_; intro U h; simp only [z0, z1] at h; subst h
                refine s_skipY 61 rfl rfl y19 rfl ?_
                refine nr ?_; intro U h; simp only [z0, z1] at h; subst h
                refine s_skipY 62 rfl rfl y19 rfl ?_
                refine nr ?_; intro U h; simp only [z0, z1] at h; subst h
                refine s_skipY 63 rfl rfl y19 rfl ?_
                refine nr ?_; intro U h; simp only [z0, z1] at h; subst h
                refine s_skipY 64 rfl rfl y19 rfl ?_
                refine nr ?_; intro U h; simp only [z0, z1] at h; subst h
                refine s_skipY 65 rfl rfl y19 rfl ?_
                refine nr ?_; intro U h; simp only [z0, z1] at h; subst h
                refine s_skipY 66 rfl rfl y19 rfl ?_
                refine nr ?_; intro U h; simp only [z0, z1] at h; subst h
                refine s_gvalY 67 rfl rfl y1 rfl (.bool false) (rfl) ?_
                refine nr ?_; intro U h; simp only [z0, z1] at h; subst h
                refine s_val 68 rfl rfl (.bool false) (rfl) ?_
                refine nr ?_; intro U h; simp only [z0, z1] at h; subst h
                refine s_val 6 rfl rfl (.bool false) (rfl) ?_
                refine nr ?_; intro U h; simp only [z0, z1] at h; subst h
                refine wpList_nil ?_
                refine blk_n ?_
                refine then_n ?_
                refine wp_region_lit ?_
                refine s_val 69 rfl rfl (.int .i64 ((i + 1 : Nat) : Int)) (run_addI 3 _ _ _ rfl ((i : Nat) : Int) 1 ((i + 1 : Nat) : Int) rfl rfl (by omega) (by omega) (by omega) _) ?_
                refine nr ?_; intro U h; simp only [z0, z1] at h; subst h
                refine s_val 22 rfl rfl (.int .i64 ((i + 1 : Nat) : Int)) (rfl) ?_
                refine nr ?_; intro U h; simp only [z0, z1] at h; subst h
                refine wpList_nil ?_
                refine then_n ?_
                exact ⟨l.length + 1 - (i + 1), by omega, i + 1, false, (fun kz => ([us1 0, .pointer (some ⟨g3, 0, none⟩), .bool true, .pointer (pK kH ao i 0), .agg (hdA (l.getD i zH)), .pointer (some ⟨g3, 17, none⟩), .int .i64 (l.getD i zH).far, .bool true, .bool true, .pointer (some ⟨g3, 17, none⟩), .int .i64 (l.getD i zH).far, .bool false, .bool false, .bool false, undef, undef, undef, undef, undef, .bool false, .bool false, .bool false, .pointer (some ⟨g3, 0, none⟩), .int .i64 (l.getD i zH).n, .pointer (some ⟨g2, 0, none⟩), .int .i64 (bestH s l).n, .bool true, .bool true, .pointer (some ⟨g3, 1, none⟩), .agg (idA (l.getD i zH).id), .pointer (some ⟨g2, 1, none⟩), .agg (idA (bestH s l).id), .bool true, .bool true, .bool true, .pointer (some ⟨g3, 17, none⟩), .int .i64 (l.getD i zH).far, .bool false, .bool false, .bool false, undef, undef, undef, undef, undef, undef, .bool false, .bool false, .int .i64 ((i + 1 : Nat) : Int)] : List Value).getD kz undef), rfl, rfl, by omega, GG, kg1, kg2, told_step hT (fun c => of_decide_eq_false e3 c.2.2.1)⟩
              · have hf := (atH HL hil).far
                have hf1 := hf.1
                have hf3 := of_decide_eq_true e3
                cases e4 : decide ((l.getD i zH).far + 1 = (bestH s l).far)
                · refine wp_region_opq ?_
                  intro OPS hY
                  have y1 := hY 1 42 rfl
                  have y7 := hY 7 48 rfl
                  have y14 := hY 14 55 rfl
                  have y19 := hY 19 60 rfl
                  clear hY
                  refine s_val 41 rfl rfl (.bool false) (rfl) ?_
                  refine nr ?_; intro U h; simp only [z0, z1] at h; subst h
                  refine s_val 42 rfl rfl (.bool false) (rfl) ?_
                  refine nr ?_; intro U h; simp only [z0, z1] at h; subst h
                  refine s_gvalY 43 rfl rfl y1 rfl (.pointer (some ⟨g3, 0, none⟩)) (run_fld 26 _ 0 rfl g3 0 rfl 0 (by kernel_rfl)) ?_
                  refine nr ?_; intro U h; simp only [z0, z1] at h; subst h
                  refine s_gvalY 44 rfl rfl y1 rfl (.int .i64 (l.getD i zH).n) (ldHn _ rfl g3 rfl (kg3)) ?_
                  refine nr ?_; intro U h; simp only [z0, z1] at h; subst h
                  refine s_gvalY 45 rfl rfl y1 rfl (.pointer (some ⟨g2, 0, none⟩)) (run_fld 26 _ 0 rfl g2 0 rfl 0 (by kernel_rfl)) ?_
                  refine nr ?_; intro U h; simp only [z0, z1] at h; subst h
                  refine s_gvalY 46 rfl rfl y1 rfl (.int .i64 (bestH s l).n) (ldHn _ rfl g2 rfl (kg2)) ?_
                  refine nr ?_; intro U h; simp only [z0, z1] at h; subst h
                  refine s_gvalY 47 rfl rfl y1 rfl (.bool true) (run_eq_k 3 .i64 _ _ _ rfl Try.underlying3 (l.getD i zH).n (bestH s l).n rfl rfl true e1 _) ?_
                  refine nr ?_; intro U h; simp only [z0, z1] at h; subst h
                  refine s_gvalY 48 rfl rfl y1 rfl (.bool true) (rfl) ?_
                  refine nr ?_; intro U h; simp only [z0, z1] at h; subst h
                  refine s_gvalY 49 rfl rfl y7 rfl (.pointer (some ⟨g3, 1, none⟩)) (run_fld 26 _ 1 rfl g3 0 rfl 1 (by kernel_rfl)) ?_
                  refine nr ?_; intro U h; simp only [z0, z1] at h; subst h
                  refine s_gvalY 50 rfl rfl y7 rfl (.agg (idA (l.getD i zH).id)) (ldHi _ rfl g3 rfl (kg3)) ?_
                  refine nr ?_; intro U h; simp only [z0, z1] at h; subst h
                  refine s_gvalY 51 rfl rfl y7 rfl (.pointer (some ⟨g2, 1, none⟩)) (run_fld 26 _ 1 rfl g2 0 rfl 1 (by kernel_rfl)) ?_
                  refine nr ?_; intro U h; simp only [z0, z1] at h; subst h
                  refine s_gvalY 52 rfl rfl y7 rfl (.agg (idA (bestH s l).id)) (ldHi _ rfl g2 rfl (kg2)) ?_
                  refine nr ?_; intro U h; simp only [z0, z1] at h; subst h
                  refine s_gvalY 53 rfl rfl y7 rfl (.bool true) (run_eqI _ _ _ rfl _ _ rfl rfl (atH HL hil).id hbok.id true e2) ?_
                  refine nr ?_; intro U h; simp only [z0, z1] at h; subst h
                  refine s_gvalY 54 rfl rfl y1 rfl (.bool true) (rfl) ?_
                  refine nr ?_; intro U h; simp only [z0, z1] at h; subst h
                  refine s_gvalY 55 rfl rfl y1 rfl (.bool true) (rfl) ?_
                  refine nr ?_; intro U h; simp only [z0, z1] at h; subst h
                  refine s_gvalY 56 rfl rfl y14 rfl (.pointer (some ⟨g3, 17, none⟩)) (run_fld 26 _ 2 rfl g3 0 rfl 17 (by kernel_rfl)) ?_
                  refine nr ?_; intro U h; simp only [z0, z1] at h; subst h
                  refine s_gvalY 57 rfl rfl y14 rfl (.int .i64 (l.getD i zH).far) (ldHf _ rfl g3 rfl (kg3)) ?_
                  refine nr ?_; intro U h; simp only [z0, z1] at h; subst h
                  refine s_gvalY 58 rfl rfl y14 rfl (.bool true) (run_lssT 2 _ _ _ rfl (l.getD i zH).far 6 rfl rfl true e3 _) ?_
                  refine nr ?_; intro U h; simp only [z0, z1] at h; subst h
                  refine s_gvalY 59 rfl rfl y1 rfl (.bool true) (rfl) ?_
                  refine nr ?_; intro U h; simp only [z0, z1] at h; subst h
                  refine s_gvalY 60 rfl rfl y1 rfl (.bool true) (rfl) ?_
                  refine nr ?_; intro U h; simp only [z0, z1] at h; subst h
                  refine s_gvalY 61 rfl rfl y19 rfl (.pointer (some ⟨g3, 17, none⟩)) (run_fld 26 _ 2 rfl g3 0 rfl 17 (by kernel_rfl)) ?_
                  refine nr ?_; intro U h; simp only [z0, z1] at h; subst h
                  refine s_gvalY 62 rfl rfl y19 rfl (.int .i64 (l.getD i zH).far) (ldHf _ rfl g3 rfl (kg3)) ?_
                  refine nr ?_; intro U h; simp only [z0, z1] at h; subst h
                  refine s_gvalY 63 rfl rfl y19 rfl (.int .i64 ((l.getD i zH).far + 1)) (run_addI 2 _ _ _ rfl (l.getD i zH).far 1 ((l.getD i zH).far + 1) rfl rfl (by omega) (by omega) (by omega) _) ?_
                  refine nr ?_; intro U h; simp only [z0, z1] at h; subst h
                  refine s_gvalY 64 rfl rfl y19 rfl (.pointer (some ⟨g2, 17, none⟩)) (run_fld 26 _ 2 rfl g2 0 rfl 17 (by kernel_rfl)) ?_
                  refine nr ?_; intro U h; simp only [z0, z1] at h; subst h
                  refine s_gvalY 65 rfl rfl y19 rfl (.int .i64 (bestH s l).far) (ldHf _ rfl g2 rfl (kg2)) ?_
                  refine nr ?_; intro U h; simp only [z0, z1] at h; subst h
                  refine s_gvalY 66 rfl rfl y19 rfl (.bool false) (run_eq_k 2 .i64 _ _ _ rfl Try.underlying2 ((l.getD i zH).far + 1) (bestH s l).far rfl rfl false e4 _) ?_
                  refine nr ?_; intro U h; simp only [z0, z1] at h; subst h
                  refine s_gvalY 67 rfl rfl y1 rfl (.bool false) (rfl) ?_
                  refine nr ?_; intro U h; simp only [z0, z1] at h; subst h
                  refine s_val 68 rfl rfl (.bool false) (rfl) ?_
                  refine nr ?_; intro U h; simp only [z0, z1] at h; subst h
                  refine s_val 6 rfl rfl (.bool false) (rfl) ?_
                  refine nr ?_; intro U h; simp only [z0, z1] at h; subst h
                  refine wpList_nil ?_
                  refine blk_n ?_
                  refine then_n ?_
                  refine wp_region_lit ?_
                  refine s_val 69 rfl rfl (.int .i64 ((i + 1 : Nat) : Int)) (run_addI 3 _ _ _ rfl ((i : Nat) : Int) 1 ((i + 1 : Nat) : Int) rfl rfl (by omega) (by omega) (by omega) _) ?_
                  refine nr ?_; intro U h; simp only [z0, z1] at h; subst h
                  refine s_val 22 rfl rfl (.int .i64 ((i + 1 : Nat) : Int)) (rfl) ?_
                  refine nr ?_; intro U h; simp only [z0, z1] at h; subst h
                  refine wpList_nil ?_
                  refine then_n ?_
                  exact ⟨l.length + 1 - (i + 1), by omega, i + 1, false, (fun kz => ([us1 0, .pointer (some ⟨g3, 0, none⟩), .bool true, .pointer (pK kH ao i 0), .agg (hdA (l.getD i zH)), .pointer (some ⟨g3, 17, none⟩), .int .i64 (l.getD i zH).far, .bool true, .bool true, .pointer (some ⟨g3, 17, none⟩), .int .i64 (l.getD i zH).far, .bool false, .bool false, .bool false, undef, undef, undef, undef, undef, .bool false, .bool false, .bool false, .pointer (some ⟨g3, 0, none⟩), .int .i64 (l.getD i zH).n, .pointer (some ⟨g2, 0, none⟩), .int .i64 (bestH s l).n, .bool true, .bool true, .pointer (some ⟨g3, 1, none⟩), .agg (idA (l.getD i zH).id), .pointer (some ⟨g2, 1, none⟩), .agg (idA (bestH s l).id), .bool true, .bool true, .bool true, .pointer (some ⟨g3, 17, none⟩), .int .i64 (l.getD i zH).far, .bool true, .bool true, .bool true, .pointer (some ⟨g3, 17, none⟩), .int .i64 (l.getD i zH).far, .int .i64 ((l.getD i zH).far + 1), .pointer (some ⟨g2, 17, none⟩), .int .i64 (bestH s l).far, .bool false, .bool false, .bool false, .int .i64 ((i + 1 : Nat) : Int)] : List Value).getD kz undef), rfl, rfl, by omega, GG, kg1, kg2, told_step hT (fun c => of_decide_eq_false e4 c.2.2.2)⟩
                · refine wp_region_opq ?_
                  intro OPS hY
                  have y1 := hY 1 42 rfl
                  have y7 := hY 7 48 rfl
                  have y14 := hY 14 55 rfl
                  have y19 := hY 19 60 rfl
                  clear hY
                  refine s_val 41 rfl rfl (.bool false) (rfl) ?_
                  refine nr ?_; intro U h; simp only [z0, z1] at h; subst h
                  refine s_val 42 rfl rfl (.bool false) (rfl) ?_
                  refine nr ?_; intro U h; simp only [z0, z1] at h; subst h
                  refine s_gvalY 43 rfl rfl y1 rfl (.pointer (some ⟨g3, 0, none⟩)) (run_fld 26 _ 0 rfl g3 0 rfl 0 (by kernel_rfl)) ?_
                  refine nr ?_; intro U h; simp only [z0, z1] at h; subst h
                  refine s_gvalY 44 rfl rfl y1 rfl (.int .i64 (l.getD i zH).n) (ldHn _ rfl g3 rfl (kg3)) ?_
                  refine nr ?_; intro U h; simp only [z0, z1] at h; subst h
                  refine s_gvalY 45 rfl rfl y1 rfl (.pointer (some ⟨g2, 0, none⟩)) (run_fld 26 _ 0 rfl g2 0 rfl 0 (by kernel_rfl)) ?_
                  refine nr ?_; intro U h; simp only [z0, z1] at h; subst h
                  refine s_gvalY 46 rfl rfl y1 rfl (.int .i64 (bestH s l).n) (ldHn _ rfl g2 rfl (kg2)) ?_
                  refine nr ?_; intro U h; simp only [z0, z1] at h; subst h
                  refine s_gvalY 47 rfl rfl y1 rfl (.bool true) (run_eq_k 3 .i64 _ _ _ rfl Try.underlying3 (l.getD i zH).n (bestH s l).n rfl rfl true e1 _) ?_
                  refine nr ?_; intro U h; simp only [z0, z1] at h; subst h
                  refine s_gvalY 48 rfl rfl y1 rfl (.bool true) (rfl) ?_
                  refine nr ?_; intro U h; simp only [z0, z1] at h; subst h
                  refine s_gvalY 49 rfl rfl y7 rfl (.pointer (some ⟨g3, 1, none⟩)) (run_fld 26 _ 1 rfl g3 0 rfl 1 (by kernel_rfl)) ?_
                  refine nr ?_; intro U h; simp only [z0, z1] at h; subst h
                  refine s_gvalY 50 rfl rfl y7 rfl (.agg (idA (l.getD i zH).id)) (ldHi _ rfl g3 rfl (kg3)) ?_
                  refine nr ?_; intro U h; simp only [z0, z1] at h; subst h
                  refine s_gvalY 51 rfl rfl y7 rfl (.pointer (some ⟨g2, 1, none⟩)) (run_fld 26 _ 1 rfl g2 0 rfl 1 (by kernel_rfl)) ?_
                  refine nr ?_; intro U h; simp only [z0, z1] at h; subst h
                  refine s_gvalY 52 rfl rfl y7 rfl (.agg (idA (bestH s l).id)) (ldHi _ rfl g2 rfl (kg2)) ?_
                  refine nr ?_; intro U h; simp only [z0, z1] at h; subst h
                  refine s_gvalY 53 rfl rfl y7 rfl (.bool true) (run_eqI _ _ _ rfl _ _ rfl rfl (atH HL hil).id hbok.id true e2) ?_
                  refine nr ?_; intro U h; simp only [z0, z1] at h; subst h
                  refine s_gvalY 54 rfl rfl y1 rfl (.bool true) (rfl) ?_
                  refine nr ?_; intro U h; simp only [z0, z1] at h; subst h
                  refine s_gvalY 55 rfl rfl y1 rfl (.bool true) (rfl) ?_
                  refine nr ?_; intro U h; simp only [z0, z1] at h; subst h
                  refine s_gvalY 56 rfl rfl y14 rfl (.pointer (some ⟨g3, 17, none⟩)) (run_fld 26 _ 2 rfl g3 0 rfl 17 (by kernel_rfl)) ?_
                  refine nr ?_; intro U h; simp only [z0, z1] at h; subst h
                  refine s_gvalY 57 rfl rfl y14 rfl (.int .i64 (l.getD i zH).far) (ldHf _ rfl g3 rfl (kg3)) ?_
                  refine nr ?_; intro U h; simp only [z0, z1] at h; subst h
                  refine s_gvalY 58 rfl rfl y14 rfl (.bool true) (run_lssT 2 _ _ _ rfl (l.getD i zH).far 6 rfl rfl true e3 _) ?_
                  refine nr ?_; intro U h; simp only [z0, z1] at h; subst h
                  refine s_gvalY 59 rfl rfl y1 rfl (.bool true) (rfl) ?_
                  refine nr ?_; intro U h; simp only [z0, z1] at h; subst h
                  refine s_gvalY 60 rfl rfl y1 rfl (.bool true) (rfl) ?_
                  refine nr ?_; intro U h; simp only [z0, z1] at h; subst h
                  refine s_gvalY 61 rfl rfl y19 rfl (.pointer (some ⟨g3, 17, none⟩)) (run_fld 26 _ 2 rfl g3 0 rfl 17 (by kernel_rfl)) ?_
                  refine nr ?_; intro U h; simp only [z0, z1] at h; subst h
                  refine s_gvalY 62 rfl rfl y19 rfl (.int .i64 (l.getD i zH).far) (ldHf _ rfl g3 rfl (kg3)) ?_
                  refine nr ?_; intro U h; simp only [z0, z1] at h; subst h
                  refine s_gvalY 63 rfl rfl y19 rfl (.int .i64 ((l.getD i zH).far + 1)) (run_addI 2 _ _ _ rfl (l.getD i zH).far 1 ((l.getD i zH).far + 1) rfl rfl (by omega) (by omega) (by omega) _) ?_
                  refine nr ?_; intro U h; simp only [z0, z1] at h; subst h
                  refine s_gvalY 64 rfl rfl y19 rfl (.pointer (some ⟨g2, 17, none⟩)) (run_fld 26 _ 2 rfl g2 0 rfl 17 (by kernel_rfl)) ?_
                  refine nr ?_; intro U h; simp only [z0, z1] at h; subst h
                  refine s_gvalY 65 rfl rfl y19 rfl (.int .i64 (bestH s l).far) (ldHf _ rfl g2 rfl (kg2)) ?_
                  refine nr ?_; intro U h; simp only [z0, z1] at h; subst h
                  refine s_gvalY 66 rfl rfl y19 rfl (.bool true) (run_eq_k 2 .i64 _ _ _ rfl Try.underlying2 ((l.getD i zH).far + 1) (bestH s l).far rfl rfl true e4 _) ?_
                  refine nr ?_; intro U h; simp only [z0, z1] at h; subst h
                  refine s_gvalY 67 rfl rfl y1 rfl (.bool true) (rfl) ?_
                  refine nr ?_; intro U h; simp only [z0, z1] at h; subst h
                  refine s_val 68 rfl rfl (.bool true) (rfl) ?_
                  refine nr ?_; intro U h; simp only [z0, z1] at h; subst h
                  refine s_val 6 rfl rfl (.bool true) (rfl) ?_
                  refine nr ?_; intro U h; simp only [z0, z1] at h; subst h
                  refine wpList_nil ?_
                  refine blk_n ?_
                  refine then_n ?_
                  refine wp_region_lit ?_
                  refine s_val 69 rfl rfl (.int .i64 ((i + 1 : Nat) : Int)) (run_addI 3 _ _ _ rfl ((i : Nat) : Int) 1 ((i + 1 : Nat) : Int) rfl rfl (by omega) (by omega) (by omega) _) ?_
                  refine nr ?_; intro U h; simp only [z0, z1] at h; subst h
                  refine s_val 22 rfl rfl (.int .i64 ((i + 1 : Nat) : Int)) (rfl) ?_
                  refine nr ?_; intro U h; simp only [z0, z1] at h; subst h
                  refine wpList_nil ?_
                  refine then_n ?_
                  exact ⟨l.length + 1 - (i + 1), by omega, i + 1, true, (fun kz => ([us1 0, .pointer (some ⟨g3, 0, none⟩), .bool true, .pointer (pK kH ao i 0), .agg (hdA (l.getD i zH)), .pointer (some ⟨g3, 17, none⟩), .int .i64 (l.getD i zH).far, .bool true, .bool true, .pointer (some ⟨g3, 17, none⟩), .int .i64 (l.getD i zH).far, .bool false, .bool false, .bool false, undef, undef, undef, undef, undef, .bool false, .bool false, .bool false, .pointer (some ⟨g3, 0, none⟩), .int .i64 (l.getD i zH).n, .pointer (some ⟨g2, 0, none⟩), .int .i64 (bestH s l).n, .bool true, .bool true, .pointer (some ⟨g3, 1, none⟩), .agg (idA (l.getD i zH).id), .pointer (some ⟨g2, 1, none⟩), .agg (idA (bestH s l).id), .bool true, .bool true, .bool true, .pointer (some ⟨g3, 17, none⟩), .int .i64 (l.getD i zH).far, .bool true, .bool true, .bool true, .pointer (some ⟨g3, 17, none⟩), .int .i64 (l.getD i zH).far, .int .i64 ((l.getD i zH).far + 1), .pointer (some ⟨g2, 17, none⟩), .int .i64 (bestH s l).far, .bool true, .bool true, .bool true, .int .i64 ((i + 1 : Nat) : Int)] : List Value).getD kz undef), rfl, rfl, by omega, GG, kg1, kg2, .inl rfl⟩
        · have htb : tb = true := of_decide_eq_true ht
          subst htb
          refine wp_region_opq ?_
          intro OPS hY
          have y1 := hY 1 42 rfl
          have y7 := hY 7 48 rfl
          have y14 := hY 14 55 rfl
          have y19 := hY 19 60 rfl
          clear hY
          refine s_val 41 rfl rfl (.bool true) (rfl) ?_
          refine nr ?_; intro U h; simp only [z0, z1] at h; subst h
          refine s_val 42 rfl rfl (.bool true) (rfl) ?_
          refine nr ?_; intro U h; simp only [z0, z1] at h; subst h
          refine s_skipY 43 rfl rfl y1 rfl ?_
          refine nr ?_; intro U h; simp only [z0, z1] at h; subst h
          refine s_skipY 44 rfl rfl y1 rfl ?_
          refine nr ?_; intro U h; simp only [z0, z1] at h; subst h
          refine s_skipY 45 rfl rfl y1 rfl ?_
          refine nr ?_; intro U h; simp only [z0, z1] at h; subst h
          refine s_skipY 46 rfl rfl y1 rfl ?_
          refine nr ?_; intro U h; simp only [z0, z1] at h; subst h
          refine s_skipY 47 rfl rfl y1 rfl ?_
          refine nr ?_; intro U h; simp only [z0, z1] at h; subst h
          refine s_skipY 48 rfl rfl y1 rfl ?_
          refine nr ?_; intro U h; simp only [z0, z1] at h; subst h
          refine s_skipY 49 rfl rfl y7 rfl ?_
          refine nr ?_; intro U h; simp only [z0, z1] at h; subst h
          refine s_skipY 50 rfl rfl y7 rfl ?_
          refine nr ?_; intro U h; simp only [z0, z1] at h; subst h
          refine s_skipY 51 rfl rfl y7 rfl ?_
          refine nr ?_; intro U h; simp only [z0, z1] at h; subst h
          refine s_skipY 52 rfl rfl y7 rfl ?_
          refine nr ?_; intro U h; simp only [z0, z1] at h; subst h
          refine s_skipY 53 rfl rfl y7 rfl ?_
          refine nr ?_; intro U h; simp only [z0, z1] at h; subst h
          refine s_skipY 54 rfl rfl y1 rfl ?_
          refine nr ?_; intro U h; simp only [z0, z1] at h; subst h
          refine s_skipY 55 rfl rfl y1 rfl ?_
          refine nr ?_; intro U h; simp only [z0, z1] at h; subst h
          refine s_skipY 56 rfl rfl y14 rfl ?_
          refine nr ?_; intro U h; simp only [z0, z1] at h; subst h
          refine s_skipY 57 rfl rfl y14 rfl ?_
          refine nr ?_; intro U h; simp only [z0, z1] at h; subst h
          refine s_skipY 58 rfl rfl y14 rfl ?_
          refine nr ?_; intro U h; simp only [z0, z1] at h; subst h
          refine s_skipY 59 rfl rfl y1 rfl ?_
          refine nr ?_; intro U h; simp only [z0, z1] at h; subst h
          refine s_skipY 60 rfl rfl y1 rfl ?_
          refine nr ?_; intro U h; simp only [z0, z1] at h; subst h
          refine s_skipY 61 rfl rfl y19 rfl ?_
          refine nr ?_; intro U h; simp only [z0, z1] at h; subst h
          refine s_skipY 62 rfl rfl y19 rfl ?_
          refine nr ?_; intro U h; simp only [z0, z1] at h; subst h
          refine s_skipY 63 rfl rfl y19 rfl ?_
          refine nr ?_; intro U h; simp only [z0, z1] at h; subst h
          refine s_skipY 64 rfl rfl y19 rfl ?_
          refine nr ?_; intro U h; simp only [z0, z1] at h; subst h
          refine s_skipY 65 rfl rfl y19 rfl ?_
          refine nr ?_; intro U h; simp only [z0, z1] at h; subst h
          refine s_skipY 66 rfl rfl y19 rfl ?_
          refine nr ?_; intro U h; simp only [z0, z1] at h; subst h
          refine s_skipY 67 rfl rfl y1 rfl ?_
          refine nr ?_; intro U h; simp only [z0, z1] at h; subst h
          refine s_val 68 rfl rfl (.bool true) (rfl) ?_
          refine nr ?_; intro U h; simp only [z0, z1] at h; subst h
          refine s_val 6 rfl rfl (.bool true) (rfl) ?_
          refine nr ?_; intro U h; simp only [z0, z1] at h; subst h
          refine wpList_nil ?_
          refine blk_n ?_
          refine then_n ?_
          refine wp_region_lit ?_
          refine s_val 69 rfl rfl (.int .i64 ((i + 1 : Nat) : Int)) (run_addI 3 _ _ _ rfl ((i : Nat) : Int) 1 ((i + 1 : Nat) : Int) rfl rfl (by omega) (by omega) (by omega) _) ?_
          refine nr ?_; intro U h; simp only [z0, z1] at h; subst h
          refine s_val 22 rfl rfl (.int .i64 ((i + 1 : Nat) : Int)) (rfl) ?_
          refine nr ?_; intro U h; simp only [z0, z1] at h; subst h
          refine wpList_nil ?_
          refine then_n ?_
          exact ⟨l.length + 1 - (i + 1), by omega, i + 1, true, (fun kz => ([us1 0, .pointer (some ⟨g3, 0, none⟩), .bool true, .pointer (pK kH ao i 0), .agg (hdA (l.getD i zH)), .pointer (some ⟨g3, 17, none⟩), .int .i64 (l.getD i zH).far, .bool true, .bool true, .pointer (some ⟨g3, 17, none⟩), .int .i64 (l.getD i zH).far, .bool false, .bool false, .bool false, undef, undef, undef, undef, undef, .bool false, .bool true, .bool true, undef, undef, undef, undef, undef, undef, undef, undef, undef, undef, undef, undef, undef, undef, undef, undef, undef, undef, undef, undef, undef, undef, undef, undef, undef, .bool true, .int .i64 ((i + 1 : Nat) : Int)] : List Value).getD kz undef), rfl, rfl, by omega, GG, kg1, kg2, .inl rfl⟩
      · have hnr : hdNear (l.getD i zH) := ⟨of_decide_eq_true h1, of_decide_eq_true h2⟩
        refine wp_region_opq ?_
        intro OPS hY
        have y3 := hY 3 29 rfl
        have y8 := hY 8 34 rfl
        clear hY
        refine s_val 26 rfl rfl (.pointer (some ⟨g3, 17, none⟩)) (run_fld 26 _ 2 rfl g3 0 rfl 17 (by kernel_rfl)) ?_
        refine nr ?_; intro U h; simp only [z0, z1] at h; subst h
        refine s_val 27 rfl rfl (.int .i64 (l.getD i zH).far) (ldHf _ rfl g3 rfl (kg3)) ?_
        refine nr ?_; intro U h; simp only [z0, z1] at h; subst h
        refine s_val 28 rfl rfl (.bool true) (run_geqT 2 _ _ _ rfl (l.getD i zH).far 0 rfl rfl true h1 _) ?_
        refine nr ?_; intro U h; simp only [z0, z1] at h; subst h
        refine s_val 29 rfl rfl (.bool true) (rfl) ?_
        refine nr ?_; intro U h; simp only [z0, z1] at h; subst h
        refine s_gvalY 30 rfl rfl y3 rfl (.pointer (some ⟨g3, 17, none⟩)) (run_fld 26 _ 2 rfl g3 0 rfl 17 (by kernel_rfl)) ?_
        refine nr ?_; intro U h; simp only [z0, z1] at h; subst h
        refine s_gvalY 31 rfl rfl y3 rfl (.int .i64 (l.getD i zH).far) (ldHf _ rfl g3 rfl (kg3)) ?_
        refine nr ?_; intro U h; simp only [z0, z1] at h; subst h
        refine s_gvalY 32 rfl rfl y3 rfl (.bool true) (run_leqT 2 _ _ _ rfl (l.getD i zH).far 5 rfl rfl true h2 _) ?_
        refine nr ?_; intro U h; simp only [z0, z1] at h; subst h
        refine s_val 33 rfl rfl (.bool true) (rfl) ?_
        refine nr ?_; intro U h; simp only [z0, z1] at h; subst h
        refine s_val 34 rfl rfl (.bool true) (rfl) ?_
        refine nr ?_; intro U h; simp only [z0, z1] at h; subst h
        refine s_gvalY 35 rfl rfl y8 rfl (.pointer (some ⟨g3, 1, none⟩)) (run_fld 26 _ 1 rfl g3 0 rfl 1 (by kernel_rfl)) ?_
        refine nr ?_; intro U h; simp only [z0, z1] at h; subst h
        refine s_gvalY 36 rfl rfl y8 rfl (.agg (idA (l.getD i zH).id)) (ldHi _ rfl g3 rfl (kg3)) ?_
        refine nr ?_; intro U h; simp only [z0, z1] at h; subst h
        refine s_gvalY 37 rfl rfl y8 rfl (.pointer (some ⟨g2, 1, none⟩)) (run_fld 26 _ 1 rfl g2 0 rfl 1 (by kernel_rfl)) ?_
        refine nr ?_; intro U h; simp only [z0, z1] at h; subst h
        refine s_gvalY 38 rfl rfl y8 rfl (.agg (idA (bestH s l).id)) (ldHi _ rfl g2 rfl (kg2)) ?_
        refine nr ?_; intro U h; simp only [z0, z1] at h; subst h
        refine s_gcallvY 39 rfl rfl y8 rfl _ 17 Try.call17 rfl rfl _ rfl [.agg (idA (l.getD i zH).id), .agg (idA (bestH s l).id)] rfl (Calls.bool (less_any (l.getD i zH).id (bestH s l).id (atH HL hil).id hbok.id _) (decide_eq_false (by have := best_all (s := s) hil hnr; omega))) ?_
        intro w8 G
        replace kg1 := G.has kg1
        replace kg2 := G.has kg2
        replace kg3 := G.has kg3
        replace GG := GG.trans G
        clear G
        refine nr ?_; intro U h; simp only [z0, z1] at h; subst h
        refine s_val 40 rfl rfl (.bool false) (rfl) ?_
        refine nr ?_; intro U h; simp only [z0, z1] at h; subst h
        refine wpList_nil ?_
        refine then_n ?_
        refine wp_cond_false rfl ?_
        refine wp_skip ?_
        refine then_n ?_
        cases ht : decide (tb = true)
        · have htb : tb = false := Bool.eq_false_iff.2 (of_decide_eq_false ht)
          subst htb
          cases e1 : decide ((l.getD i zH).n = (bestH s l).n)
          · refine wp_region_opq ?_
            intro OPS hY
            have y1 := hY 1 42 rfl
            have y7 := hY 7 48 rfl
            have y14 := hY 14 55 rfl
            have y19 := hY 19 60 rfl
            clear hY
            refine s_val 41 rfl rfl (.bool false) (rfl) ?_
            refine nr ?_; intro U h; simp only [z0, z1] at h; subst h
            refine s_val 42 rfl rfl (.bool false) (rfl) ?_
            refine nr ?_; intro U h; simp only [z0, z1] at h; subst h
            refine s_gvalY 43 rfl rfl y1 rfl (.pointer (some ⟨g3, 0, none⟩)) (run_fld 26 _ 0 rfl g3 0 rfl 0 (by kernel_rfl)) ?_
            refine nr ?_; intro U h; simp only [z0, z1] at h; subst h
            refine s_gvalY 44 rfl rfl y1 rfl (.int .i64 (l.getD i zH).n) (ldHn _ rfl g3 rfl (kg3)) ?_
            refine nr ?_; intro U h; simp only [z0, z1] at h; subst h
            refine s_gvalY 45 rfl rfl y1 rfl (.pointer (some ⟨g2, 0, none⟩)) (run_fld 26 _ 0 rfl g2 0 rfl 0 (by kernel_rfl)) ?_
            refine nr ?_; intro U h; simp only [z0, z1] at h; subst h
            refine s_gvalY 46 rfl rfl y1 rfl (.int .i64 (bestH s l).n) (ldHn _ rfl g2 rfl (kg2)) ?_
            refine nr ?_; intro U h; simp only [z0, z1] at h; subst h
            refine s_gvalY 47 rfl rfl y1 rfl (.bool false) (run_eq_k 3 .i64 _ _ _ rfl Try.underlying3 (l.getD i zH).n (bestH s l).n rfl rfl false e1 _) ?_
            refine nr ?_; intro U h; simp only [z0, z1] at h; subst h
            refine s_gvalY 48 rfl rfl y1 rfl (.bool false) (rfl) ?_
            refine nr ?_; intro U h; simp only [z0, z1] at h; subst h
            refine s_skipY 49 rfl rfl y7 rfl ?_
            refine nr ?_; intro U h; simp only [z0, z1] at h; subst h
            refine s_skipY 50 rfl rfl y7 rfl ?_
            refine nr ?_; intro U h; simp only [z0, z1] at h; subst h
            refine s_skipY 51 rfl rfl y7 rfl ?_
            refine nr ?_; intro U h; simp only [z0, z1] at h; subst h
            refine s_skipY 52 rfl rfl y7 rfl ?_
            refine nr ?_; intro U h; simp only [z0, z1] at h; subst h
            refine s_skipY 53 rfl rfl y7 rfl ?_
            refine nr ?_; intro U h; simp only [z0, z1] at h; subst h
            refine s_gvalY 54 rfl rfl y1 rfl (.bool false) (rfl) ?_
            refine nr ?_; intro U h; simp only [z0, z1] at h; subst h
            refine s_gvalY 55 rfl rfl y1 rfl (.bool false) (rfl) ?_
            refine nr ?_; intro U h; simp only [z0, z1] at h; subst h
            refine s_skipY 56 rfl rfl y14 rfl ?_
            refine nr ?_; intro U h; simp only [z0, z1] at h; subst h
            refine s_skipY 57 rfl rfl y14 rfl ?_
            refine nr ?_; intro U h; simp only [z0, z1] at h; subst h
            refine s_skipY 58 rfl rfl y14 rfl ?_
            refine nr ?_; intro U h; simp only [z0, z1] at h; subst h
            refine s_gvalY 59 rfl rfl y1 rfl (.bool false) (rfl) ?_
            refine nr ?_; intro U h; simp only [z0, z1] at h; subst h
            refine s_gvalY 60 rfl rfl y1 rfl (.bool false) (rfl) ?_
            refine nr ?_; intro U h; simp only [z0, z1] at h; subst h
            refine s_skipY 61 rfl rfl y19 rfl ?_
            refine nr ?_; intro U h; simp only [z0, z1] at h; subst h
            refine s_skipY 62 rfl rfl y19 rfl ?_
            refine nr ?_; intro U h; simp only [z0, z1] at h; subst h
            refine s_skipY 63 rfl rfl y19 rfl ?_
            refine nr ?_; intro U h; simp only [z0, z1] at h; subst h
            refine s_skipY 64 rfl rfl y19 rfl ?_
            refine nr ?_; intro U h; simp only [z0, z1] at h; subst h
            refine s_skipY 65 rfl rfl y19 rfl ?_
            refine nr ?_; intro U h; simp only [z0, z1] at h; subst h
            refine s_skipY 66 rfl rfl y19 rfl ?_
            refine nr ?_; intro U h; simp only [z0, z1] at h; subst h
            refine s_gvalY 67 rfl rfl y1 rfl (.bool false) (rfl) ?_
            refine nr ?_; intro U h; simp only [z0, z1] at h; subst h
            refine s_val 68 rfl rfl (.bool false) (rfl) ?_
            refine nr ?_; intro U h; simp only [z0, z1] at h; subst h
            refine s_val 6 rfl rfl (.bool false) (rfl) ?_
            refine nr ?_; intro U h; simp only [z0, z1] at h; subst h
            refine wpList_nil ?_
            refine blk_n ?_
            refine then_n ?_
            refine wp_region_lit ?_
            refine s_val 69 rfl rfl (.int .i64 ((i + 1 : Nat) : Int)) (run_addI 3 _ _ _ rfl ((i : Nat) : Int) 1 ((i + 1 : Nat) : Int) rfl rfl (by omega) (by omega) (by omega) _) ?_
            refine nr ?_; intro U h; simp only [z0, z1] at h; subst h
            refine s_val 22 rfl rfl (.int .i64 ((i + 1 : Nat) : Int)) (rfl) ?_
            refine nr ?_; intro U h; simp only [z0, z1] at h; subst h
            refine wpList_nil ?_
            refine then_n ?_
            exact ⟨l.length + 1 - (i + 1), by omega, i + 1, false, (fun kz => ([us1 0, .pointer (some ⟨g3, 0, none⟩), .bool true, .pointer (pK kH ao i 0), .agg (hdA (l.getD i zH)), .pointer (some ⟨g3, 17, none⟩), .int .i64 (l.getD i zH).far, .bool true, .bool true, .pointer (some ⟨g3, 17, none⟩), .int .i64 (l.getD i zH).far, .bool true, .bool true, .bool true, .pointer (some ⟨g3, 1, none⟩), .agg (idA (l.getD i zH).id), .pointer (some ⟨g2, 1, none⟩), .agg (idA (bestH s l).id), .bool false, .bool false, .bool false, .bool false, .pointer (some ⟨g3, 0, none⟩), .int .i64 (l.getD i zH).n, .pointer (some ⟨g2, 0, none⟩), .int .i64 (bestH s l).n, .bool false, .bool false, undef, undef, undef, undef, undef, .bool false, .bool false, undef, undef, undef, .bool false, .bool false, undef, undef, undef, undef, undef, undef, .bool false, .bool false, .int .i64 ((i + 1 : Nat) : Int)] : List Value).getD kz undef), rfl, rfl, by omega, GG, kg1, kg2, told_step hT (fun c => of_decide_eq_false e1 c.1)⟩
          · cases e2 : decide ((l.getD i zH).id = (bestH s l).id)
            · refine wp_region_opq ?_
              intro OPS hY
              have y1 := hY 1 42 rfl
              have y7 := hY 7 48 rfl
              have y14 := hY 14 55 rfl
              have y19 := hY 19 60 rfl
              clear hY
              refine s_val 41 rfl rfl (.bool false) (rfl) ?_
              refine nr ?_; intro U h; simp only [z0, z1] at h; subst h
              refine s_val 42 rfl rfl (.bool false) (rfl) ?_
              refine nr ?_; intro U h; simp only [z0, z1] at h; subst h
              refine s_gvalY 43 rfl rfl y1 rfl (.pointer (some ⟨g3, 0, none⟩)) (run_fld 26 _ 0 rfl g3 0 rfl 0 (by kernel_rfl)) ?_
              refine nr ?_; intro U h; simp only [z0, z1] at h; subst h
              refine s_gvalY 44 rfl rfl y1 rfl (.int .i64 (l.getD i zH).n) (ldHn _ rfl g3 rfl (kg3)) ?_
              refine nr ?_; intro U h; simp only [z0, z1] at h; subst h
              refine s_gvalY 45 rfl rfl y1 rfl (.pointer (some ⟨g2, 0, none⟩)) (run_fld 26 _ 0 rfl g2 0 rfl 0 (by kernel_rfl)) ?_
              refine nr ?_; intro U h; simp only [z0, z1] at h; subst h
              refine s_gvalY 46 rfl rfl y1 rfl (.int .i64 (bestH s l).n) (ldHn _ rfl g2 rfl (kg2)) ?_
              refine nr ?_; intro U h; simp only [z0, z1] at h; subst h
              refine s_gvalY 47 rfl rfl y1 rfl (.bool true) (run_eq_k 3 .i64 _ _ _ rfl Try.underlying3 (l.getD i zH).n (bestH s l).n rfl rfl true e1 _) ?_
              refine nr ?_; intro U h; simp only [z0, z1] at h; subst h
              refine s_gvalY 48 rfl rfl y1 rfl (.bool true) (rfl) ?_
              refine nr ?_; intro U h; simp only [z0, z1] at h; subst h
              refine s_gvalY 49 rfl rfl y7 rfl (.pointer (some ⟨g3, 1, none⟩)) (run_fld 26 _ 1 rfl g3 0 rfl 1 (by kernel_rfl)) ?_
              refine nr ?_; intro U h; simp only [z0, z1] at h; subst h
              refine s_gvalY 50 rfl rfl y7 rfl (.agg (idA (l.getD i zH).id)) (ldHi _ rfl g3 rfl (kg3)) ?_
              refine nr ?_; intro U h; simp only [z0, z1] at h; subst h
              refine s_gvalY 51 rfl rfl y7 rfl (.pointer (some ⟨g2, 1, none⟩)) (run_fld 26 _ 1 rfl g2 0 rfl 1 (by kernel_rfl)) ?_
              refine nr ?_; intro U h; simp only [z0, z1] at h; subst h
              refine s_gvalY 52 rfl rfl y7 rfl (.agg (idA (bestH s l).id)) (ldHi _ rfl g2 rfl (kg2)) ?_
              refine nr ?_; intro U h; simp only [z0, z1] at h; subst h
              refine s_gvalY 53 rfl rfl y7 rfl (.bool false) (run_eqI _ _ _ rfl _ _ rfl rfl (atH HL hil).id hbok.id false e2) ?_
              refine nr ?_; intro U h; simp only [z0, z1] at h; subst h
              refine s_gvalY 54 rfl rfl y1 rfl (.bool false) (rfl) ?_
              refine nr ?_; intro U h; simp only [z0, z1] at h; subst h
              refine s_gvalY 55 rfl rfl y1 rfl (.bool false) (rfl) ?_
              refine nr ?_; intro U h; simp only [z0, z1] at h; subst h
              refine s_skipY 56 rfl rfl y14 rfl ?_
              refine nr ?_; intro U h; simp only [z0, z1] at h; subst h
              refine s_skipY 57 rfl rfl y14 rfl ?_
              refine nr ?_; intro U h; simp only [z0, z1] at h; subst h
              refine s_skipY 58 rfl rfl y14 rfl ?_
              refine nr ?_; intro U h; simp only [z0, z1] at h; subst h
              refine s_gvalY 59 rfl rfl y1 rfl (.bool false) (rfl) ?_
              refine nr ?_; intro U h; simp only [z0, z1] at h; subst h
              refine s_gvalY 60 rfl rfl y1 rfl (.bool false) (rfl) ?_
              refine nr ?_; intro U h; simp only [z0, z1] at h; subst h
              refine s_skipY 61 rfl rfl y19 rfl ?_
              refine nr ?_; intro U h; simp only [z0, z1] at h; subst h
              refine s_skipY 62 rfl rfl y19 rfl ?_
              refine nr ?_; intro U h; simp only [z0, z1] at h; subst h
              refine s_skipY 63 rfl rfl y19 rfl ?_
              refine nr ?_; intro U h; simp only [z0, z1] at h; subst h
              refine s_skipY 64 rfl rfl y19 rfl ?_
              refine nr ?_; intro U h; simp only [z0, z1] at h; subst h
              refine s_skipY 65 rfl rfl y19 rfl ?_
              refine nr ?_; intro U h; simp only [z0, z1] at h; subst h
              refine s_skipY 66 rfl rfl y19 rfl ?_
              refine nr ?_; intro U h; simp only [z0, z1] at h; subst h
              refine s_gvalY 67 rfl rfl y1 rfl (.bool false) (rfl) ?_
              refine nr ?_; intro U h; simp only [z0, z1] at h; subst h
              refine s_val 68 rfl rfl (.bool false) (rfl) ?_
              refine nr ?_; intro U h; simp only [z0, z1] at h; subst h
              refine s_val 6 rfl rfl (.bool false) (rfl) ?_
              refine nr ?_; intro U h; simp only [z0, z1] at h; subst h
              refine wpList_nil ?_
              refine blk_n ?_
              refine then_n ?_
              refine wp_region_lit ?_
              refine s_val 69 rfl rfl (.int .i64 ((i + 1 : Nat) : Int)) (run_addI 3 _ _ _ rfl ((i : Nat) : Int) 1 ((i + 1 : Nat) : Int) rfl rfl (by omega) (by omega) (by omega) _) ?_
              refine nr ?_; intro U h; simp only [z0, z1] at h; subst h
              refine s_val 22 rfl rfl (.int .i64 ((i + 1 : Nat) : Int)) (rfl) ?_
              refine nr ?_; intro U h; simp only [z0, z1] at h; subst h
              refine wpList_nil ?_
              refine then_n ?_
              exact ⟨l.length + 1 - (i + 1), by omega, i + 1, false, (fun kz => ([us1 0, .pointer (some ⟨g3, 0, none⟩), .bool true, .pointer (pK kH ao i 0), .agg (hdA (l.getD i zH)), .pointer (some ⟨g3, 17, none⟩), .int .i64 (l.getD i zH).far, .bool true, .bool true, .pointer (some ⟨g3, 17, none⟩), .int .i64 (l.getD i zH).far, .bool true, .bool true, .bool true, .pointer (some ⟨g3, 1, none⟩), .agg (idA (l.getD i zH).id), .pointer (some ⟨g2, 1, none⟩), .agg (idA (bestH s l).id), .bool false, .bool false, .bool false, .bool false, .pointer (some ⟨g3, 0, none⟩), .int .i64 (l.getD i zH).n, .pointer (some ⟨g2, 0, none⟩), .int .i64 (bestH s l).n, .bool true, .bool true, .pointer (some ⟨g3, 1, none⟩), .agg (idA (l.getD i zH).id), .pointer (some ⟨g2, 1, none⟩), .agg (idA (bestH s l).id), .bool false, .bool false, .bool false, undef, undef, undef, .bool false, .bool false, undef, undef, undef, undef, undef, undef, .bool false, .bool false, .int .i64 ((i + 1 : Nat) : Int)] : List Value).getD kz undef), rfl, rfl, by omega, GG, kg1, kg2, told_step hT (fun c => of_decide_eq_false e2 c.2.1)⟩
            · cases e3 : decide ((l.getD i zH).far < 6)
              · refine wp_region_opq ?_
                intro OPS hY
                have y1 := hY 1 42 rfl
                have y7 := hY 7 48 rfl
                have y14 := hY 14 55 rfl
                have y19 := hY 19 60 rfl
                clear hY
                refine s_val 41 rfl rfl (.bool false) (rfl) ?_
                refine nr ?_; intro U h; simp only [z0, z1] at h; subst h
                refine s_val 42 rfl rfl (.bool false) (rfl) ?_
                refine nr ?_; intro U h; simp only [z0, z1] at h; subst h
                refine s_gvalY 43 rfl rfl y1 rfl (.pointer (some ⟨g3, 0, none⟩)) (run_fld 26 _ 0 rfl g3 0 rfl 0 (by kernel_rfl)) ?_
                refine nr ?_; intro U h; simp only [z0, z1] at h; subst h
                refine s_gvalY 44 rfl rfl y1 rfl (.int .i64 (l.getD i zH).n) (ldHn _ rfl g3 rfl (kg3)) ?_
                refine nr ?_; intro U h; simp only [z0, z1] at h; subst h
                refine s_gvalY 45 rfl rfl y1 rfl (.pointer (some ⟨g2, 0, none⟩)) (run_fld 26 _ 0 rfl g2 0 rfl 0 (by kernel_rfl)) ?_
                refine nr ?_; intro U h; simp only [z0, z1] at h; subst h
                refine s_gvalY 46 rfl rfl y1 rfl (.int .i64 (bestH s l).n) (ldHn _ rfl g2 rfl (kg2)) ?_
                refine nr ?_; intro U h; simp only [z0, z1] at h; subst h
                refine s_gvalY 47 rfl rfl y1 rfl (.bool true) (run_eq_k 3 .i64 _ _ _ rfl Try.underlying3 (l.getD i zH).n (bestH s l).n rfl rfl true e1 _) ?_
                refine nr ?_; intro U h; simp only [z0, z1] at h; subst h
                refine s_gvalY 48 rfl rfl y1 rfl (.bool true) (rfl) ?_
                refine nr ?_; intro U h; simp only [z0, z1] at h; subst h
                refine s_gvalY 49 rfl rfl y7 rfl (.pointer (some ⟨g3, 1, none⟩)) (run_fld 26 _ 1 rfl g3 0 rfl 1 (by kernel_rfl)) ?_
                refine nr ?_; intro U h; simp only [z0, z1] at h; subst h
                refine s_gvalY 50 rfl rfl y7 rfl (.agg (idA (l.getD i zH).id)) (ldHi _ rfl g3 rfl (kg3)) ?_
                refine nr ?_; intro U h; simp only [z0, z1] at h; subst h
                refine s_gvalY 51 rfl rfl y7 rfl (.pointer (some ⟨g2, 1, none⟩)) (run_fld 26 _ 1 rfl g2 0 rfl 1 (by kernel_rfl)) ?_
                refine nr ?_; intro U h; simp only [z0, z1] at h; subst h
                refine s_gvalY 52 rfl rfl y7 rfl (.agg (idA (bestH s l).id)) (ldHi _ rfl g2 rfl (kg2)) ?_
                refine nr ?_; intro U h; simp only [z0, z1] at h; subst h
                refine s_gvalY 53 rfl rfl y7 rfl (.bool true) (run_eqI _ _ _ rfl _ _ rfl rfl (atH HL hil).id hbok.id true e2) ?_
                refine nr ?_; intro U h; simp only [z0, z1] at h; subst h
                refine s_gvalY 54 rfl rfl y1 rfl (.bool true) (rfl) ?_
                refine nr ?_; intro U h; simp only [z0, z1] at h; subst h
                refine s_gvalY 55 rfl rfl y1 rfl (.bool true) (rfl) ?_
                refine nr ?_; intro U h; simp only [z0, z1] at h; subst h
                refine s_gvalY 56 rfl rfl y14 rfl (.pointer (some ⟨g3, 17, none⟩)) (run_fld 26 _ 2 rfl g3 0 rfl 17 (by kernel_rfl)) ?_
                refine nr ?_; intro U h; simp only [z0, z1] at h; subst h
                refine s_gvalY 57 rfl rfl y14 rfl (.int .i64 (l.getD i zH).far) (ldHf _ rfl g3 rfl (kg3)) ?_
                refine nr ?_; intro U h; simp only [z0, z1] at h; subst h
                refine s_gvalY 58 rfl rfl y14 rfl (.bool false) (run_lssT 2 _ _ _ rfl (l.getD i zH).far 6 rfl rfl false e3 _) ?_
                refine nr ?_; intro U h; simp only [z0, z1] at h; subst h
                refine s_gvalY 59 rfl rfl y1 rfl (.bool false) (rfl) ?_
                refine nr ?_; intro U h; simp only [z0, z1] at h; subst h
                refine s_gvalY 60 rfl rfl y1 rfl (.bool false) (rfl) ?_
                refine nr ?_; intro U h; simp only [z0, z1] at h; subst h
                refine s_skipY 61 rfl rfl y19 rfl ?_
                refine nr ?_; intro U h; simp only [z0, z1] at h; subst h
                refine s_skipY 62 rfl rfl y19 rfl ?_
                refine nr ?_; intro U h; simp only [z0, z1] at h; subst h
                refine s_skipY 63 rfl rfl y19 rfl ?_
                refine nr ?_; intro U h; simp only [z0, z1] at h; subst h
                refine s_skipY 64 rfl rfl y19 rfl ?_
                refine nr ?_; intro U h; simp only [z0, z1] at h; subst h
                refine s_skipY 65 rfl rfl y19 rfl ?_
                refine nr ?_; intro U h; simp only [z0, z1] at h; subst h
                refine s_skipY 66 rfl rfl y19 rfl ?_
                refine nr ?_; intro U h; simp only [z0, z1] at h; subst h
                refine s_gvalY 67 rfl rfl y1 rfl (.bool false) (rfl) ?_
                refine nr ?_; intro U h; simp only [z0, z1] at h; subst h
                refine s_val 68 rfl rfl (.bool false) (rfl) ?_
                refine nr ?_; intro U h; simp only [z0, z1] at h; subst h
                refine s_val 6 rfl rfl (.bool false) (rfl) ?_
                refine nr ?_; intro U h; simp only [z0, z1] at h; subst h
                refine wpList_nil ?_
                refine blk_n ?_
                refine then_n ?_
                refine wp_region_lit ?_
                refine s_val 69 rfl rfl (.int .i64 ((i + 1 : Nat) : Int)) (run_addI 3 _ _ _ rfl ((i : Nat) : Int) 1 ((i + 1 : Nat) : Int) rfl rfl (by omega) (by omega) (by omega) _) ?_
                refine nr ?_; intro U h; simp only [z0, z1] at h; subst h
                refine s_val 22 rfl rfl (.int .i64 ((i + 1 : Nat) : Int)) (rfl) ?_
                refine nr ?_; intro U h; simp only [z0, z1] at h; subst h
                refine wpList_nil ?_
                refine then_n ?_
                exact ⟨l.length + 1 - (i + 1), by omega, i + 1, false, (fun kz => ([us1 0, .pointer (some ⟨g3, 0, none⟩), .bool true, .pointer (pK kH ao i 0), .agg (hdA (l.getD i zH)), .pointer (some ⟨g3, 17, none⟩), .int .i64 (l.getD i zH).far, .bool true, .bool true, .pointer (some ⟨g3, 17, none⟩), .int .i64 (l.getD i zH).far, .bool true, .bool true, .bool true, .pointer (some ⟨g3, 1, none⟩), .agg (idA (l.getD i zH).id), .pointer (some ⟨g2, 1, none⟩), .agg (idA (bestH s l).id), .bool false, .bool false, .bool false, .bool false, .pointer (some ⟨g3, 0, none⟩), .int .i64 (l.getD i zH).n, .pointer (some ⟨g2, 0, none⟩), .int .i64 (bestH s l).n, .bool true, .bool true, .pointer (some ⟨g3, 1, none⟩), .agg (idA (l.getD i zH).id), .pointer (some ⟨g2, 1, none⟩), .agg (idA (bestH s l).id), .bool true, .bool true, .bool true, .pointer (some ⟨g3, 17, none⟩), .int .i64 (l.getD i zH).far, .bool false, .bool false, .bool false, undef, undef, undef, undef, undef, undef, .bool false, .bool false, .int .i64 ((i + 1 : Nat) : Int)] : List Value).getD kz undef), rfl, rfl, by omega, GG, kg1, kg2, told_step hT (fun c => of_decide_eq_false e3 c.2.2.1)⟩
              · have hf := (atH HL hil).far
                have hf1 := hf.1
                have hf3 := of_decide_eq_true e3
                cases e4 : decide ((l.getD i zH).far + 1 = (bestH s l).far)
                · refine wp_region_opq ?_
                  intro OPS hY
                  have y1 := hY 1 42 rfl
                  have y7 := hY 7 48 rfl
                  have y14 := hY 14 55 rfl
                  have y19 := hY 19 60 rfl
                  clear hY
                  refine s_val 41 rfl rfl (.bool false) (rfl) ?_
                  refine nr ?_; intro U h; simp only [z0, z1] at h; subst h
                  refine s_val 42 rfl rfl (.bool false) (rfl) ?_
                  refine nr ?_; intro U h; simp only [z0, z1] at h; subst h
                  refine s_gvalY 43 rfl rfl y1 rfl (.pointer (some ⟨g3, 0, none⟩)) (run_fld 26 _ 0 rfl g3 0 rfl 0 (by kernel_rfl)) ?_
                  refine nr ?_; intro U h; simp only [z0, z1] at h; subst h
                  refine s_gvalY 44 rfl rfl y1 rfl (.int .i64 (l.getD i zH).n) (ldHn _ rfl g3 rfl (kg3)) ?_
                  refine nr ?_; intro U h; simp only [z0, z1] at h; subst h
                  refine s_gvalY 45 rfl rfl y1 rfl (.pointer (some ⟨g2, 0, none⟩)) (run_fld 26 _ 0 rfl g2 0 rfl 0 (by kernel_rfl)) ?_
                  refine nr ?_; intro U h; simp only [z0, z1] at h; subst h
                  refine s_gvalY 46 rfl rfl y1 rfl (.int .i64 (bestH s l).n) (ldHn _ rfl g2 rfl (kg2)) ?_
                  refine nr ?_; intro U h; simp only [z0, z1] at h; subst h
                  refine s_gvalY 47 rfl rfl y1 rfl (.bool true) (run_eq_k 3 .i64 _ _ _ rfl Try.underlying3 (l.getD i zH).n (bestH s l).n rfl rfl true e1 _) ?_
                  refine nr ?_; intro U h; simp only [z0, z1] at h; subst h
                  refine s_gvalY 48 rfl rfl y1 rfl (.bool true) (rfl) ?_
                  refine nr ?_; intro U h; simp only [z0, z1] at h; subst h
                  refine s_gvalY 49 rfl rfl y7 rfl (.pointer (some ⟨g3, 1, none⟩)) (run_fld 26 _ 1 rfl g3 0 rfl 1 (by kernel_rfl)) ?_
                  refine nr ?_; intro U h; simp only [z0, z1] at h; subst h
                  refine s_gvalY 50 rfl rfl y7 rfl (.agg (idA (l.getD i zH).id)) (ldHi _ rfl g3 rfl (kg3)) ?_
                  refine nr ?_; intro U h; simp only [z0, z1] at h; subst h
                  refine s_gvalY 51 rfl rfl y7 rfl (.pointer (some ⟨g2, 1, none⟩)) (run_fld 26 _ 1 rfl g2 0 rfl 1 (by kernel_rfl)) ?_
                  refine nr ?_; intro U h; simp only [z0, z1] at h; subst h
                  refine s_gvalY 52 rfl rfl y7 rfl (.agg (idA (bestH s l).id)) (ldHi _ rfl g2 rfl (kg2)) ?_
                  refine nr ?_; intro U h; simp only [z0, z1] at h; subst h
                  refine s_gvalY 53 rfl rfl y7 rfl (.bool true) (run_eqI _ _ _ rfl _ _ rfl rfl (atH HL hil).id hbok.id true e2) ?_
                  refine nr ?_; intro U h; simp only [z0, z1] at h; subst h
                  refine s_gvalY 54 rfl rfl y1 rfl (.bool true) (rfl) ?_
                  refine nr ?_; intro U h; simp only [z0, z1] at h; subst h
                  refine s_gvalY 55 rfl rfl y1 rfl (.bool true) (rfl) ?_
                  refine nr ?_; intro U h; simp only [z0, z1] at h; subst h
                  refine s_gvalY 56 rfl rfl y14 rfl (.pointer (some ⟨g3, 17, none⟩)) (run_fld 26 _ 2 rfl g3 0 rfl 17 (by kernel_rfl)) ?_
                  refine nr ?_; intro U h; simp only [z0, z1] at h; subst h
                  refine s_gvalY 57 rfl rfl y14 rfl (.int .i64 (l.getD i zH).far) (ldHf _ rfl g3 rfl (kg3)) ?_
                  refine nr ?_; intro U h; simp only [z0, z1] at h; subst h
                  refine s_gvalY 58 rfl rfl y14 rfl (.bool true) (run_lssT 2 _ _ _ rfl (l.getD i zH).far 6 rfl rfl true e3 _) ?_
                  refine nr ?_; intro U h; simp only [z0, z1] at h; subst h
                  refine s_gvalY 59 rfl rfl y1 rfl (.bool true) (rfl) ?_
                  refine nr ?_; intro U h; simp only [z0, z1] at h; subst h
                  refine s_gvalY 60 rfl rfl y1 rfl (.bool true) (rfl) ?_
                  refine nr ?_; intro U h; simp only [z0, z1] at h; subst h
                  refine s_gvalY 61 rfl rfl y19 rfl (.pointer (some ⟨g3, 17, none⟩)) (run_fld 26 _ 2 rfl g3 0 rfl 17 (by kernel_rfl)) ?_
                  refine nr ?_; intro U h; simp only [z0, z1] at h; subst h
                  refine s_gvalY 62 rfl rfl y19 rfl (.int .i64 (l.getD i zH).far) (ldHf _ rfl g3 rfl (kg3)) ?_
                  refine nr ?_; intro U h; simp only [z0, z1] at h; subst h
                  refine s_gvalY 63 rfl rfl y19 rfl (.int .i64 ((l.getD i zH).far + 1)) (run_addI 2 _ _ _ rfl (l.getD i zH).far 1 ((l.getD i zH).far + 1) rfl rfl (by omega) (by omega) (by omega) _) ?_
                  refine nr ?_; intro U h; simp only [z0, z1] at h; subst h
                  refine s_gvalY 64 rfl rfl y19 rfl (.pointer (some ⟨g2, 17, none⟩)) (run_fld 26 _ 2 rfl g2 0 rfl 17 (by kernel_rfl)) ?_
                  refine nr ?_; intro U h; simp only [z0, z1] at h; subst h
                  refine s_gvalY 65 rfl rfl y19 rfl (.int .i64 (bestH s l).far) (ldHf _ rfl g2 rfl (kg2)) ?_
                  refine nr ?_; intro U h; simp only [z0, z1] at h; subst h
                  refine s_gvalY 66 rfl rfl y19 rfl (.bool false) (run_eq_k 2 .i64 _ _ _ rfl Try.underlying2 ((l.getD i zH).far + 1) (bestH s l).far rfl rfl false e4 _) ?_
                  refine nr ?_; intro U h; simp only [z0, z1] at h; subst h
                  refine s_gvalY 67 rfl rfl y1 rfl (.bool false) (rfl) ?_
                  refine nr ?_; intro U h; simp only [z0, z1] at h; subst h
                  refine s_val 68 rfl rfl (.bool false) (rfl) ?_
                  refine nr ?_; intro U h; simp only [z0, z1] at h; subst h
                  refine s_val 6 rfl rfl (.bool false) (rfl) ?_
                  refine nr ?_; intro U h; simp only [z0, z1] at h; subst h
                  refine wpList_nil ?_
                  refine blk_n ?_
                  refine then_n ?_
                  refine wp_region_lit ?_
                  refine s_val 69 rfl rfl (.int .i64 ((i + 1 : Nat) : Int)) (run_addI 3 _ _ _ rfl ((i : Nat) : Int) 1 ((i + 1 : Nat) : Int) rfl rfl (by omega) (by omega) (by omega) _) ?_
                  refine nr ?_; intro U h; simp only [z0, z1] at h; subst h
                  refine s_val 22 rfl rfl (.int .i64 ((i + 1 : Nat) : Int)) (rfl) ?_
                  refine nr ?_; intro U h; simp only [z0, z1] at h; subst h
                  refine wpList_nil ?_
                  refine then_n ?_
                  exact ⟨l.length + 1 - (i + 1), by omega, i + 1, false, (fun kz => ([us1 0, .pointer (some ⟨g3, 0, none⟩), .bool true, .pointer (pK kH ao i 0), .agg (hdA (l.getD i zH)), .pointer (some ⟨g3, 17, none⟩), .int .i64 (l.getD i zH).far, .bool true, .bool true, .pointer (some ⟨g3, 17, none⟩), .int .i64 (l.getD i zH).far, .bool true, .bool true, .bool true, .pointer (some ⟨g3, 1, none⟩), .agg (idA (l.getD i zH).id), .pointer (some ⟨g2, 1, none⟩), .agg (idA (bestH s l).id), .bool false, .bool false, .bool false, .bool false, .pointer (some ⟨g3, 0, none⟩), .int .i64 (l.getD i zH).n, .pointer (some ⟨g2, 0, none⟩), .int .i64 (bestH s l).n, .bool true, .bool true, .pointer (some ⟨g3, 1, none⟩), .agg (idA (l.getD i zH).id), .pointer (some ⟨g2, 1, none⟩), .agg (idA (bestH s l).id), .bool true, .bool true, .bool true, .pointer (some ⟨g3, 17, none⟩), .int .i64 (l.getD i zH).far, .bool true, .bool true, .bool true, .pointer (some ⟨g3, 17, none⟩), .int .i64 (l.getD i zH).far, .int .i64 ((l.getD i zH).far + 1), .pointer (some ⟨g2, 17, none⟩), .int .i64 (bestH s l).far, .bool false, .bool false, .bool false, .int .i64 ((i + 1 : Nat) : Int)] : List Value).getD kz undef), rfl, rfl, by omega, GG, kg1, kg2, told_step hT (fun c => of_decide_eq_false e4 c.2.2.2)⟩
                · refine wp_region_opq ?_
                  intro OPS hY
                  have y1 := hY 1 42 rfl
                  have y7 := hY 7 48 rfl
                  have y14 := hY 14 55 rfl
                  have y19 := hY 19 60 rfl
                  clear hY
                  refine s_val 41 rfl rfl (.bool false) (rfl) ?_
                  refine nr ?_; intro U h; simp only [z0, z1] at h; subst h
                  refine s_val 42 rfl rfl (.bool false) (rfl) ?_
                  refine nr ?_; intro U h; simp only [z0, z1] at h; subst h
                  refine s_gvalY 43 rfl rfl y1 rfl (.pointer (some ⟨g3, 0, none⟩)) (run_fld 26 _ 0 rfl g3 0 rfl 0 (by kernel_rfl)) ?_
                  refine nr ?_; intro U h; simp only [z0, z1] at h; subst h
                  refine s_gvalY 44 rfl rfl y1 rfl (.int .i64 (l.getD i zH).n) (ldHn _ rfl g3 rfl (kg3)) ?_
                  refine nr ?_; intro U h; simp only [z0, z1] at h; subst h
                  refine s_gvalY 45 rfl rfl y1 rfl (.pointer (some ⟨g2, 0, none⟩)) (run_fld 26 _ 0 rfl g2 0 rfl 0 (by kernel_rfl)) ?_
                  refine nr ?_; intro U h; simp only [z0, z1] at h; subst h
                  refine s_gvalY 46 rfl rfl y1 rfl (.int .i64 (bestH s l).n) (ldHn _ rfl g2 rfl (kg2)) ?_
                  refine nr ?_; intro U h; simp only [z0, z1] at h; subst h
                  refine s_gvalY 47 rfl rfl y1 rfl (.bool true) (run_eq_k 3 .i64 _ _ _ rfl Try.underlying3 (l.getD i zH).n (bestH s l).n rfl rfl true e1 _) ?_
                  refine nr ?_; intro U h; simp only [z0, z1] at h; subst h
                  refine s_gvalY 48 rfl rfl y1 rfl (.bool true) (rfl) ?_
                  refine nr ?_; intro U h; simp only [z0, z1] at h; subst h
                  refine s_gvalY 49 rfl rfl y7 rfl (.pointer (some ⟨g3, 1, none⟩)) (run_fld 26 _ 1 rfl g3 0 rfl 1 (by kernel_rfl)) ?_
                  refine nr ?_; intro U h; simp only [z0, z1] at h; subst h
                  refine s_gvalY 50 rfl rfl y7 rfl (.agg (idA (l.getD i zH).id)) (ldHi _ rfl g3 rfl (kg3)) ?_
                  refine nr ?_; intro U h; simp only [z0, z1] at h; subst h
                  refine s_gvalY 51 rfl rfl y7 rfl (.pointer (some ⟨g2, 1, none⟩)) (run_fld 26 _ 1 rfl g2 0 rfl 1 (by kernel_rfl)) ?_
                  refine nr ?_; intro U h; simp only [z0, z1] at h; subst h
                  refine s_gvalY 52 rfl rfl y7 rfl (.agg (idA (bestH s l).id)) (ldHi _ rfl g2 rfl (kg2)) ?_
                  refine nr ?_; intro U h; simp only [z0, z1] at h; subst h
                  refine s_gvalY 53 rfl rfl y7 rfl (.bool true) (run_eqI _ _ _ rfl _ _ rfl rfl (atH HL hil).id hbok.id true e2) ?_
                  refine nr ?_; intro U h; simp only [z0, z1] at h; subst h
                  refine s_gvalY 54 rfl rfl y1 rfl (.bool true) (rfl) ?_
                  refine nr ?_; intro U h; simp only [z0, z1] at h; subst h
                  refine s_gvalY 55 rfl rfl y1 rfl (.bool true) (rfl) ?_
                  refine nr ?_; intro U h; simp only [z0, z1] at h; subst h
                  refine s_gvalY 56 rfl rfl y14 rfl (.pointer (some ⟨g3, 17, none⟩)) (run_fld 26 _ 2 rfl g3 0 rfl 17 (by kernel_rfl)) ?_
                  refine nr ?_; intro U h; simp only [z0, z1] at h; subst h
                  refine s_gvalY 57 rfl rfl y14 rfl (.int .i64 (l.getD i zH).far) (ldHf _ rfl g3 rfl (kg3)) ?_
                  refine nr ?_; intro U h; simp only [z0, z1] at h; subst h
                  refine s_gvalY 58 rfl rfl y14 rfl (.bool true) (run_lssT 2 _ _ _ rfl (l.getD i zH).far 6 rfl rfl true e3 _) ?_
                  refine nr ?_; intro U h; simp only [z0, z1] at h; subst h
                  refine s_gvalY 59 rfl rfl y1 rfl (.bool true) (rfl) ?_
                  refine nr ?_; intro U h; simp only [z0, z1] at h; subst h
                  refine s_gvalY 60 rfl rfl y1 rfl (.bool true) (rfl) ?_
                  refine nr ?_; intro U h; simp only [z0, z1] at h; subst h
                  refine s_gvalY 61 rfl rfl y19 rfl (.pointer (some ⟨g3, 17, none⟩)) (run_fld 26 _ 2 rfl g3 0 rfl 17 (by kernel_rfl)) ?_
                  refine nr ?_; intro U h; simp only [z0, z1] at h; subst h
                  refine s_gvalY 62 rfl rfl y19 rfl (.int .i64 (l.getD i zH).far) (ldHf _ rfl g3 rfl (kg3)) ?_
                  refine nr ?_; intro U h; simp only [z0, z1] at h; subst h
                  refine s_gvalY 63 rfl rfl y19 rfl (.int .i64 ((l.getD i zH).far + 1)) (run_addI 2 _ _ _ rfl (l.getD i zH).far 1 ((l.getD i zH).far + 1) rfl rfl (by omega) (by omega) (by omega) _) ?_
                  refine nr ?_; intro U h; simp only [z0, z1] at h; subst h
                  refine s_gvalY 64 rfl rfl y19 rfl (.pointer (some ⟨g2, 17, none⟩)) (run_fld 26 _ 2 rfl g2 0 rfl 17 (by kernel_rfl)) ?_
                  refine nr ?_; intro U h; simp only [z0, z1] at h; subst h
                  refine s_gvalY 65 rfl rfl y19 rfl (.int .i64 (bestH s l).far) (ldHf _ rfl g2 rfl (kg2)) ?_
                  refine nr ?_; intro U h; simp only [z0, z1] at h; subst h
                  refine s_gvalY 66 rfl rfl y19 rfl (.bool true) (run_eq_k 2 .i64 _ _ _ rfl Try.underlying2 ((l.getD i zH).far + 1) (bestH s l).far rfl rfl true e4 _) ?_
                  refine nr ?_; intro U h; simp only [z0, z1] at h; subst h
                  refine s_gvalY 67 rfl rfl y1 rfl (.bool true) (rfl) ?_
                  refine nr ?_; intro U h; simp only [z0, z1] at h; subst h
                  refine s_val 68 rfl rfl (.bool true) (rfl) ?_
                  refine nr ?_; intro U h; simp only [z0, z1] at h; subst h
                  refine s_val 6 rfl rfl (.bool true) (rfl) ?_
                  refine nr ?_; intro U h; simp only [z0, z1] at h; subst h
                  refine wpList_nil ?_
                  refine blk_n ?_
                  refine then_n ?_
                  refine wp_region_lit ?_
                  refine s_val 69 rfl rfl (.int .i64 ((i + 1 : Nat) : Int)) (run_addI 3 _ _ _ rfl ((i : Nat) : Int) 1 ((i + 1 : Nat) : Int) rfl rfl (by omega) (by omega) (by omega) _) ?_
                  refine nr ?_; intro U h; simp only [z0, z1] at h; subst h
                  refine s_val 22 rfl rfl (.int .i64 ((i + 1 : Nat) : Int)) (rfl) ?_
                  refine nr ?_; intro U h; simp only [z0, z1] at h; subst h
                  refine wpList_nil ?_
                  refine then_n ?_
                  exact ⟨l.length + 1 - (i + 1), by omega, i + 1, true, (fun kz => ([us1 0, .pointer (some ⟨g3, 0, none⟩), .bool true, .pointer (pK kH ao i 0), .agg (hdA (l.getD i zH)), .pointer (some ⟨g3, 17, none⟩), .int .i64 (l.getD i zH).far, .bool true, .bool true, .pointer (some ⟨g3, 17, none⟩), .int .i64 (l.getD i zH).far, .bool true, .bool true, .bool true, .pointer (some ⟨g3, 1, none⟩), .agg (idA (l.getD i zH).id), .pointer (some ⟨g2, 1, none⟩), .agg (idA (bestH s l).id), .bool false, .bool false, .bool false, .bool false, .pointer (some ⟨g3, 0, none⟩), .int .i64 (l.getD i zH).n, .pointer (some ⟨g2, 0, none⟩), .int .i64 (bestH s l).n, .bool true, .bool true, .pointer (some ⟨g3, 1, none⟩), .agg (idA (l.getD i zH).id), .pointer (some ⟨g2, 1, none⟩), .agg (idA (bestH s l).id), .bool true, .bool true, .bool true, .pointer (some ⟨g3, 17, none⟩), .int .i64 (l.getD i zH).far, .bool true, .bool true, .bool true, .pointer (some ⟨g3, 17, none⟩), .int .i64 (l.getD i zH).far, .int .i64 ((l.getD i zH).far + 1), .pointer (some ⟨g2, 17, none⟩), .int .i64 (bestH s l).far, .bool true, .bool true, .bool true, .int .i64 ((i + 1 : Nat) : Int)] : List Value).getD kz undef), rfl, rfl, by omega, GG, kg1, kg2, .inl rfl⟩
        · have htb : tb = true := of_decide_eq_true ht
          subst htb
          refine wp_region_opq ?_
          intro OPS hY
          have y1 := hY 1 42 rfl
          have y7 := hY 7 48 rfl
          have y14 := hY 14 55 rfl
          have y19 := hY 19 60 rfl
          clear hY
          refine s_val 41 rfl rfl (.bool true) (rfl) ?_
          refine nr ?_; intro U h; simp only [z0, z1] at h; subst h
          refine s_val 42 rfl rfl (.bool true) (rfl) ?_
          refine nr ?_; intro U h; simp only [z0, z1] at h; subst h
          refine s_skipY 43 rfl rfl y1 rfl ?_
          refine nr ?_; intro U h; simp only [z0, z1] at h; subst h
          refine s_skipY 44 rfl rfl y1 rfl ?_
          refine nr ?_; intro U h; simp only [z0, z1] at h; subst h
          refine s_skipY 45 rfl rfl y1 rfl ?_
          refine nr ?_; intro U h; simp only [z0, z1] at h; subst h
          refine s_skipY 46 rfl rfl y1 rfl ?_
          refine nr ?_; intro U h; simp only [z0, z1] at h; subst h
          refine s_skipY 47 rfl rfl y1 rfl ?_
          refine nr ?_; intro U h; simp only [z0, z1] at h; subst h
          refine s_skipY 48 rfl rfl y1 rfl ?_
          refine nr ?_; intro U h; simp only [z0, z1] at h; subst h
          refine s_skipY 49 rfl rfl y7 rfl ?_
          refine nr ?_; intro U h; simp only [z0, z1] at h; subst h
          refine s_skipY 50 rfl rfl y7 rfl ?_
          refine nr ?_; intro U h; simp only [z0, z1] at h; subst h
          refine s_skipY 51 rfl rfl y7 rfl ?_
          refine nr ?_; intro U h; simp only [z0, z1] at h; subst h
          refine s_skipY 52 rfl rfl y7 rfl ?_
          refine nr ?_; intro U h; simp only [z0, z1] at h; subst h
          refine s_skipY 53 rfl rfl y7 rfl ?_
          refine nr ?_; intro U h; simp only [z0, z1] at h; subst h
          refine s_skipY 54 rfl rfl y1 rfl ?_
          refine nr ?_; intro U h; simp only [z0, z1] at h; subst h
          refine s_skipY 55 rfl rfl y1 rfl ?_
          refine nr ?_; intro U h; simp only [z0, z1] at h; subst h
          refine s_skipY 56 rfl rfl y14 rfl ?_
          refine nr ?_; intro U h; simp only [z0, z1] at h; subst h
          refine s_skipY 57 rfl rfl y14 rfl ?_
          refine nr ?_; intro U h; simp only [z0, z1] at h; subst h
          refine s_skipY 58 rfl rfl y14 rfl ?_
          refine nr ?_; intro U h; simp only [z0, z1] at h; subst h
          refine s_skipY 59 rfl rfl y1 rfl ?_
          refine nr ?_; intro U h; simp only [z0, z1] at h; subst h
          refine s_skipY 60 rfl rfl y1 rfl ?_
          refine nr ?_; intro U h; simp only [z0, z1] at h; subst h
          refine s_skipY 61 rfl rfl y19 rfl ?_
          refine nr ?_; intro U h; simp only [z0, z1] at h; subst h
          refine s_skipY 62 rfl rfl y19 rfl ?_
          refine nr ?_; intro U h; simp only [z0, z1] at h; subst h
          refine s_skipY 63 rfl rfl y19 rfl ?_
          refine nr ?_; intro U h; simp only [z0, z1] at h; subst h
          refine s_skipY 64 rfl rfl y19 rfl ?_
          refine nr ?_; intro U h; simp only [z0, z1] at h; subst h
          refine s_skipY 65 rfl rfl y19 rfl ?_
          refine nr ?_; intro U h; simp only [z0, z1] at h; subst h
          refine s_skipY 66 rfl rfl y19 rfl ?_
          refine nr ?_; intro U h; simp only [z0, z1] at h; subst h
          refine s_skipY 67 rfl rfl y1 rfl ?_
          refine nr ?_; intro U h; simp only [z0, z1] at h; subst h
          refine s_val 68 rfl rfl (.bool true) (rfl) ?_
          refine nr ?_; intro U h; simp only [z0, z1] at h; subst h
          refine s_val 6 rfl rfl (.bool true) (rfl) ?_
          refine nr ?_; intro U h; simp only [z0, z1] at h; subst h
          refine wpList_nil ?_
          refine blk_n ?_
          refine then_n ?_
          refine wp_region_lit ?_
          refine s_val 69 rfl rfl (.int .i64 ((i + 1 : Nat) : Int)) (run_addI 3 _ _ _ rfl ((i : Nat) : Int) 1 ((i + 1 : Nat) : Int) rfl rfl (by omega) (by omega) (by omega) _) ?_
          refine nr ?_; intro U h; simp only [z0, z1] at h; subst h
          refine s_val 22 rfl rfl (.int .i64 ((i + 1 : Nat) : Int)) (rfl) ?_
          refine nr ?_; intro U h; simp only [z0, z1] at h; subst h
          refine wpList_nil ?_
          refine then_n ?_
          exact ⟨l.length + 1 - (i + 1), by omega, i + 1, true, (fun kz => ([us1 0, .pointer (some ⟨g3, 0, none⟩), .bool true, .pointer (pK kH ao i 0), .agg (hdA (l.getD i zH)), .pointer (some ⟨g3, 17, none⟩), .int .i64 (l.getD i zH).far, .bool true, .bool true, .pointer (some ⟨g3, 17, none⟩), .int .i64 (l.getD i zH).far, .bool true, .bool true, .bool true, .pointer (some ⟨g3, 1, none⟩), .agg (idA (l.getD i zH).id), .pointer (some ⟨g2, 1, none⟩), .agg (idA (bestH s l).id), .bool false, .bool false, .bool true, .bool true, undef, undef, undef, undef, undef, undef, undef, undef, undef, undef, undef, undef, undef, undef, undef, undef, undef, undef, undef, undef, undef, undef, undef, undef, undef, .bool true, .int .i64 ((i + 1 : Nat) : Int)] : List Value).getD kz undef), rfl, rfl, by omega, GG, kg1, kg2, .inl rfl⟩
theorem OW.tapart {α β : Type} {K : Kd α} {J : Kd β} {e e' : TypeId} {w : World} {B B' : Nat} {ao bo : Option Addr} {cap bap : Nat} {l : List α} {m : List β} (h : OW K e w B ao cap l) (k : OW J e' w B' bo bap m) (he : e ≠ e') : ∀ j ∈ Go.Proofs.Ytljihaihhnamfaa.blk ao, j ∉ Go.Proofs.Ytljihaihhnamfaa.blk bo := fun j hj hm => by
  obtain ⟨_, cur, hc⟩ := h.own.at j hj
  exact k.own.ne hc he hm
set_option maxRecDepth 100000 in
set_option maxHeartbeats 4000000 in
theorem repNotes_any (w : World) (ao : Option Addr) (cap : Nat) (l : List Hd) (HL : RK kH w ao cap l) (hl : l.length ≤ 4398046510976) (x : Hd) (hx : x.ok) (m : Int) : Calls Try.prog 4 #[.slice ao l.length cap, .agg (hdA x), .int .i64 m] w (fun e w' => e = .returned (.bool true) ∧ Gro w w') := by
  refine s_enter Try.func4 rfl Try.ntmps4 [.slice ao l.length cap, .agg (hdA x), .int .i64 m] [.slice ao l.length cap, .agg (hdA x), .int .i64 m, undef, undef, undef, undef, undef, undef, undef, undef, undef, undef, undef, undef, undef, undef, undef, undef, undef, undef, undef, undef, undef, undef, undef, undef, undef, undef, undef, undef, undef, undef, undef, undef, undef, undef, undef, undef, undef, undef, undef, undef, undef, undef, undef, undef, undef, undef, undef, undef, undef, undef, undef, undef, undef, undef, undef, undef, undef, undef, undef, undef, undef, undef, undef, undef, undef] rfl ?_
  have GG := Gro.refl w
  refine wp_seq ?_
  refine wp_region_lit ?_
  refine s_box 4 rfl rfl 26 _ rfl _ rfl (hdA x) rfl ?_
  intro w1 g1 G eg1 kg1
  have bg1 := size_base GG eg1
  replace GG := GG.trans G
  clear G
  clear eg1
  refine nr ?_; intro U h; simp only [z0, z1] at h; subst h
  refine s_val 6 rfl rfl (.bool false) (rfl) ?_
  refine nr ?_; intro U h; simp only [z0, z1] at h; subst h
  refine wpList_nil ?_
  refine then_n ?_
  refine wp_seq ?_
  refine wp_region_lit ?_
  refine s_val 13 rfl rfl (.slice ao l.length cap) (rfl) ?_
  refine nr ?_; intro U h; simp only [z0, z1] at h; subst h
  refine s_callx 14 rfl rfl _ 10 Try.call10 rfl rfl _ rfl [.slice ao l.length cap] rfl (plain_any _ ao cap l (HL.gro GG) hl) (by rintro _ _ ⟨_, _, he, _⟩; exact ⟨_, he⟩) ?_
  rintro v w2 ⟨ao1, cap1, he, G, HO1⟩
  cases he
  replace HO1 := HO1.mono GG.size
  replace kg1 := G.has kg1
  replace GG := GG.trans G
  clear G
  have HR1 := HO1.re
  refine nr ?_; intro U h; simp only [z0, z1] at h; subst h
  refine s_val 7 rfl rfl (.slice ao1 l.length cap1) (rfl) ?_
  refine nr ?_; intro U h; simp only [z0, z1] at h; subst h
  refine wpList_nil ?_
  refine then_n ?_
  refine wp_seq ?_
  refine wp_region_lit ?_
  refine s_val 15 rfl rfl (.slice ao l.length cap) (rfl) ?_
  refine nr ?_; intro U h; simp only [z0, z1] at h; subst h
  refine s_val 16 rfl rfl (.agg (hdA x)) (ldH0 _ rfl g1 rfl (kg1)) ?_
  refine nr ?_; intro U h; simp only [z0, z1] at h; subst h
  refine s_callx 17 rfl rfl _ 12 Try.call12 rfl rfl _ rfl [.slice ao l.length cap, .agg (hdA x)] rfl (put_any _ ao cap l (HL.gro GG) hl x hx) (by rintro _ _ ⟨_, _, he, _⟩; exact ⟨_, he⟩) ?_
  rintro v w3 ⟨ao2, cap2, he, G, HO2⟩
  cases he
  have ha2_1 := HO2.apart HO1
  replace HO2 := HO2.mono GG.size
  replace kg1 := G.has kg1
  replace HR1 := HR1.gro G
  replace HO1 := HO1.gro G
  replace GG := GG.trans G
  clear G
  have HR2 := HO2.re
  refine nr ?_; intro U h; simp only [z0, z1] at h; subst h
  refine s_val 18 rfl rfl (.slice ao l.length cap) (rfl) ?_
  refine nr ?_; intro U h; simp only [z0, z1] at h; subst h
  refine s_val 19 rfl rfl (.int .i64 m) (rfl) ?_
  refine nr ?_; intro U h; simp only [z0, z1] at h; subst h
  refine s_callx 20 rfl rfl _ 13 Try.call13 rfl rfl _ rfl [.slice ao l.length cap, .int .i64 m] rfl (forget_any _ ao cap l (HL.gro GG) hl m) (by rintro _ _ ⟨_, _, he, _⟩; exact ⟨_, he⟩) ?_
  rintro v w4 ⟨ao3, cap3, he, G, HO3⟩
  cases he
  have ha3_1 := HO3.apart HO1
  have ha3_2 := HO3.apart HO2
  replace HO3 := HO3.mono GG.size
  replace kg1 := G.has kg1
  replace HR1 := HR1.gro G
  replace HO1 := HO1.gro G
  replace HR2 := HR2.gro G
  replace HO2 := HO2.gro G
  replace GG := GG.trans G
  clear G
  have HR3 := HO3.re
  refine nr ?_; intro U h; simp only [z0, z1] at h; subst h
  refine s_val 8 rfl rfl (.slice ao2 (putH l x).length cap2) (rfl) ?_
  refine nr ?_; intro U h; simp only [z0, z1] at h; subst h
  refine s_val 9 rfl rfl (.slice ao3 (forH l m).length cap3) (rfl) ?_
  refine nr ?_; intro U h; simp only [z0, z1] at h; subst h
  refine wpList_nil ?_
  refine then_n ?_
  refine wp_seq ?_
  refine wp_region_opq ?_
  intro OPS hY
  have y11 := hY 11 32 rfl
  clear hY
  refine s_val 21 rfl rfl (.slice ao2 (putH l x).length cap2) (rfl) ?_
  refine nr ?_; intro U h; simp only [z0, z1] at h; subst h
  refine s_val 22 rfl rfl (.slice ao1 l.length cap1) (rfl) ?_
  refine nr ?_; intro U h; simp only [z0, z1] at h; subst h
  refine s_val 23 rfl rfl (.pointer (some ⟨g1, 0, none⟩)) (run_fld 26 _ 0 rfl g1 0 rfl 0 (by kernel_rfl)) ?_
  refine nr ?_; intro U h; simp only [z0, z1] at h; subst h
  refine s_val 24 rfl rfl (.int .i64 x.n) (ldHn _ rfl g1 rfl (kg1)) ?_
  refine nr ?_; intro U h; simp only [z0, z1] at h; subst h
  refine s_val 25 rfl rfl (.pointer (some ⟨g1, 1, none⟩)) (run_fld 26 _ 1 rfl g1 0 rfl 1 (by kernel_rfl)) ?_
  refine nr ?_; intro U h; simp only [z0, z1] at h; subst h
  refine s_val 26 rfl rfl (.agg (idA x.id)) (ldHi _ rfl g1 rfl (kg1)) ?_
  refine nr ?_; intro U h; simp only [z0, z1] at h; subst h
  refine s_val 27 rfl rfl (.pointer (some ⟨g1, 17, none⟩)) (run_fld 26 _ 2 rfl g1 0 rfl 17 (by kernel_rfl)) ?_
  refine nr ?_; intro U h; simp only [z0, z1] at h; subst h
  refine s_val 28 rfl rfl (.int .i64 x.far) (ldHf _ rfl g1 rfl (kg1)) ?_
  refine nr ?_; intro U h; simp only [z0, z1] at h; subst h
  refine s_val 29 rfl rfl (.agg (hdA (mkH x.n x.id x.far))) (run_bd 28 _ rfl [(0, .int .i64 x.n), (1, .agg (idA x.id)), (2, .int .i64 x.far)] rfl _ (bdD012 _ _ _ _)) ?_
  refine nr ?_; intro U h; simp only [z0, z1] at h; subst h
  refine s_callx 30 rfl rfl _ 15 Try.call15 rfl rfl _ rfl [.slice ao1 l.length cap1, .agg (hdA (mkH x.n x.id x.far))] rfl (rput_any _ ao1 cap1 l HO1.re hl x hx) (by rintro _ _ ⟨_, _, he, _⟩; exact ⟨_, he⟩) ?_
  rintro v w5 ⟨ao4, cap4, he, G, HO4⟩
  cases he
  have ha4_1 := HO4.apart HO1
  have ha4_2 := HO4.apart HO2
  have ha4_3 := HO4.apart HO3
  replace HO4 := HO4.mono GG.size
  replace kg1 := G.has kg1
  replace HR1 := HR1.gro G
  replace HO1 := HO1.gro G
  replace HR2 := HR2.gro G
  replace HO2 := HO2.gro G
  replace HR3 := HR3.gro G
  replace HO3 := HO3.gro G
  replace GG := GG.trans G
  clear G
  have HR4 := HO4.re
  refine nr ?_; intro U h; simp only [z0, z1] at h; subst h
  refine s_callv 31 rfl rfl _ 14 Try.call14 rfl rfl _ rfl [.slice ao2 (putH l x).length cap2, .slice ao4 (putH l x).length cap4] rfl (same_any _ (putH l x) ao2 cap2 HR2 ao4 cap4 HR4 (by have := putH_len l x; omega)) ?_
  intro w6 G
  replace kg1 := G.has kg1
  replace HR1 := HR1.gro G
  replace HO1 := HO1.gro G
  replace HR2 := HR2.gro G
  replace HO2 := HO2.gro G
  replace HR3 := HR3.gro G
  replace HO3 := HO3.gro G
  replace HR4 := HR4.gro G
  replace HO4 := HO4.gro G
  replace GG := GG.trans G
  clear G
  refine nr ?_; intro U h; simp only [z0, z1] at h; subst h
  refine s_val 32 rfl rfl (.bool true) (rfl) ?_
  refine nr ?_; intro U h; simp only [z0, z1] at h; subst h
  refine s_gvalY 33 rfl rfl y11 rfl (.slice ao3 (forH l m).length cap3) (rfl) ?_
  refine nr ?_; intro U h; simp only [z0, z1] at h; subst h
  refine s_gvalY 34 rfl rfl y11 rfl (.slice ao1 l.length cap1) (rfl) ?_
  refine nr ?_; intro U h; simp only [z0, z1] at h; subst h
  refine s_gvalY 35 rfl rfl y11 rfl (.int .i64 m) (rfl) ?_
  refine nr ?_; intro U h; simp only [z0, z1] at h; subst h
  refine s_gcallxY 36 rfl rfl y11 rfl _ 16 Try.call16 rfl rfl _ rfl [.slice ao1 l.length cap1, .int .i64 m] rfl (rforget_any _ ao1 cap1 l HO1.re hl m) (by rintro _ _ ⟨_, _, he, _⟩; exact ⟨_, he⟩) ?_
  rintro v w7 ⟨ao5, cap5, he, G, HO5⟩
  cases he
  have ha5_1 := HO5.apart HO1
  have ha5_2 := HO5.apart HO2
  have ha5_3 := HO5.apart HO3
  have ha5_4 := HO5.apart HO4
  replace HO5 := HO5.mono GG.size
  replace kg1 := G.has kg1
  replace HR1 := HR1.gro G
  replace HO1 := HO1.gro G
  replace HR2 := HR2.gro G
  replace HO2 := HO2.gro G
  replace HR3 := HR3.gro G
  replace HO3 := HO3.gro G
  replace HR4 := HR4.gro G
  replace HO4 := HO4.gro G
  replace GG := GG.trans G
  clear G
  have HR5 := HO5.re
  refine nr ?_; intro U h; simp only [z0, z1] at h; subst h
  refine s_gcallvY 37 rfl rfl y11 rfl _ 14 Try.call14 rfl rfl _ rfl [.slice ao3 (forH l m).length cap3, .slice ao5 (forH l m).length cap5] rfl (same_any _ (forH l m) ao3 cap3 HR3 ao5 cap5 HR5 (by have := List.length_filter_le (fun y : Hd => decide (y.n ≠ m)) l; unfold forH; omega)) ?_
  intro w8 G
  replace kg1 := G.has kg1
  replace HR1 := HR1.gro G
  replace HO1 := HO1.gro G
  replace HR2 := HR2.gro G
  replace HO2 := HO2.gro G
  replace HR3 := HR3.gro G
  replace HO3 := HO3.gro G
  replace HR4 := HR4.gro G
  replace HO4 := HO4.gro G
  replace HR5 := HR5.gro G
  replace HO5 := HO5.gro G
  replace GG := GG.trans G
  clear G
  refine nr ?_; intro U h; simp only [z0, z1] at h; subst h
  refine s_val 38 rfl rfl (.bool true) (rfl) ?_
  refine nr ?_; intro U h; simp only [z0, z1] at h; subst h
  refine s_val 10 rfl rfl (.bool true) (rfl) ?_
  refine nr ?_; intro U h; simp only [z0, z1] at h; subst h
  refine wpList_nil ?_
  refine then_n ?_
  refine wp_seq ?_
  refine wp_seq ?_
  have hpl := putH_len l x
  have hfl : (forH l m).length ≤ l.length := List.length_filter_le _ l
  refine wp_region_lit ?_
  refine s_val 39 rfl rfl (.slice ao2 (putH l x).length cap2) (rfl) ?_
  refine nr ?_; intro U h; simp only [z0, z1] at h; subst h
  refine s_val 40 rfl rfl (.int .i64 (((putH l x).length : Nat) : Int)) (run_len Try.underlying24 _ rfl _ _ _ rfl _) ?_
  refine nr ?_; intro U h; simp only [z0, z1] at h; subst h
  refine s_val 41 rfl rfl (.int .i64 0) (rfl) ?_
  refine nr ?_; intro U h; simp only [z0, z1] at h; subst h
  refine wpList_nil ?_
  refine then_n ?_
  refine wp_block ?_
  refine wp_loopN (fun mz az wv => ∃ (i : Nat) (L2 : List Hd) (us1 : Nat → Value), mz = (putH l x).length + 1 - i ∧ az = ⟨[.slice ao l.length cap, .agg (hdA x), .int .i64 m, undef, .pointer (some ⟨g1, 0, none⟩), undef, .bool false, .slice ao1 l.length cap1, .slice ao2 (putH l x).length cap2, .slice ao3 (forH l m).length cap3, .bool true, us1 0, undef, .slice ao l.length cap, .slice ao1 l.length cap1, .slice ao l.length cap, .agg (hdA x), .slice ao2 (putH l x).length cap2, .slice ao l.length cap, .int .i64 m, .slice ao3 (forH l m).length cap3, .slice ao2 (putH l x).length cap2, .slice ao1 l.length cap1, .pointer (some ⟨g1, 0, none⟩), .int .i64 x.n, .pointer (some ⟨g1, 1, none⟩), .agg (idA x.id), .pointer (some ⟨g1, 17, none⟩), .int .i64 x.far, .agg (hdA (mkH x.n x.id x.far)), .slice ao4 (putH l x).length cap4, .bool true, .bool true, .slice ao3 (forH l m).length cap3, .slice ao1 l.length cap1, .int .i64 m, .slice ao5 (forH l m).length cap5, .bool true, .bool true, .slice ao2 (putH l x).length cap2, .int .i64 (((putH l x).length : Nat) : Int), .int .i64 ((i : Nat) : Int), us1 1, us1 2, us1 3, us1 4, us1 5, us1 6, us1 7, undef, undef, undef, undef, undef, undef, undef, undef, undef, undef, undef, undef, undef, undef, undef, undef, undef, undef, undef].toArray, []⟩ ∧ i ≤ (putH l x).length ∧ Gro w wv ∧ OW kH 28 wv w.heap.size ao1 cap1 l ∧ OW kH 26 wv w.heap.size ao3 cap3 (forH l m) ∧ OW kH 26 wv w.heap.size ao2 cap2 L2 ∧ L2.length = (putH l x).length) ?_ _ ⟨0, (putH l x), (fun kz => ([undef, undef, undef, undef, undef, undef, undef, undef] : List Value).getD kz undef), rfl, rfl, Nat.zero_le _, GG, HO1, HO3, HO2, rfl⟩
  clear GG HO1 HO2 HO3
  rintro mz az wv ⟨i, L2, us1, rfl, rfl, hi, GG, HO1, HO3, HO2, hL2⟩
  refine wp_seq ?_
  refine wp_region_lit ?_
  cases hi1 : decide (((i : Nat) : Int) < (((putH l x).length : Nat) : Int))
  · have hie : i = (putH l x).length := by have := of_decide_eq_false hi1; omega
    refine s_val 42 rfl rfl (.bool false) (run_lssT 3 _ _ _ rfl ((i : Nat) : Int) (((putH l x).length : Nat) : Int) rfl rfl false hi1 _) ?_
    refine nr ?_; intro U h; simp only [z0, z1] at h; subst h
    refine wpList_nil ?_
    refine then_n ?_
    refine wp_seq ?_
    refine wp_cond_false rfl ?_
    refine wp_exit ?_
    refine then_x ?_
    refine then_x ?_
    refine blk_x ?_
    refine then_n ?_
    refine wp_seq ?_
    refine wp_seq ?_
    refine wp_region_lit ?_
    refine s_val 49 rfl rfl (.slice ao3 (forH l m).length cap3) (rfl) ?_
    refine nr ?_; intro U h; simp only [z0, z1] at h; subst h
    refine s_val 50 rfl rfl (.int .i64 (((forH l m).length : Nat) : Int)) (run_len Try.underlying24 _ rfl _ _ _ rfl _) ?_
    refine nr ?_; intro U h; simp only [z0, z1] at h; subst h
    refine s_val 51 rfl rfl (.int .i64 0) (rfl) ?_
    refine nr ?_; intro U h; simp only [z0, z1] at h; subst h
    refine wpList_nil ?_
    refine then_n ?_
    refine wp_block ?_
    refine wp_loopN (fun mz az wv => ∃ (j : Nat) (L3 : List Hd) (us2 : Nat → Value), mz = (forH l m).length + 1 - j ∧ az = ⟨[.slice ao l.length cap, .agg (hdA x), .int .i64 m, undef, .pointer (some ⟨g1, 0, none⟩), undef, .bool false, .slice ao1 l.length cap1, .slice ao2 (putH l x).length cap2, .slice ao3 (forH l m).length cap3, .bool true, us1 0, us2 0, .slice ao l.length cap, .slice ao1 l.length cap1, .slice ao l.length cap, .agg (hdA x), .slice ao2 (putH l x).length cap2, .slice ao l.length cap, .int .i64 m, .slice ao3 (forH l m).length cap3, .slice ao2 (putH l x).length cap2, .slice ao1 l.length cap1, .pointer (some ⟨g1, 0, none⟩), .int .i64 x.n, .pointer (some ⟨g1, 1, none⟩), .agg (idA x.id), .pointer (some ⟨g1, 17, none⟩), .int .i64 x.far, .agg (hdA (mkH x.n x.id x.far)), .slice ao4 (putH l x).length cap4, .bool true, .bool true, .slice ao3 (forH l m).length cap3, .slice ao1 l.length cap1, .int .i64 m, .slice ao5 (forH l m).length cap5, .bool true, .bool true, .slice ao2 (putH l x).length cap2, .int .i64 (((putH l x).length : Nat) : Int), .int .i64 ((i : Nat) : Int), .bool false, us1 2, us1 3, us1 4, us1 5, us1 6, us1 7, .slice ao3 (forH l m).length cap3, .int .i64 (((forH l m).length : Nat) : Int), .int .i64 ((j : Nat) : Int), us2 1, us2 2, us2 3, us2 4, us2 5, us2 6, us2 7, undef, undef, undef, undef, undef, undef, undef, undef, undef].toArray, []⟩ ∧ j ≤ (forH l m).length ∧ Gro w wv ∧ OW kH 28 wv w.heap.size ao1 cap1 l ∧ OW kH 26 wv w.heap.size ao3 cap3 L3 ∧ L3.length = (forH l m).length) ?_ _ ⟨0, (forH l m), (fun kz => ([undef, undef, undef, undef, undef, undef, undef, undef] : List Value).getD kz undef), rfl, rfl, Nat.zero_le _, GG, HO1, HO3, rfl⟩
    clear GG HO1 HO3
    rintro mz az wv ⟨j, L3, us2, rfl, rfl, hj, GG, HO1, HO3, hL3⟩
    refine wp_seq ?_
    refine wp_region_lit ?_
    cases hj1 : decide (((j : Nat) : Int) < (((forH l m).length : Nat) : Int))
    · have hje : j = (forH l m).length := by have := of_decide_eq_false hj1; omega
      refine s_val 52 rfl rfl (.bool false) (run_lssT 3 _ _ _ rfl ((j : Nat) : Int) (((forH l m).length : Nat) : Int) rfl rfl false hj1 _) ?_
      refine nr ?_; intro U h; simp only [z0, z1] at h; subst h
      refine wpList_nil ?_
      refine then_n ?_
      refine wp_seq ?_
      refine wp_cond_false rfl ?_
      refine wp_exit ?_
      refine then_x ?_
      refine then_x ?_
      refine blk_x ?_
      refine then_n ?_
      refine wp_seq ?_
      refine wp_region_opq ?_
      intro OPS hY
      have y1 := hY 1 60 rfl
      have y4 := hY 4 63 rfl
      clear hY
      refine s_callv 59 rfl rfl _ 11 Try.call11 rfl rfl _ rfl [] rfl (fixed_any _) ?_
      intro w9 G
      replace HO1 := HO1.gro G
      replace HO3 := HO3.gro G
      replace GG := GG.trans G
      clear G
      refine nr ?_; intro U h; simp only [z0, z1] at h; subst h
      refine s_val 60 rfl rfl (.bool true) (rfl) ?_
      refine nr ?_; intro U h; simp only [z0, z1] at h; subst h
      refine s_gvalY 61 rfl rfl y1 rfl (.bool true) (rfl) ?_
      refine nr ?_; intro U h; simp only [z0, z1] at h; subst h
      refine s_val 62 rfl rfl (.bool true) (rfl) ?_
      refine nr ?_; intro U h; simp only [z0, z1] at h; subst h
      refine s_val 63 rfl rfl (.bool true) (rfl) ?_
      refine nr ?_; intro U h; simp only [z0, z1] at h; subst h
      refine s_gvalY 64 rfl rfl y4 rfl (.slice ao l.length cap) (rfl) ?_
      refine nr ?_; intro U h; simp only [z0, z1] at h; subst h
      refine s_gvalY 65 rfl rfl y4 rfl (.slice ao1 l.length cap1) (rfl) ?_
      refine nr ?_; intro U h; simp only [z0, z1] at h; subst h
      refine s_gcallvY 66 rfl rfl y4 rfl _ 14 Try.call14 rfl rfl _ rfl [.slice ao l.length cap, .slice ao1 l.length cap1] rfl (same_any _ l ao cap (HL.gro GG) ao1 cap1 HO1.re (by omega)) ?_
      intro w10 G
      replace HO1 := HO1.gro G
      replace HO3 := HO3.gro G
      replace GG := GG.trans G
      clear G
      refine nr ?_; intro U h; simp only [z0, z1] at h; subst h
      refine s_val 67 rfl rfl (.bool true) (rfl) ?_
      refine nr ?_; intro U h; simp only [z0, z1] at h; subst h
      refine s_val 6 rfl rfl (.bool true) (rfl) ?_
      refine nr ?_; intro U h; simp only [z0, z1] at h; subst h
      refine wpList_nil ?_
      refine then_n ?_
      refine wp_ret ?_
      refine bodyPost_ret (results_tmp Try.results4 _ _ _) rfl ?_
      exact ⟨rfl, GG⟩
    · have hjl : j < (forH l m).length := by have := of_decide_eq_true hj1; omega
      refine s_val 52 rfl rfl (.bool true) (run_lssT 3 _ _ _ rfl ((j : Nat) : Int) (((forH l m).length : Nat) : Int) rfl rfl true hj1 _) ?_
      refine nr ?_; intro U h; simp only [z0, z1] at h; subst h
      refine wpList_nil ?_
      refine then_n ?_
      refine wp_seq ?_
      refine wp_cond_true rfl ?_
      refine wp_skip ?_
      refine then_n ?_
      refine wp_seq ?_
      refine wp_block ?_
      refine wp_seq ?_
      refine wp_region_lit ?_
      refine s_val 53 rfl rfl (.int .i64 ((j : Nat) : Int)) (rfl) ?_
      refine nr ?_; intro U h; simp only [z0, z1] at h; subst h
      refine s_val 12 rfl rfl (.int .i64 ((j : Nat) : Int)) (rfl) ?_
      refine nr ?_; intro U h; simp only [z0, z1] at h; subst h
      refine wpList_nil ?_
      refine then_n ?_
      refine wp_region_lit ?_
      refine s_val 54 rfl rfl (.slice ao3 (forH l m).length cap3) (rfl) ?_
      refine nr ?_; intro U h; simp only [z0, z1] at h; subst h
      refine s_val 55 rfl rfl (.int .i64 ((j : Nat) : Int)) (rfl) ?_
      refine nr ?_; intro U h; simp only [z0, z1] at h; subst h
      refine s_val 56 rfl rfl (.pointer (pK kH ao3 j 0)) (run_ixK rH (HO3.re) _ _ rfl (by rw [hL3]; rfl) j rfl (by rw [hL3]; exact hjl)) ?_
      refine nr ?_; intro U h; simp only [z0, z1] at h; subst h
      refine s_val 57 rfl rfl (.pointer (pK kH ao3 j 17)) (run_fdK (HO3.re) 26 _ 2 17 (fdH_2 _) rfl j rfl (by rw [hL3]; exact hjl)) ?_
      refine nr ?_; intro U h; simp only [z0, z1] at h; subst h
      refine s_stK rfl rfl 2 _ _ rfl HO3 j 17 (by rw [hL3]; exact hjl) rfl (.int .i64 78) rfl [.int .i64 78] rfl si2 (by decide) (by decide) (fun v hv => by rw [List.mem_singleton.1 hv]; rfl) ({ (L3.getD j zH) with far := 78 }) (spl_far _ _) (⟨(atH HO3.re (by rw [hL3]; exact hjl)).n, (atH HO3.re (by rw [hL3]; exact hjl)).id, i64_78⟩) ?_
      intro w9 HO32 G2
      replace HO1 := HO1.other G2 (HO1.tapart HO3 (by decide))
      replace GG := G2.gro GG (fun k hk => HO3.own.base k hk)
      clear G2 HO3
      have HO3 := HO32
      clear HO32
      refine wpList_nil ?_
      refine blk_n ?_
      refine then_n ?_
      refine wp_region_lit ?_
      refine s_val 58 rfl rfl (.int .i64 ((j + 1 : Nat) : Int)) (run_addI 3 _ _ _ rfl ((j : Nat) : Int) 1 ((j + 1 : Nat) : Int) rfl rfl (by omega) (by omega) (by omega) _) ?_
      refine nr ?_; intro U h; simp only [z0, z1] at h; subst h
      refine s_val 51 rfl rfl (.int .i64 ((j + 1 : Nat) : Int)) (rfl) ?_
      refine nr ?_; intro U h; simp only [z0, z1] at h; subst h
      refine wpList_nil ?_
      refine then_n ?_
      exact ⟨(forH l m).length + 1 - (j + 1), by omega, j + 1, L3.set j _, (fun kz => ([.int .i64 ((j : Nat) : Int), .bool true, .int .i64 ((j : Nat) : Int), .slice ao3 (forH l m).length cap3, .int .i64 ((j : Nat) : Int), .pointer (pK kH ao3 j 0), .pointer (pK kH ao3 j 17), .int .i64 ((j + 1 : Nat) : Int)] : List Value).getD kz undef), rfl, rfl, by omega, GG, HO1, HO3, by rw [List.length_set]; exact hL3⟩
  · have hil : i < (putH l x).length := by have := of_decide_eq_true hi1; omega
    refine s_val 42 rfl rfl (.bool true) (run_lssT 3 _ _ _ rfl ((i : Nat) : Int) (((putH l x).length : Nat) : Int) rfl rfl true hi1 _) ?_
    refine nr ?_; intro U h; simp only [z0, z1] at h; subst h
    refine wpList_nil ?_
    refine then_n ?_
    refine wp_seq ?_
    refine wp_cond_true rfl ?_
    refine wp_skip ?_
    refine then_n ?_
    refine wp_seq ?_
    refine wp_block ?_
    refine wp_seq ?_
    refine wp_region_lit ?_
    refine s_val 43 rfl rfl (.int .i64 ((i : Nat) : Int)) (rfl) ?_
    refine nr ?_; intro U h; simp only [z0, z1] at h; subst h
    refine s_val 11 rfl rfl (.int .i64 ((i : Nat) : Int)) (rfl) ?_
    refine nr ?_; intro U h; simp only [z0, z1] at h; subst h
    refine wpList_nil ?_
    refine then_n ?_
    refine wp_region_lit ?_
    refine s_val 44 rfl rfl (.slice ao2 (putH l x).length cap2) (rfl) ?_
    refine nr ?_; intro U h; simp only [z0, z1] at h; subst h
    refine s_val 45 rfl rfl (.int .i64 ((i : Nat) : Int)) (rfl) ?_
    refine nr ?_; intro U h; simp only [z0, z1] at h; subst h
    refine s_val 46 rfl rfl (.pointer (pK kH ao2 i 0)) (run_ixK rH (HO2.re) _ _ rfl (by rw [hL2]; rfl) i rfl (by rw [hL2]; exact hil)) ?_
    refine nr ?_; intro U h; simp only [z0, z1] at h; subst h
    refine s_val 47 rfl rfl (.pointer (pK kH ao2 i 17)) (run_fdK (HO2.re) 26 _ 2 17 (fdH_2 _) rfl i rfl (by rw [hL2]; exact hil)) ?_
    refine nr ?_; intro U h; simp only [z0, z1] at h; subst h
    refine s_stK rfl rfl 2 _ _ rfl HO2 i 17 (by rw [hL2]; exact hil) rfl (.int .i64 77) rfl [.int .i64 77] rfl si2 (by decide) (by decide) (fun v hv => by rw [List.mem_singleton.1 hv]; rfl) ({ (L2.getD i zH) with far := 77 }) (spl_far _ _) (⟨(atH HO2.re (by rw [hL2]; exact hil)).n, (atH HO2.re (by rw [hL2]; exact hil)).id, i64_77⟩) ?_
    intro w9 HO22 G2
    replace HO1 := HO1.other G2 (HO1.tapart HO2 (by decide))
    replace HO3 := HO3.other G2 ha3_2
    replace GG := G2.gro GG (fun k hk => HO2.own.base k hk)
    clear G2 HO2
    have HO2 := HO22
    clear HO22
    refine wpList_nil ?_
    refine blk_n ?_
    refine then_n ?_
    refine wp_region_lit ?_
    refine s_val 48 rfl rfl (.int .i64 ((i + 1 : Nat) : Int)) (run_addI 3 _ _ _ rfl ((i : Nat) : Int) 1 ((i + 1 : Nat) : Int) rfl rfl (by omega) (by omega) (by omega) _) ?_
    refine nr ?_; intro U h; simp only [z0, z1] at h; subst h
    refine s_val 41 rfl rfl (.int .i64 ((i + 1 : Nat) : Int)) (rfl) ?_
    refine nr ?_; intro U h; simp only [z0, z1] at h; subst h
    refine wpList_nil ?_
    refine then_n ?_
    exact ⟨(putH l x).length + 1 - (i + 1), by omega, i + 1, L2.set i _, (fun kz => ([.int .i64 ((i : Nat) : Int), .bool true, .int .i64 ((i : Nat) : Int), .slice ao2 (putH l x).length cap2, .int .i64 ((i : Nat) : Int), .pointer (pK kH ao2 i 0), .pointer (pK kH ao2 i 17), .int .i64 ((i + 1 : Nat) : Int)] : List Value).getD kz undef), rfl, rfl, by omega, GG, HO1, HO3, HO2, by rw [List.length_set]; exact hL2⟩
end Go.Proofs.Ytljihaihhnamfaa
