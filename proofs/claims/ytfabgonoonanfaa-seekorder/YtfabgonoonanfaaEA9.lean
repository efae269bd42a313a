/- The document's: copies, what comes ahead, for whom one asks; the example. -/
import Derived.Test.YtfabgonoonanfaaEA8
import Derived.Test.YtfabgonoonanfaaEI13
namespace Go.Proofs.Ytfabgonoonanfaa
open Go.RowKit
theorem RK.take {α : Type} {K : Kd α} {w : World} {ao : Option Addr} {cap : Nat} {l : List α} (h : RK K w ao cap l) (k : Nat) : RK K w ao (l.take k).length (l.take k) := by
  have hx := h.xc
  refine ⟨⟨flx_len K.len _, Nat.le_refl _, fun hn => ?_, fun ad ha j v hv => ?_, fl_oneK⟩, fun x hx => h.all x (List.mem_of_mem_take hx)⟩
  · have h1 := hx.bare hn
    have h2 := hx.fit
    rw [List.length_take]
    omega
  · rw [← flx_take K.len, List.getElem?_take] at hv
    split at hv
    · exact hx.cell ad ha j v hv
    · cases hv
theorem run_cut3K {P : Program} {o : Oper} {A : Act} {t e : TypeId} {sz b : Nat} {z : Value} (T : RowT P t e sz b z) (x z u : Operand) (ho : o.op = .slice t x none (some z) (some u)) (ao : Option Addr) (n cap j : Nat) (m : Int) (hm : m = (j : Int)) (hx : A.eval x = .slice ao n cap) (hz : A.eval z = .int .i64 m) (hu : A.eval u = .int .i64 m) (hj : j ≤ cap) (w : World) : (execOp A.eval o).run P w = .ok (.value (.slice ao j j)) w := by
  subst hm
  exact run_cut3Xi T x z u ho ao n cap j hx hz hu hj w
set_option maxRecDepth 100000 in
set_option maxHeartbeats 4000000 in
theorem cutI_any (w : World) (ao : Option Addr) (cap : Nat) (l : List Nat) (HL : RK kI w ao cap l) (k : Nat) : Calls Try.prog 7 #[.slice ao l.length cap, .int .i64 ((k : Nat) : Int)] w (fun e w' => e = .returned (.slice ao (l.take k).length (l.take k).length) ∧ Gro w w') := by
  refine s_enter Try.func7 rfl Try.ntmps7 [.slice ao l.length cap, .int .i64 ((k : Nat) : Int)] [.slice ao l.length cap, .int .i64 ((k : Nat) : Int), undef, undef, undef, undef, undef, undef, undef, undef, undef, undef, undef, undef, undef] rfl ?_
  have GG := Gro.refl w
  refine wp_seq ?_
  refine wp_region_lit ?_
  refine s_val 4 rfl rfl (.slice none 0 0) (rfl) ?_
  refine nr ?_; intro U h; simp only [z0, z1] at h; subst h
  refine wpList_nil ?_
  refine then_n ?_
  refine wp_seq ?_
  refine wp_region_lit ?_
  refine s_val 5 rfl rfl (.slice ao l.length cap) (rfl) ?_
  refine nr ?_; intro U h; simp only [z0, z1] at h; subst h
  refine s_val 6 rfl rfl (.slice ao l.length cap) (rfl) ?_
  refine nr ?_; intro U h; simp only [z0, z1] at h; subst h
  refine s_val 7 rfl rfl (.int .i64 ((l.length : Nat) : Int)) (run_len Try.underlying24 _ rfl _ _ _ rfl _) ?_
  refine nr ?_; intro U h; simp only [z0, z1] at h; subst h
  refine s_val 8 rfl rfl (.int .i64 ((k : Nat) : Int)) (rfl) ?_
  refine nr ?_; intro U h; simp only [z0, z1] at h; subst h
  refine s_val 9 rfl rfl (.int .i64 (min ((l.length : Nat) : Int) ((k : Nat) : Int))) (run_minI _ _ _ rfl ((l.length : Nat) : Int) ((k : Nat) : Int) rfl rfl _) ?_
  refine nr ?_; intro U h; simp only [z0, z1] at h; subst h
  refine s_val 10 rfl rfl (.slice ao l.length cap) (rfl) ?_
  refine nr ?_; intro U h; simp only [z0, z1] at h; subst h
  refine s_val 11 rfl rfl (.int .i64 ((l.length : Nat) : Int)) (run_len Try.underlying24 _ rfl _ _ _ rfl _) ?_
  refine nr ?_; intro U h; simp only [z0, z1] at h; subst h
  refine s_val 12 rfl rfl (.int .i64 ((k : Nat) : Int)) (rfl) ?_
  refine nr ?_; intro U h; simp only [z0, z1] at h; subst h
  refine s_val 13 rfl rfl (.int .i64 (min ((l.length : Nat) : Int) ((k : Nat) : Int))) (run_minI _ _ _ rfl ((l.length : Nat) : Int) ((k : Nat) : Int) rfl rfl _) ?_
  refine nr ?_; intro U h; simp only [z0, z1] at h; subst h
  refine s_val 14 rfl rfl (.slice ao (l.take k).length (l.take k).length) (run_cut3K rIk _ _ _ rfl ao l.length cap (l.take k).length (min (((l.length : Nat)) : Int) ((k : Nat) : Int)) (by rw [List.length_take]; omega) rfl rfl rfl (by have := HL.xc.fit; rw [List.length_take]; omega) _) ?_
  refine nr ?_; intro U h; simp only [z0, z1] at h; subst h
  refine s_val 4 rfl rfl (.slice ao (l.take k).length (l.take k).length) (rfl) ?_
  refine nr ?_; intro U h; simp only [z0, z1] at h; subst h
  refine wpList_nil ?_
  refine then_n ?_
  refine wp_ret ?_
  refine bodyPost_ret (results_tmp Try.results7 _ _ _) rfl ?_
  exact ⟨rfl, GG⟩
set_option maxRecDepth 100000 in
set_option maxHeartbeats 4000000 in
theorem cutC_any (w : World) (ao : Option Addr) (cap : Nat) (l : List Cd) (HL : RK kC w ao cap l) (k : Nat) : Calls Try.prog 8 #[.slice ao l.length cap, .int .i64 ((k : Nat) : Int)] w (fun e w' => e = .returned (.slice ao (l.take k).length (l.take k).length) ∧ Gro w w') := by
  refine s_enter Try.func8 rfl Try.ntmps8 [.slice ao l.length cap, .int .i64 ((k : Nat) : Int)] [.slice ao l.length cap, .int .i64 ((k : Nat) : Int), undef, undef, undef, undef, undef, undef, undef, undef, undef, undef, undef, undef, undef] rfl ?_
  have GG := Gro.refl w
  refine wp_seq ?_
  refine wp_region_lit ?_
  refine s_val 4 rfl rfl (.slice none 0 0) (rfl) ?_
  refine nr ?_; intro U h; simp only [z0, z1] at h; subst h
  refine wpList_nil ?_
  refine then_n ?_
  refine wp_seq ?_
  refine wp_region_lit ?_
  refine s_val 5 rfl rfl (.slice ao l.length cap) (rfl) ?_
  refine nr ?_; intro U h; simp only [z0, z1] at h; subst h
  refine s_val 6 rfl rfl (.slice ao l.length cap) (rfl) ?_
  refine nr ?_; intro U h; simp only [z0, z1] at h; subst h
  refine s_val 7 rfl rfl (.int .i64 ((l.length : Nat) : Int)) (run_len Try.underlying25 _ rfl _ _ _ rfl _) ?_
  refine nr ?_; intro U h; simp only [z0, z1] at h; subst h
  refine s_val 8 rfl rfl (.int .i64 ((k : Nat) : Int)) (rfl) ?_
  refine nr ?_; intro U h; simp only [z0, z1] at h; subst h
  refine s_val 9 rfl rfl (.int .i64 (min ((l.length : Nat) : Int) ((k : Nat) : Int))) (run_minI _ _ _ rfl ((l.length : Nat) : Int) ((k : Nat) : Int) rfl rfl _) ?_
  refine nr ?_; intro U h; simp only [z0, z1] at h; subst h
  refine s_val 10 rfl rfl (.slice ao l.length cap) (rfl) ?_
  refine nr ?_; intro U h; simp only [z0, z1] at h; subst h
  refine s_val 11 rfl rfl (.int .i64 ((l.length : Nat) : Int)) (run_len Try.underlying25 _ rfl _ _ _ rfl _) ?_
  refine nr ?_; intro U h; simp only [z0, z1] at h; subst h
  refine s_val 12 rfl rfl (.int .i64 ((k : Nat) : Int)) (rfl) ?_
  refine nr ?_; intro U h; simp only [z0, z1] at h; subst h
  refine s_val 13 rfl rfl (.int .i64 (min ((l.length : Nat) : Int) ((k : Nat) : Int))) (run_minI _ _ _ rfl ((l.length : Nat) : Int) ((k : Nat) : Int) rfl rfl _) ?_
  refine nr ?_; intro U h; simp only [z0, z1] at h; subst h
  refine s_val 14 rfl rfl (.slice ao (l.take k).length (l.take k).length) (run_cut3K rC _ _ _ rfl ao l.length cap (l.take k).length (min (((l.length : Nat)) : Int) ((k : Nat) : Int)) (by rw [List.length_take]; omega) rfl rfl rfl (by have := HL.xc.fit; rw [List.length_take]; omega) _) ?_
  refine nr ?_; intro U h; simp only [z0, z1] at h; subst h
  refine s_val 4 rfl rfl (.slice ao (l.take k).length (l.take k).length) (rfl) ?_
  refine nr ?_; intro U h; simp only [z0, z1] at h; subst h
  refine wpList_nil ?_
  refine then_n ?_
  refine wp_ret ?_
  refine bodyPost_ret (results_tmp Try.results8 _ _ _) rfl ?_
  exact ⟨rfl, GG⟩
set_option maxRecDepth 100000 in
set_option maxHeartbeats 4000000 in
theorem n_any (x : Nat) (hx : x < 256) (w : World) : Calls Try.prog 28 #[.int .u8 ((x : Nat) : Int)] w (fun e w' => e = .returned (.agg (idA x)) ∧ Gro w w') := by
  refine s_enter Try.func28 rfl Try.ntmps28 [.int .u8 ((x : Nat) : Int)] [.int .u8 ((x : Nat) : Int), undef, undef, undef, undef] rfl ?_
  have GG := Gro.refl w
  refine wp_seq ?_
  refine wp_region_lit ?_
  refine s_alloc 2 rfl rfl 23 rfl _ zero23 (idA 0) rfl ?_
  intro w1 g1 G eg1 kg1
  have bg1 := size_base GG eg1
  replace GG := GG.trans G
  clear G
  clear eg1
  refine nr ?_; intro U h; simp only [z0, z1] at h; subst h
  refine wpList_nil ?_
  refine then_n ?_
  refine wp_seq ?_
  refine wp_region_lit ?_
  refine s_val 3 rfl rfl (.int .u8 ((x : Nat) : Int)) (rfl) ?_
  refine nr ?_; intro U h; simp only [z0, z1] at h; subst h
  refine s_val 4 rfl rfl (.agg (idA x)) (run_build_n _ rfl x rfl hx _) ?_
  refine nr ?_; intro U h; simp only [z0, z1] at h; subst h
  refine s_store rfl rfl 23 _ _ rfl g1 0 rfl (.agg (idA x)) rfl 23 _ kg1 (idA x) rfl (size23' _) (idA_fit _ _) (idA_one _) (idA x) (splice_whole _ _ (idA_sz _ _)) ?_
  intro w2 St
  have kS := kg1
  replace GG := GG.store St bg1
  replace kg1 := St.new
  clear St
  refine wpList_nil ?_
  refine then_n ?_
  refine wp_ret ?_
  refine bodyPost_ret (results_cell_row Try.results28 _ _ g1 23 _ (0, 0) _ rfl kg1 Try.underlying23 rfl (size23' _)) rfl ?_
  exact ⟨rfl, GG⟩
/-- Which one was found: its place, or none. -/
def AtC (x : Nat) (l : List Cd) (k : Nat) (t : Int) : Prop := (t = -1 ∧ bstC x (l.take k) = none) ∨ ∃ a : Nat, t = (a : Int) ∧ a < k ∧ a < l.length ∧ bstC x (l.take k) = some (l.getD a zC)
theorem AtC.some {x : Nat} {l : List Cd} {k : Nat} {t : Int} (h : AtC x l k t) (ht : ¬ t < 0) : ∃ a : Nat, t = (a : Int) ∧ a < k ∧ a < l.length ∧ bstC x (l.take k) = some (l.getD a zC) := by
  rcases h with ⟨h1, _⟩ | h
  · omega
  · exact h
def fxL : List Cd := [mkC 7 1 0 (mkP 0 3), mkC 7 0 2 zP, mkC 20 3 1 zP]
theorem fxA : askC 5 [9] fxL 1 = [mkC 7 0 2 zP, mkC 20 3 1 zP] := by kernel_rfl
theorem three_all {α : Type} {p : α → Prop} {x y z : α} (h : p x) (k : p y) (m : p z) : ∀ u ∈ [x, y, z], p u := fun u hu => by
  simp only [List.mem_cons, List.not_mem_nil, or_false] at hu
  rcases hu with rfl | rfl | rfl
  · exact h
  · exact k
  · exact m
theorem sm_i64 {x : Int} (h1 : 0 ≤ x) (h2 : x ≤ 100) : I64 x := ⟨by omega, by omega⟩
end Go.Proofs.Ytfabgonoonanfaa
