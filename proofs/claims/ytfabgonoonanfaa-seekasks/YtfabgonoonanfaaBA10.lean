/- The example; the law that for whom a node asks is the document's. -/
import Derived.Test.YtfabgonoonanfaaBA9
namespace Go.Proofs.Ytfabgonoonanfaa
open Go.RowKit
/-- What is known, in memory. -/
def knA (s : Nat) (fo : Option Addr) (fn fc : Nat) (ao : Option Addr) (n cap : Nat) (half : Int) : Array Value := ((idA s).toList ++ [Value.slice fo fn fc, Value.slice ao n cap, Value.int .i64 half]).toArray
theorem knA_size (s : Nat) (fo : Option Addr) (fn fc : Nat) (ao : Option Addr) (n cap : Nat) (half : Int) : (knA s fo fn fc ao n cap half).size = 19 := by simp [knA, idA]
section
variable {o : Oper} {A : Act} {w : World} {s : Nat} {fo : Option Addr} {fn fc : Nat} {ao : Option Addr} {n cap : Nat} {half : Int}
theorem ldK0 (y : Operand) (ho : o.op = .load 23 y) (g : Nat) (hx : A.eval y = .pointer (some ⟨g, 0, none⟩)) (hg : w.heap[g]? = some (.cells (knA s fo fn fc ao n cap half) 27 (0, 0))) : (execOp A.eval o).run Try.prog w = .ok (.value (.agg (idA s))) w :=
  run_lda 23 y ho g 0 16 hx 27 _ hg _ Try.underlying23 rfl size23 (by rw [knA_size]; decide) _ (by kernel_rfl)
theorem ldK16 (y : Operand) (ho : o.op = .load 24 y) (g : Nat) (hx : A.eval y = .pointer (some ⟨g, 16, none⟩)) (hg : w.heap[g]? = some (.cells (knA s fo fn fc ao n cap half) 27 (0, 0))) : (execOp A.eval o).run Try.prog w = .ok (.value (.slice fo fn fc)) w :=
  run_ldc 24 y ho g 16 hx 27 _ hg (na24 w) _ (by kernel_rfl)
theorem ldK17 (y : Operand) (ho : o.op = .load 25 y) (g : Nat) (hx : A.eval y = .pointer (some ⟨g, 17, none⟩)) (hg : w.heap[g]? = some (.cells (knA s fo fn fc ao n cap half) 27 (0, 0))) : (execOp A.eval o).run Try.prog w = .ok (.value (.slice ao n cap)) w :=
  run_ldc 25 y ho g 17 hx 27 _ hg (na25 w) _ (by kernel_rfl)
theorem ldK18 (y : Operand) (ho : o.op = .load 3 y) (g : Nat) (hx : A.eval y = .pointer (some ⟨g, 18, none⟩)) (hg : w.heap[g]? = some (.cells (knA s fo fn fc ao n cap half) 27 (0, 0))) : (execOp A.eval o).run Try.prog w = .ok (.value (.int .i64 half)) w :=
  run_ldc 3 y ho g 18 hx 27 _ hg (na3 w) _ (by kernel_rfl)
end
/-- A pointer into a row that an operation of a region made. -/
def ptrK {α : Type} (K : Kd α) (L : List α) (j : Nat) : PostE := PostE.ex (fun v x => ∃ ao cap, v = .pointer (pK K ao j 0) ∧ RK K x ao cap L) (fun _ _ _ G ⟨a, c, h1, h2⟩ => ⟨a, c, h1, h2.gro G⟩)
theorem fill_ptrK {α : Type} (K : Kd α) (L : List α) (j : Nat) (v : Value) : (ptrK K L j).fill v = v := rfl
theorem sameK (w : World) (ao : Option Addr) (cap : Nat) (l : List Nat) (H : RK kI w ao cap l) (hl : l.length ≤ 1000000) (bo : Option Addr) (bap : Nat) (HM : RK kI w bo bap l) : Calls Try.prog 13 #[.slice ao l.length cap, .slice bo l.length bap] w (fun e w' => e = .returned (.bool true) ∧ Gro w w') :=
  Calls.bool (same_ids w ao cap l H.rc hl bo bap l HM.rc hl) (decide_eq_true rfl)
theorem askC_len {s : Nat} {fr : List Nat} {l : List Cd} {half : Int} : (askC s fr l half).length ≤ fr.length + l.length := by unfold askC; rw [List.length_map]; exact ask_len
set_option maxRecDepth 100000 in
set_option maxHeartbeats 4000000 in
theorem fixed_any (w : World) : Calls Try.prog 14 #[] w (fun e w' => e = .returned (.bool true) ∧ Gro w w') := by
  refine s_enter Try.func14 rfl Try.ntmps14 [] [undef, undef, undef, undef, undef, undef, undef, undef, undef, undef, undef, undef, undef, undef, undef, undef, undef, undef, undef, undef, undef, undef, undef, undef, undef, undef, undef, undef, undef, undef, undef, undef, undef, undef, undef, undef, undef] rfl ?_
  have GG := Gro.refl w
  refine wp_seq ?_
  refine wp_region_lit ?_
  refine s_val 0 rfl rfl (.bool false) (rfl) ?_
  refine nr ?_; intro U h; simp only [z0] at h; subst h
  refine wpList_nil ?_
  refine then_n ?_
  refine wp_seq ?_
  refine wp_region_lit ?_
  refine s_callv 2 rfl rfl _ 28 Try.call28 rfl rfl _ rfl [.int .u8 5] rfl (n_any 5 (by decide) _) ?_
  intro w1 G
  replace GG := GG.trans G
  clear G
  refine nr ?_; intro U h; simp only [z0, z1] at h; subst h
  refine s_callv 3 rfl rfl _ 28 Try.call28 rfl rfl _ rfl [.int .u8 9] rfl (n_any 9 (by decide) _) ?_
  intro w2 G
  replace GG := GG.trans G
  clear G
  refine nr ?_; intro U h; simp only [z0, z1] at h; subst h
  refine s_bsl 4 rfl rfl 24 1 _ rfl [(0, .agg (idA 9))] rfl ([9].flatMap kI.E).toArray 23 (bsI 9 _) ?_
  intro w3 q1 G eq1 kq1
  have bq1 := size_base GG eq1
  replace GG := GG.trans G
  clear G
  have HR1 : RK kI _ (some ⟨q1, 0, none⟩) 1 [9] := RK.blk kq1 (one_all (show 9 < top by decide)) (Nat.le_refl _)
  clear eq1
  refine nr ?_; intro U h; simp only [z0, z1] at h; subst h
  refine s_callv 5 rfl rfl _ 28 Try.call28 rfl rfl _ rfl [.int .u8 7] rfl (n_any 7 (by decide) _) ?_
  intro w4 G
  replace HR1 := HR1.gro G
  replace GG := GG.trans G
  clear G
  refine nr ?_; intro U h; simp only [z0, z1] at h; subst h
  refine s_val 6 rfl rfl (.agg (paA (mkP 0 3))) (run_bd 31 _ rfl [(1, .int .i64 3)] rfl _ (bdP1 _ _)) ?_
  refine nr ?_; intro U h; simp only [z0, z1] at h; subst h
  refine s_val 7 rfl rfl (.agg (cdA (mkC 7 1 0 (mkP 0 3)))) (run_bd 33 _ rfl [(0, .agg (idA 7)), (1, .int .i64 1), (3, .agg (paA (mkP 0 3)))] rfl _ (bdC013 _ _ _ _)) ?_
  refine nr ?_; intro U h; simp only [z0, z1] at h; subst h
  refine s_callv 8 rfl rfl _ 28 Try.call28 rfl rfl _ rfl [.int .u8 7] rfl (n_any 7 (by decide) _) ?_
  intro w5 G
  replace HR1 := HR1.gro G
  replace GG := GG.trans G
  clear G
  refine nr ?_; intro U h; simp only [z0, z1] at h; subst h
  refine s_val 9 rfl rfl (.agg (cdA (mkC 7 0 2 zP))) (run_bd 33 _ rfl [(0, .agg (idA 7)), (2, .int .i64 2)] rfl _ (bdC02 _ _ _)) ?_
  refine nr ?_; intro U h; simp only [z0, z1] at h; subst h
  refine s_callv 10 rfl rfl _ 28 Try.call28 rfl rfl _ rfl [.int .u8 20] rfl (n_any 20 (by decide) _) ?_
  intro w6 G
  replace HR1 := HR1.gro G
  replace GG := GG.trans G
  clear G
  refine nr ?_; intro U h; simp only [z0, z1] at h; subst h
  refine s_val 11 rfl rfl (.agg (cdA (mkC 20 3 1 zP))) (run_bd 33 _ rfl [(0, .agg (idA 20)), (1, .int .i64 3), (2, .int .i64 1)] rfl _ (bdC012 _ _ _ _)) ?_
  refine nr ?_; intro U h; simp only [z0, z1] at h; subst h
  refine s_bsl 12 rfl rfl 25 3 _ rfl [(0, .agg (cdA (mkC 7 1 0 (mkP 0 3)))), (1, .agg (cdA (mkC 7 0 2 zP))), (2, .agg (cdA (mkC 20 3 1 zP)))] rfl (fxL.flatMap kC.E).toArray 33 (bsC3 (mkC 7 1 0 (mkP 0 3)) (mkC 7 0 2 zP) (mkC 20 3 1 zP) _) ?_
  intro w7 q3 G eq3 kq3
  replace HR1 := HR1.gro G
  replace GG := GG.trans G
  clear G
  have HR3 : RK kC _ (some ⟨q3, 0, none⟩) 3 fxL := RK.blk kq3 (three_all (mkC_ok (by decide) (sm_i64 (by decide) (by decide)) (sm_i64 (by decide) (by decide)) (mkP_ok top_0 (sm_i64 (by decide) (by decide)))) (mkC_ok (by decide) (sm_i64 (by decide) (by decide)) (sm_i64 (by decide) (by decide)) zP_ok) (mkC_ok (by decide) (sm_i64 (by decide) (by decide)) (sm_i64 (by decide) (by decide)) zP_ok)) (Nat.le_refl _)
  clear eq3
  refine nr ?_; intro U h; simp only [z0, z1] at h; subst h
  refine s_callx 13 rfl rfl _ 11 Try.call11 rfl rfl _ rfl [.agg (idA 5), .slice (some ⟨q1, 0, none⟩) 1 1, .slice (some ⟨q3, 0, none⟩) 3 3, .int .i64 1] rfl (asks_any _ 5 (by decide) 1 _ _ [9] HR1 (by decide) _ _ fxL HR3 (by decide)) (by rintro _ _ ⟨_, _, he, _⟩; exact ⟨_, he⟩) ?_
  rintro v w8 ⟨xo, xc, he, G, HX⟩
  cases he
  replace HR1 := HR1.gro G
  replace HR3 := HR3.gro G
  replace GG := GG.trans G
  clear G
  rw [fxA] at HX ⊢
  replace HX := HX.re
  refine nr ?_; intro U h; simp only [z0, z1] at h; subst h
  refine s_val 1 rfl rfl (.slice xo 2 xc) (rfl) ?_
  refine nr ?_; intro U h; simp only [z0, z1] at h; subst h
  refine wpList_nil ?_
  refine then_n ?_
  refine wp_seq ?_
  refine wp_region_exA (A := ?Ax1) 18 [(0, 14), (1, 15), (2, 16), (3, 17), (4, 18), (5, 19), (6, 20), (7, 21), (8, 22), (9, 23), (10, 24), (11, 25), (12, 26), (13, 27), (14, 28), (15, 29), (16, 30), (17, 31)] [.val (.slice xo 2 xc), .val (.int .i64 ((2 : Nat) : Int)), .val (.bool true), .val (.bool true), .val (.slice xo 2 xc), .val (.pointer (pK kC xo 0 0)), .val (.agg (cdA ([mkC 7 0 2 zP, mkC 20 3 1 zP].getD 0 zC))), .val (.agg (idA 7)), .val (.agg (cdA (mkC 7 0 2 zP))), .val (.bool true), .val (.bool true), .val (.bool true), .val (.slice xo 2 xc), .val (.pointer (pK kC xo 1 0)), .val (.agg (cdA ([mkC 7 0 2 zP, mkC 20 3 1 zP].getD 1 zC))), .val (.agg (idA 20)), .val (.agg (cdA (mkC 20 3 1 zP))), .val (.bool true)] follows (by kernel_rfl) rfl ?hAx1 (opsA_cons ?o0x1 (opsA_cons ?o1x1 (opsA_cons ?o2x1 (opsA_cons ?o3x1 (opsA_cons ?o4x1 (opsA_cons ?o5x1 (opsA_cons ?o6x1 (opsA_cons ?o7x1 (opsA_cons ?o8x1 (opsA_cons ?o9x1 (opsA_cons ?o10x1 (opsA_cons ?o11x1 (opsA_cons ?o12x1 (opsA_cons ?o13x1 (opsA_cons ?o14x1 (opsA_cons ?o15x1 (opsA_cons ?o16x1 (opsA_cons ?o17x1 opsA_nil)))))))))))))))))) ?restx1
  case hAx1 =>
    intro ptrs
    simp only [full, foldSlots, filledE, postE, List.foldl_cons, List.foldl_nil, List.getD_cons_zero, List.getD_cons_succ, fill_val, List.set_cons_zero, List.set_cons_succ]
    exact rfl
  case o0x1 => exact fun _ _ _ _ => opE_move (v := .slice xo 2 xc) _ rfl rfl rfl
  case o1x1 => exact fun _ _ _ _ => opE_value (v := .int .i64 ((2 : Nat) : Int)) rfl (run_len Try.underlying25 _ rfl _ _ _ rfl _)
  case o2x1 => exact fun _ _ _ _ => opE_value (v := .bool true) rfl (run_eq_k 3 .i64 _ _ _ rfl Try.underlying3 ((2 : Nat) : Int) 2 rfl rfl true rfl _)
  case o3x1 => exact fun _ _ _ _ => opE_move (v := .bool true) _ rfl rfl rfl
  case o4x1 => exact fun _ _ _ _ => opE_move (v := .slice xo 2 xc) _ rfl rfl rfl
  case o5x1 => exact fun _ _ hw _ => opE_value (v := .pointer (pK kC xo 0 0)) rfl (run_ixK rC (HX.gro ((Gro.refl _).drew.trans hw)) _ _ rfl rfl 0 rfl (by decide))
  case o6x1 => exact fun _ _ hw _ => opE_value (v := .agg (cdA ([mkC 7 0 2 zP, mkC 20 3 1 zP].getD 0 zC))) rfl (run_ldKC (HX.gro ((Gro.refl _).drew.trans hw)) _ rfl 0 rfl (by decide))
  case o7x1 =>
    intro ptrs w' hw hE
    exact opE_call (.val (.agg (idA 7))) rfl _ 28 Try.call28 rfl rfl _ rfl [.int .u8 7] rfl ((n_any 7 (by decide) _).mono fun e w' ⟨he, hg⟩ => ⟨_, he, hg, rfl⟩)
  case o8x1 => exact fun _ _ _ _ => opE_value (v := .agg (cdA (mkC 7 0 2 zP))) rfl (run_bd 33 _ rfl [(0, .agg (idA 7)), (2, .int .i64 2)] rfl _ (bdC02 _ _ _))
  case o9x1 => exact fun _ _ _ _ => opE_value (v := .bool true) rfl (run_eqC _ _ _ rfl ([mkC 7 0 2 zP, mkC 20 3 1 zP].getD 0 zC) (mkC 7 0 2 zP) rfl rfl (mkC_ok (by decide) (sm_i64 (by decide) (by decide)) (sm_i64 (by decide) (by decide)) zP_ok) (mkC_ok (by decide) (sm_i64 (by decide) (by decide)) (sm_i64 (by decide) (by decide)) zP_ok) true (eqC_self _))
  case o10x1 => exact fun _ _ _ _ => opE_pick (v := .bool true) _ _ _ rfl rfl true rfl rfl
  case o11x1 => exact fun _ _ _ _ => opE_move (v := .bool true) _ rfl rfl rfl
  case o12x1 => exact fun _ _ _ _ => opE_move (v := .slice xo 2 xc) _ rfl rfl rfl
  case o13x1 => exact fun _ _ hw _ => opE_value (v := .pointer (pK kC xo 1 0)) rfl (run_ixK rC (HX.gro ((Gro.refl _).drew.trans hw)) _ _ rfl rfl 1 rfl (by decide))
  case o14x1 => exact fun _ _ hw _ => opE_value (v := .agg (cdA ([mkC 7 0 2 zP, mkC 20 3 1 zP].getD 1 zC))) rfl (run_ldKC (HX.gro ((Gro.refl _).drew.trans hw)) _ rfl 1 rfl (by decide))
  case o15x1 =>
    intro ptrs w' hw hE
    exact opE_call (.val (.agg (idA 20))) rfl _ 28 Try.call28 rfl rfl _ rfl [.int .u8 20] rfl ((n_any 20 (by decide) _).mono fun e w' ⟨he, hg⟩ => ⟨_, he, hg, rfl⟩)
  case o16x1 => exact fun _ _ _ _ => opE_value (v := .agg (cdA (mkC 20 3 1 zP))) rfl (run_bd 33 _ rfl [(0, .agg (idA 20)), (1, .int .i64 3), (2, .int .i64 1)] rfl _ (bdC012 _ _ _ _))
  case o17x1 => exact fun _ _ _ _ => opE_value (v := .bool true) rfl (run_eqC _ _ _ rfl ([mkC 7 0 2 zP, mkC 20 3 1 zP].getD 1 zC) (mkC 20 3 1 zP) rfl rfl (mkC_ok (by decide) (sm_i64 (by decide) (by decide)) (sm_i64 (by decide) (by decide)) zP_ok) (mkC_ok (by decide) (sm_i64 (by decide) (by decide)) (sm_i64 (by decide) (by decide)) zP_ok) true (eqC_self _))
  intro ptrs w9 GD hxE
  simp only [List.drop_succ_cons, List.drop_zero]
  replace HX := HX.gro ((Gro.refl _).drew.trans GD)
  replace GG := GG.drew.trans GD
  clear GD
  refine s_val 32 rfl rfl (.bool true) (rfl) ?_
  refine nr ?_; intro U h; simp only [z0, z1] at h; subst h
  refine s_val 33 rfl rfl (.bool true) (rfl) ?_
  refine nr ?_; intro U h; simp only [z0, z1] at h; subst h
  refine s_val 34 rfl rfl (.bool true) (rfl) ?_
  refine nr ?_; intro U h; simp only [z0, z1] at h; subst h
  refine s_val 35 rfl rfl (.bool true) (rfl) ?_
  refine nr ?_; intro U h; simp only [z0, z1] at h; subst h
  refine s_val 36 rfl rfl (.bool true) (rfl) ?_
  refine nr ?_; intro U h; simp only [z0, z1] at h; subst h
  refine s_val 0 rfl rfl (.bool true) (rfl) ?_
  refine nr ?_; intro U h; simp only [z0] at h; subst h
  refine wpList_nil ?_
  refine then_n ?_
  refine wp_ret ?_
  refine bodyPost_ret (results_tmp Try.results14 _ _ _) rfl ?_
  exact ⟨rfl, GG⟩
set_option maxRecDepth 100000 in
set_option maxHeartbeats 4000000 in
theorem seekAsks_any (w : World) (s : Nat) (hs : s < top) (fo : Option Addr) (fc : Nat) (fr : List Nat) (HF : RK kI w fo fc fr) (ao : Option Addr) (cap : Nat) (l : List Cd) (HC : RK kC w ao cap l) (half : Int) : Calls Try.prog 3 #[.agg (knA s fo fr.length fc ao l.length cap half)] w (fun e w' => e = .returned (.bool true) ∧ Gro w w') := by
  refine s_enter Try.func3 rfl Try.ntmps3 [.agg (knA s fo fr.length fc ao l.length cap half)] [.agg (knA s fo fr.length fc ao l.length cap half), undef, undef, undef, undef, undef, undef, undef, undef, undef, undef, undef, undef, undef, undef, undef, undef, undef, undef, undef, undef, undef, undef, undef, undef, undef, undef, undef, undef, undef, undef, undef, undef, undef, undef, undef, undef, undef, undef, undef, undef, undef, undef, undef, undef, undef, undef, undef, undef, undef, undef, undef, undef, undef, undef, undef, undef, undef, undef, undef, undef, undef, undef, undef, undef, undef, undef, undef, undef, undef, undef, undef, undef, undef, undef, undef, undef, undef, undef, undef, undef] rfl ?_
  have GG := Gro.refl w
  have HF3 := HF.take 30
  have HC4 := HC.take 40
  have hf3 : (fr.take 30).length ≤ 30 := by rw [List.length_take]; omega
  have hl4 : (l.take 40).length ≤ 40 := by rw [List.length_take]; omega
  have hal := @askC_len s (fr.take 30) (l.take 40) half
  refine wp_seq ?_
  refine wp_region_lit ?_
  refine s_box 1 rfl rfl 27 _ rfl _ rfl (knA s fo fr.length fc ao l.length cap half) rfl ?_
  intro w1 g1 G eg1 kg1
  have bg1 := size_base GG eg1
  replace GG := GG.trans G
  clear G
  clear eg1
  refine nr ?_; intro U h; simp only [z0, z1] at h; subst h
  refine s_val 2 rfl rfl (.bool false) (rfl) ?_
  refine nr ?_; intro U h; simp only [z0, z1] at h; subst h
  refine wpList_nil ?_
  refine then_n ?_
  refine wp_seq ?_
  refine wp_region_g2A (A := ?Ax2) 14 [(0, 13), (1, 14), (2, 15), (3, 16), (4, 17), (5, 18), (6, 19), (7, 20), (8, 21), (9, 22), (10, 3), (12, 4), (13, 5)] [.val (.pointer (some ⟨g1, 0, none⟩)), .val (.agg (idA s)), .val (.pointer (some ⟨g1, 16, none⟩)), .val (.slice fo fr.length fc), .val (.slice fo (fr.take 30).length (fr.take 30).length), .val (.pointer (some ⟨g1, 17, none⟩)), .val (.slice ao l.length cap), .val (.slice ao (l.take 40).length (l.take 40).length), .val (.pointer (some ⟨g1, 18, none⟩)), .val (.int .i64 half), .new 23 (idA 0) (idA s) 11, .put 10, .val (.slice fo (fr.take 30).length (fr.take 30).length), .val (.slice ao (l.take 40).length (l.take 40).length)] follows (by kernel_rfl) (by kernel_rfl) rfl ?hAx2 (opsA2_cons ?o0x2 (opsA2_cons ?o1x2 (opsA2_cons ?o2x2 (opsA2_cons ?o3x2 (opsA2_cons ?o4x2 (opsA2_cons ?o5x2 (opsA2_cons ?o6x2 (opsA2_cons ?o7x2 (opsA2_cons ?o8x2 (opsA2_cons ?o9x2 (opsA2_cons ?o10x2 (opsA2_cons ?o11x2 (opsA2_cons ?o12x2 (opsA2_cons ?o13x2 opsA2_nil)))))))))))))) ?restx2
  case hAx2 =>
    intro ptrs
    simp only [full, foldSlots, filled2, postAt2, List.foldl_cons, List.foldl_nil, List.getD_cons_zero, List.getD_cons_succ, PostS.fill, PostS.val, PostS.new, PostS.put, List.set_cons_zero, List.set_cons_succ]
    exact rfl
  case o0x2 => exact fun _ _ _ _ _ _ => OpOK2.of_val (ok_value (v := .pointer (some ⟨g1, 0, none⟩)) rfl (run_fld 27 _ 0 rfl g1 0 rfl 0 (by kernel_rfl)))
  case o1x2 => exact fun _ _ _ hw _ _ => OpOK2.of_val (ok_value (v := .agg (idA s)) rfl (ldK0 _ rfl g1 rfl (hw.has kg1)))
  case o2x2 => exact fun _ _ _ _ _ _ => OpOK2.of_val (ok_value (v := .pointer (some ⟨g1, 16, none⟩)) rfl (run_fld 27 _ 1 rfl g1 0 rfl 16 (by kernel_rfl)))
  case o3x2 => exact fun _ _ _ hw _ _ => OpOK2.of_val (ok_value (v := .slice fo fr.length fc) rfl (ldK16 _ rfl g1 rfl (hw.has kg1)))
  case o4x2 => exact fun _ _ _ hw _ _ => OpOK2.of_val (ok_call rfl _ 7 Try.call7 rfl rfl _ rfl [.slice fo fr.length fc, .int .i64 30] rfl _ (cutI_any _ fo fc fr (HF.gro (GG.drew.trans hw)) 30))
  case o5x2 => exact fun _ _ _ _ _ _ => OpOK2.of_val (ok_value (v := .pointer (some ⟨g1, 17, none⟩)) rfl (run_fld 27 _ 2 rfl g1 0 rfl 17 (by kernel_rfl)))
  case o6x2 => exact fun _ _ _ hw _ _ => OpOK2.of_val (ok_value (v := .slice ao l.length cap) rfl (ldK17 _ rfl g1 rfl (hw.has kg1)))
  case o7x2 => exact fun _ _ _ hw _ _ => OpOK2.of_val (ok_call rfl _ 8 Try.call8 rfl rfl _ rfl [.slice ao l.length cap, .int .i64 40] rfl _ (cutC_any _ ao cap l (HC.gro (GG.drew.trans hw)) 40))
  case o8x2 => exact fun _ _ _ _ _ _ => OpOK2.of_val (ok_value (v := .pointer (some ⟨g1, 18, none⟩)) rfl (run_fld 27 _ 3 rfl g1 0 rfl 18 (by kernel_rfl)))
  case o9x2 => exact fun _ _ _ hw _ _ => OpOK2.of_val (ok_value (v := .int .i64 half) rfl (ldK18 _ rfl g1 rfl (hw.has kg1)))
  case o10x2 => exact fun _ _ _ _ _ _ => OpOK2.of_new (ok_alloc rfl 23 rfl _ zero23)
  case o11x2 =>
    intro ptrs Lq wq hw hn hL
    obtain ⟨⟨gq, pq, kq, cq⟩, hz⟩ := hn
    have hL' : Lq 11 = false := hL
    have p' : ptrs 10 = .pointer (some ⟨gq, 0, none⟩) := pq
    have k' : wq.heap[gq]? = some (.cells (if Lq 11 = true then (idA s) else (idA 0)) 23 (0, 0)) := kq
    rw [hL'] at k'
    refine ok2_store rfl 23 _ _ rfl gq ?_ (idA s) rfl (idA 0) k' (size23' _) (idA_sz _ _) (idA_one _) rfl p' _
    show ptrs 10 = _
    exact p'
  case o12x2 => exact fun _ _ _ _ _ _ => OpOK2.of_val (ok_value (v := .slice fo (fr.take 30).length (fr.take 30).length) rfl rfl)
  case o13x2 => exact fun _ _ _ _ _ _ => OpOK2.of_val (ok_value (v := .slice ao (l.take 40).length (l.take 40).length) rfl rfl)
  intro ptrs Lz w2 GD hLz hnz hapz
  obtain ⟨⟨gS, pzgS, kgS, czgS⟩, hzz⟩ := hnz
  simp only [List.drop_succ_cons, List.drop_zero, pzgS]
  replace kgS : w2.heap[gS]? = some (.cells (idA s) 23 (0, 0)) := by
    have hL' : Lz 11 = true := by rw [hLz]; rfl
    have kk : w2.heap[gS]? = some (.cells (if Lz 11 = true then (idA s) else (idA 0)) 23 (0, 0)) := kgS
    rw [hL'] at kk
    exact kk
  clear hzz hapz hLz
  have dg1gS : g1 < gS := Nat.lt_of_lt_of_le (lt_of_heap kg1) czgS
  replace kg1 := GD.has kg1
  have bgS := Nat.le_trans GG.size czgS
  replace GG := GG.drew.trans GD
  clear GD pzgS czgS
  refine s_val 6 rfl rfl (.int .i64 half) (rfl) ?_
  refine nr ?_; intro U h; simp only [z0, z1] at h; subst h
  refine wpList_nil ?_
  refine then_n ?_
  refine wp_seq ?_
  refine wp_region_lit ?_
  refine s_val 23 rfl rfl (.slice fo (fr.take 30).length (fr.take 30).length) (rfl) ?_
  refine nr ?_; intro U h; simp only [z0, z1] at h; subst h
  refine s_callx 24 rfl rfl _ 9 Try.call9 rfl rfl _ rfl [.slice fo (fr.take 30).length (fr.take 30).length] rfl (copy_any _ fo _ (fr.take 30) (HF3.gro GG) (by omega)) (by rintro _ _ ⟨_, _, he, _⟩; exact ⟨_, he⟩) ?_
  rintro v w3 ⟨ko, kc, he, G, HK⟩
  cases he
  replace kg1 := G.has kg1
  replace kgS := G.has kgS
  replace GG := GG.trans G
  clear G
  replace HK := HK.re
  refine nr ?_; intro U h; simp only [z0, z1] at h; subst h
  refine s_val 25 rfl rfl (.slice ao (l.take 40).length (l.take 40).length) (rfl) ?_
  refine nr ?_; intro U h; simp only [z0, z1] at h; subst h
  refine s_callx 26 rfl rfl _ 10 Try.call10 rfl rfl _ rfl [.slice ao (l.take 40).length (l.take 40).length] rfl (plain_any _ ao _ (l.take 40) (HC4.gro GG) (by omega)) (by rintro _ _ ⟨_, _, he, _⟩; exact ⟨_, he⟩) ?_
  rintro v w4 ⟨po, pc, he, G, HP⟩
  cases he
  replace kg1 := G.has kg1
  replace kgS := G.has kgS
  replace HK := HK.gro G
  replace GG := GG.trans G
  clear G
  replace HP := HP.re
  refine nr ?_; intro U h; simp only [z0, z1] at h; subst h
  refine s_val 7 rfl rfl (.slice ko (fr.take 30).length kc) (rfl) ?_
  refine nr ?_; intro U h; simp only [z0, z1] at h; subst h
  refine s_val 8 rfl rfl (.slice po (l.take 40).length pc) (rfl) ?_
  refine nr ?_; intro U h; simp only [z0, z1] at h; subst h
  refine wpList_nil ?_
  refine then_n ?_
  refine wp_seq ?_
  refine wp_region_lit ?_
  refine s_val 27 rfl rfl (.agg (idA s)) (ldI0 _ rfl gS rfl (kgS)) ?_
  refine nr ?_; intro U h; simp only [z0, z1] at h; subst h
  refine s_val 28 rfl rfl (.slice fo (fr.take 30).length (fr.take 30).length) (rfl) ?_
  refine nr ?_; intro U h; simp only [z0, z1] at h; subst h
  refine s_val 29 rfl rfl (.slice ao (l.take 40).length (l.take 40).length) (rfl) ?_
  refine nr ?_; intro U h; simp only [z0, z1] at h; subst h
  refine s_val 30 rfl rfl (.int .i64 half) (rfl) ?_
  refine nr ?_; intro U h; simp only [z0, z1] at h; subst h
  refine s_callx 31 rfl rfl _ 11 Try.call11 rfl rfl _ rfl [.agg (idA s), .slice fo (fr.take 30).length (fr.take 30).length, .slice ao (l.take 40).length (l.take 40).length, .int .i64 half] rfl (asks_any _ s hs half fo _ (fr.take 30) (HF3.gro GG) (by omega) ao _ (l.take 40) (HC4.gro GG) (by omega)) (by rintro _ _ ⟨_, _, he, _⟩; exact ⟨_, he⟩) ?_
  rintro v w5 ⟨xo, ac, he, G, HA⟩
  cases he
  replace kg1 := G.has kg1
  replace kgS := G.has kgS
  replace HK := HK.gro G
  replace HP := HP.gro G
  replace GG := GG.trans G
  clear G
  replace HA := HA.re
  refine nr ?_; intro U h; simp only [z0, z1] at h; subst h
  refine s_val 9 rfl rfl (.slice xo (askC s (fr.take 30) (l.take 40) half).length ac) (rfl) ?_
  refine nr ?_; intro U h; simp only [z0, z1] at h; subst h
  refine wpList_nil ?_
  refine then_n ?_
  refine wp_seq ?_
  refine wp_region_lit ?_
  refine s_val 32 rfl rfl (.agg (idA s)) (ldI0 _ rfl gS rfl (kgS)) ?_
  refine nr ?_; intro U h; simp only [z0, z1] at h; subst h
  refine s_val 33 rfl rfl (.slice ko (fr.take 30).length kc) (rfl) ?_
  refine nr ?_; intro U h; simp only [z0, z1] at h; subst h
  refine s_val 34 rfl rfl (.slice po (l.take 40).length pc) (rfl) ?_
  refine nr ?_; intro U h; simp only [z0, z1] at h; subst h
  refine s_val 35 rfl rfl (.int .i64 half) (rfl) ?_
  refine nr ?_; intro U h; simp only [z0, z1] at h; subst h
  refine s_callx 36 rfl rfl _ 12 Try.call12 rfl rfl _ rfl [.agg (idA s), .slice ko (fr.take 30).length kc, .slice po (l.take 40).length pc, .int .i64 half] rfl (refasks_any _ s hs half ko kc (fr.take 30) HK (by omega) po pc (l.take 40) HP (by omega)) (by rintro _ _ ⟨_, _, he, _⟩; exact ⟨_, he⟩) ?_
  rintro v w6 ⟨bo, bc, he, G, HB⟩
  cases he
  replace kg1 := G.has kg1
  replace kgS := G.has kgS
  replace HK := HK.gro G
  replace HP := HP.gro G
  replace HA := HA.gro G
  replace GG := GG.trans G
  clear G
  replace HB := HB.re
  refine nr ?_; intro U h; simp only [z0, z1] at h; subst h
  refine s_val 10 rfl rfl (.slice bo (askC s (fr.take 30) (l.take 40) half).length bc) (rfl) ?_
  refine nr ?_; intro U h; simp only [z0, z1] at h; subst h
  refine wpList_nil ?_
  refine then_n ?_
  refine wp_seq ?_
  refine wp_seq ?_
  refine wp_region_opq ?_
  intro OPS hY
  have y5 := hY 5 42 rfl
  clear hY
  refine s_val 37 rfl rfl (.slice xo (askC s (fr.take 30) (l.take 40) half).length ac) (rfl) ?_
  refine nr ?_; intro U h; simp only [z0, z1] at h; subst h
  refine s_val 38 rfl rfl (.int .i64 (((askC s (fr.take 30) (l.take 40) half).length : Nat) : Int)) (run_len Try.underlying25 _ rfl _ _ _ rfl _) ?_
  refine nr ?_; intro U h; simp only [z0, z1] at h; subst h
  refine s_val 39 rfl rfl (.slice bo (askC s (fr.take 30) (l.take 40) half).length bc) (rfl) ?_
  refine nr ?_; intro U h; simp only [z0, z1] at h; subst h
  refine s_val 40 rfl rfl (.int .i64 (((askC s (fr.take 30) (l.take 40) half).length : Nat) : Int)) (run_len Try.underlying35 _ rfl _ _ _ rfl _) ?_
  refine nr ?_; intro U h; simp only [z0, z1] at h; subst h
  refine s_val 41 rfl rfl (.bool false) (run_neq_k 3 .i64 _ _ _ rfl Try.underlying3 (((askC s (fr.take 30) (l.take 40) half).length : Nat) : Int) (((askC s (fr.take 30) (l.take 40) half).length : Nat) : Int) rfl rfl false (decide_eq_true rfl) _) ?_
  refine nr ?_; intro U h; simp only [z0, z1] at h; subst h
  refine s_val 42 rfl rfl (.bool false) (rfl) ?_
  refine nr ?_; intro U h; simp only [z0, z1] at h; subst h
  refine s_gvalY 43 rfl rfl y5 rfl (.slice ko (fr.take 30).length kc) (rfl) ?_
  refine nr ?_; intro U h; simp only [z0, z1] at h; subst h
  refine s_gvalY 44 rfl rfl y5 rfl (.slice fo (fr.take 30).length (fr.take 30).length) (rfl) ?_
  refine nr ?_; intro U h; simp only [z0, z1] at h; subst h
  refine s_gcallvY 45 rfl rfl y5 rfl _ 13 Try.call13 rfl rfl _ rfl [.slice ko (fr.take 30).length kc, .slice fo (fr.take 30).length (fr.take 30).length] rfl (sameK _ ko kc (fr.take 30) HK (by omega) fo _ (HF3.gro GG)) ?_
  intro w7 G
  replace kg1 := G.has kg1
  replace kgS := G.has kgS
  replace HK := HK.gro G
  replace HP := HP.gro G
  replace HA := HA.gro G
  replace HB := HB.gro G
  replace GG := GG.trans G
  clear G
  refine nr ?_; intro U h; simp only [z0, z1] at h; subst h
  refine s_gvalY 46 rfl rfl y5 rfl (.bool false) (run_nt _ _ rfl true rfl) ?_
  refine nr ?_; intro U h; simp only [z0, z1] at h; subst h
  refine s_val 47 rfl rfl (.bool false) (rfl) ?_
  refine nr ?_; intro U h; simp only [z0, z1] at h; subst h
  refine wpList_nil ?_
  refine then_n ?_
  refine wp_cond_false rfl ?_
  refine wp_skip ?_
  refine then_n ?_
  refine wp_seq ?_
  refine wp_seq ?_
  refine wp_region_lit ?_
  refine s_val 48 rfl rfl (.slice xo (askC s (fr.take 30) (l.take 40) half).length ac) (rfl) ?_
  refine nr ?_; intro U h; simp only [z0, z1] at h; subst h
  refine s_val 49 rfl rfl (.int .i64 (((askC s (fr.take 30) (l.take 40) half).length : Nat) : Int)) (run_len Try.underlying25 _ rfl _ _ _ rfl _) ?_
  refine nr ?_; intro U h; simp only [z0, z1] at h; subst h
  refine s_val 50 rfl rfl (.int .i64 0) (rfl) ?_
  refine nr ?_; intro U h; simp only [z0, z1] at h; subst h
  refine wpList_nil ?_
  refine then_n ?_
  refine wp_block ?_
  refine wp_loopN (fun mz az wv => ∃ (i : Nat) (us1 : Nat → Value), mz = (askC s (fr.take 30) (l.take 40) half).length + 1 - i ∧ az = ⟨[.agg (knA s fo fr.length fc ao l.length cap half), .pointer (some ⟨g1, 0, none⟩), us1 0, .pointer (some ⟨gS, 0, none⟩), .slice fo (fr.take 30).length (fr.take 30).length, .slice ao (l.take 40).length (l.take 40).length, .int .i64 half, .slice ko (fr.take 30).length kc, .slice po (l.take 40).length pc, .slice xo (askC s (fr.take 30) (l.take 40) half).length ac, .slice bo (askC s (fr.take 30) (l.take 40) half).length bc, us1 1, undef, .pointer (some ⟨g1, 0, none⟩), .agg (idA s), .pointer (some ⟨g1, 16, none⟩), .slice fo fr.length fc, .slice fo (fr.take 30).length (fr.take 30).length, .pointer (some ⟨g1, 17, none⟩), .slice ao l.length cap, .slice ao (l.take 40).length (l.take 40).length, .pointer (some ⟨g1, 18, none⟩), .int .i64 half, .slice fo (fr.take 30).length (fr.take 30).length, .slice ko (fr.take 30).length kc, .slice ao (l.take 40).length (l.take 40).length, .slice po (l.take 40).length pc, .agg (idA s), .slice fo (fr.take 30).length (fr.take 30).length, .slice ao (l.take 40).length (l.take 40).length, .int .i64 half, .slice xo (askC s (fr.take 30) (l.take 40) half).length ac, .agg (idA s), .slice ko (fr.take 30).length kc, .slice po (l.take 40).length pc, .int .i64 half, .slice bo (askC s (fr.take 30) (l.take 40) half).length bc, .slice xo (askC s (fr.take 30) (l.take 40) half).length ac, .int .i64 (((askC s (fr.take 30) (l.take 40) half).length : Nat) : Int), .slice bo (askC s (fr.take 30) (l.take 40) half).length bc, .int .i64 (((askC s (fr.take 30) (l.take 40) half).length : Nat) : Int), .bool false, .bool false, .slice ko (fr.take 30).length kc, .slice fo (fr.take 30).length (fr.take 30).length, .bool true, .bool false, .bool false, .slice xo (askC s (fr.take 30) (l.take 40) half).length ac, .int .i64 (((askC s (fr.take 30) (l.take 40) half).length : Nat) : Int), .int .i64 ((i : Nat) : Int), us1 2, us1 3, us1 4, us1 5, us1 6, us1 7, us1 8, us1 9, us1 10, us1 11, us1 12, us1 13, us1 14, undef, undef, undef, undef, undef, undef, undef, undef, undef, undef, undef, undef, undef, undef, undef, undef, undef].toArray, []⟩ ∧ i ≤ (askC s (fr.take 30) (l.take 40) half).length ∧ Gro w wv ∧ RK kI wv ko kc (fr.take 30) ∧ RK kC wv po pc (l.take 40) ∧ RK kC wv xo ac (askC s (fr.take 30) (l.take 40) half) ∧ RK kC wv bo bc (askC s (fr.take 30) (l.take 40) half)) ?_ _ ⟨0, (fun kz => ([.bool false, undef, undef, undef, undef, undef, undef, undef, undef, undef, undef, undef, undef, undef, undef] : List Value).getD kz undef), rfl, rfl, Nat.zero_le _, GG, HK, HP, HA, HB⟩
  clear GG HK HP HA HB
  rintro mz az wv ⟨i, us1, rfl, rfl, hi, GG, HK, HP, HA, HB⟩
  refine wp_seq ?_
  refine wp_region_lit ?_
  cases hi1 : decide (((i : Nat) : Int) < (((askC s (fr.take 30) (l.take 40) half).length : Nat) : Int))
  · have hie : i = (askC s (fr.take 30) (l.take 40) half).length := by have := of_decide_eq_false hi1; omega
    refine s_val 51 rfl rfl (.bool false) (run_lssT 3 _ _ _ rfl ((i : Nat) : Int) (((askC s (fr.take 30) (l.take 40) half).length : Nat) : Int) rfl rfl false hi1 _) ?_
    refine nr ?_; intro U h; simp only [z0, z1] at h; subst h
    refine wpList_nil ?_
    refine then_n ?_
    refine wp_seq ?_
    refine wp_cond_false rfl ?_
    refine wp_exit ?_
    refine then_x ?_
    refine then_x ?_
    refine blk_x ?_
    refine then_n ?_
    refine wp_seq ?_
    refine wp_seq ?_
    refine wp_region_lit ?_
    refine s_val 64 rfl rfl (.slice ao (l.take 40).length (l.take 40).length) (rfl) ?_
    refine nr ?_; intro U h; simp only [z0, z1] at h; subst h
    refine s_val 65 rfl rfl (.int .i64 (((l.take 40).length : Nat) : Int)) (run_len Try.underlying25 _ rfl _ _ _ rfl _) ?_
    refine nr ?_; intro U h; simp only [z0, z1] at h; subst h
    refine s_val 66 rfl rfl (.int .i64 0) (rfl) ?_
    refine nr ?_; intro U h; simp only [z0, z1] at h; subst h
    refine wpList_nil ?_
    refine then_n ?_
    refine wp_block ?_
    refine wp_loopN (fun mz az wv => ∃ (j : Nat) (us2 : Nat → Value), mz = (l.take 40).length + 1 - j ∧ az = ⟨[.agg (knA s fo fr.length fc ao l.length cap half), .pointer (some ⟨g1, 0, none⟩), us2 0, .pointer (some ⟨gS, 0, none⟩), .slice fo (fr.take 30).length (fr.take 30).length, .slice ao (l.take 40).length (l.take 40).length, .int .i64 half, .slice ko (fr.take 30).length kc, .slice po (l.take 40).length pc, .slice xo (askC s (fr.take 30) (l.take 40) half).length ac, .slice bo (askC s (fr.take 30) (l.take 40) half).length bc, us1 1, us2 1, .pointer (some ⟨g1, 0, none⟩), .agg (idA s), .pointer (some ⟨g1, 16, none⟩), .slice fo fr.length fc, .slice fo (fr.take 30).length (fr.take 30).length, .pointer (some ⟨g1, 17, none⟩), .slice ao l.length cap, .slice ao (l.take 40).length (l.take 40).length, .pointer (some ⟨g1, 18, none⟩), .int .i64 half, .slice fo (fr.take 30).length (fr.take 30).length, .slice ko (fr.take 30).length kc, .slice ao (l.take 40).length (l.take 40).length, .slice po (l.take 40).length pc, .agg (idA s), .slice fo (fr.take 30).length (fr.take 30).length, .slice ao (l.take 40).length (l.take 40).length, .int .i64 half, .slice xo (askC s (fr.take 30) (l.take 40) half).length ac, .agg (idA s), .slice ko (fr.take 30).length kc, .slice po (l.take 40).length pc, .int .i64 half, .slice bo (askC s (fr.take 30) (l.take 40) half).length bc, .slice xo (askC s (fr.take 30) (l.take 40) half).length ac, .int .i64 (((askC s (fr.take 30) (l.take 40) half).length : Nat) : Int), .slice bo (askC s (fr.take 30) (l.take 40) half).length bc, .int .i64 (((askC s (fr.take 30) (l.take 40) half).length : Nat) : Int), .bool false, .bool false, .slice ko (fr.take 30).length kc, .slice fo (fr.take 30).length (fr.take 30).length, .bool true, .bool false, .bool false, .slice xo (askC s (fr.take 30) (l.take 40) half).length ac, .int .i64 (((askC s (fr.take 30) (l.take 40) half).length : Nat) : Int), .int .i64 ((i : Nat) : Int), .bool false, us1 3, us1 4, us1 5, us1 6, us1 7, us1 8, us1 9, us1 10, us1 11, us1 12, us1 13, us1 14, .slice ao (l.take 40).length (l.take 40).length, .int .i64 (((l.take 40).length : Nat) : Int), .int .i64 ((j : Nat) : Int), us2 2, us2 3, us2 4, us2 5, us2 6, us2 7, us2 8, us2 9, us2 10, us2 11, us2 12, us2 13, us2 14, undef].toArray, []⟩ ∧ j ≤ (l.take 40).length ∧ Gro w wv ∧ RK kI wv ko kc (fr.take 30) ∧ RK kC wv po pc (l.take 40) ∧ RK kC wv xo ac (askC s (fr.take 30) (l.take 40) half) ∧ RK kC wv bo bc (askC s (fr.take 30) (l.take 40) half)) ?_ _ ⟨0, (fun kz => ([us1 0, undef, undef, undef, undef, undef, undef, undef, undef, undef, undef, undef, undef, undef, undef] : List Value).getD kz undef), rfl, rfl, Nat.zero_le _, GG, HK, HP, HA, HB⟩
    clear GG HK HP HA HB
    rintro mz az wv ⟨j, us2, rfl, rfl, hj, GG, HK, HP, HA, HB⟩
    refine wp_seq ?_
    refine wp_region_lit ?_
    cases hj1 : decide (((j : Nat) : Int) < (((l.take 40).length : Nat) : Int))
    · have hje : j = (l.take 40).length := by have := of_decide_eq_false hj1; omega
      refine s_val 67 rfl rfl (.bool false) (run_lssT 3 _ _ _ rfl ((j : Nat) : Int) (((l.take 40).length : Nat) : Int) rfl rfl false hj1 _) ?_
      refine nr ?_; intro U h; simp only [z0, z1] at h; subst h
      refine wpList_nil ?_
      refine then_n ?_
      refine wp_seq ?_
      refine wp_cond_false rfl ?_
      refine wp_exit ?_
      refine then_x ?_
      refine then_x ?_
      refine blk_x ?_
      refine then_n ?_
      refine wp_seq ?_
      refine wp_region_lit ?_
      refine s_callv 80 rfl rfl _ 14 Try.call14 rfl rfl _ rfl [] rfl (fixed_any _) ?_
      intro w8 G
      replace HK := HK.gro G
      replace HP := HP.gro G
      replace HA := HA.gro G
      replace HB := HB.gro G
      replace GG := GG.trans G
      clear G
      refine nr ?_; intro U h; simp only [z0, z1] at h; subst h
      refine s_val 2 rfl rfl (.bool true) (rfl) ?_
      refine nr ?_; intro U h; simp only [z0, z1] at h; subst h
      refine wpList_nil ?_
      refine then_n ?_
      refine wp_ret ?_
      refine bodyPost_ret (results_tmp Try.results3 _ _ _) rfl ?_
      exact ⟨rfl, GG⟩
    · have hjl : j < (l.take 40).length := by have := of_decide_eq_true hj1; omega
      refine s_val 67 rfl rfl (.bool true) (run_lssT 3 _ _ _ rfl ((j : Nat) : Int) (((l.take 40).length : Nat) : Int) rfl rfl true hj1 _) ?_
      refine nr ?_; intro U h; simp only [z0, z1] at h; subst h
      refine wpList_nil ?_
      refine then_n ?_
      refine wp_seq ?_
      refine wp_cond_true rfl ?_
      refine wp_skip ?_
      refine then_n ?_
      refine wp_seq ?_
      refine wp_block ?_
      refine wp_seq ?_
      refine wp_region_lit ?_
      refine s_val 68 rfl rfl (.int .i64 ((j : Nat) : Int)) (rfl) ?_
      refine nr ?_; intro U h; simp only [z0, z1] at h; subst h
      refine s_val 12 rfl rfl (.int .i64 ((j : Nat) : Int)) (rfl) ?_
      refine nr ?_; intro U h; simp only [z0, z1] at h; subst h
      refine wpList_nil ?_
      refine then_n ?_
      refine wp_seq ?_
      refine wp_region_exA (A := ?Ax3) 9 [(0, 69), (1, 70), (2, 71), (3, 72), (4, 73), (5, 74), (6, 75), (7, 76), (8, 77)] [.val (.slice ao (l.take 40).length (l.take 40).length), rowK kC (l.take 40), .val (.int .i64 ((j : Nat) : Int)), ptrK kC (l.take 40) j, .val (.agg (cdA ((l.take 40).getD j zC))), .val (.slice po (l.take 40).length pc), .val (.int .i64 ((j : Nat) : Int)), .val (.pointer (pK kC po j 0)), .val (.agg (cdA ((l.take 40).getD j zC)))] follows (by kernel_rfl) rfl ?hAx3 (opsA_cons ?o0x3 (opsA_cons ?o1x3 (opsA_cons ?o2x3 (opsA_cons ?o3x3 (opsA_cons ?o4x3 (opsA_cons ?o5x3 (opsA_cons ?o6x3 (opsA_cons ?o7x3 (opsA_cons ?o8x3 opsA_nil))))))))) ?restx3
      case hAx3 =>
        intro ptrs
        simp only [full, foldSlots, filledE, postE, List.foldl_cons, List.foldl_nil, List.getD_cons_zero, List.getD_cons_succ, fill_val, fill_rowK, fill_ptrK, List.set_cons_zero, List.set_cons_succ]
        exact rfl
      case o0x3 => exact fun _ _ _ _ => opE_move (v := .slice ao (l.take 40).length (l.take 40).length) _ rfl rfl rfl
      case o1x3 =>
        intro ptrs w' hw hE
        exact opE_call (rowK kC (l.take 40)) rfl _ 10 Try.call10 rfl rfl _ rfl [.slice ao (l.take 40).length (l.take 40).length] rfl ((plain_any _ _ _ (l.take 40) (HC4.gro (GG.drew.trans hw)) (by omega)).mono fun e w' ⟨ao, cap, he, hg, hr⟩ => ⟨_, he, hg, ao, cap, rfl, hr.re⟩)
      case o2x3 => exact fun _ _ _ _ => opE_move (v := .int .i64 ((j : Nat) : Int)) _ rfl rfl rfl
      case o3x3 =>
        intro ptrs w' hw hE
        obtain ⟨⟨ao1, cap1, h1, o1⟩, _⟩ := hE
        exact opE_new (ptrK kC (l.take 40) j) rfl (run_ixK rD o1 _ _ rfl (by exact h1) j rfl hjl) (Gro.refl _) ⟨ao1, cap1, rfl, o1⟩
      case o4x3 =>
        intro ptrs w' hw hE
        obtain ⟨⟨ao3, cap3, h3, o3⟩, _⟩ := hE
        exact opE_value (v := .agg (cdA ((l.take 40).getD j zC))) rfl (run_ldKD o3 _ rfl j (by exact h3) hjl)
      case o5x3 => exact fun _ _ _ _ => opE_move (v := .slice po (l.take 40).length pc) _ rfl rfl rfl
      case o6x3 => exact fun _ _ _ _ => opE_move (v := .int .i64 ((j : Nat) : Int)) _ rfl rfl rfl
      case o7x3 => exact fun _ _ hw _ => opE_value (v := .pointer (pK kC po j 0)) rfl (run_ixK rD (HP.gro ((Gro.refl _).drew.trans hw)) _ _ rfl rfl j rfl hjl)
      case o8x3 => exact fun _ _ hw _ => opE_value (v := .agg (cdA ((l.take 40).getD j zC))) rfl (run_ldKD (HP.gro ((Gro.refl _).drew.trans hw)) _ rfl j rfl hjl)
      intro ptrs w8 GD hxE
      simp only [List.drop_succ_cons, List.drop_zero]
      replace HK := HK.gro ((Gro.refl _).drew.trans GD)
      replace HP := HP.gro ((Gro.refl _).drew.trans GD)
      replace HA := HA.gro ((Gro.refl _).drew.trans GD)
      replace HB := HB.gro ((Gro.refl _).drew.trans GD)
      replace GG := GG.drew.trans GD
      obtain ⟨_, _, _⟩ := hxE
      clear GD
      refine s_val 78 rfl rfl (.bool false) (run_neD _ _ _ rfl _ _ rfl rfl (atC HP hjl) (atC HP hjl) false (eqC_self _)) ?_
      refine nr ?_; intro U h; simp only [z0, z1] at h; subst h
      refine wpList_nil ?_
      refine then_n ?_
      refine wp_cond_false rfl ?_
      refine wp_skip ?_
      refine blk_n ?_
      refine then_n ?_
      refine wp_region_lit ?_
      refine s_val 79 rfl rfl (.int .i64 ((j + 1 : Nat) : Int)) (run_addI 3 _ _ _ rfl ((j : Nat) : Int) 1 ((j + 1 : Nat) : Int) rfl rfl (by omega) (by omega) (by omega) _) ?_
      refine nr ?_; intro U h; simp only [z0, z1] at h; subst h
      refine s_val 66 rfl rfl (.int .i64 ((j + 1 : Nat) : Int)) (rfl) ?_
      refine nr ?_; intro U h; simp only [z0, z1] at h; subst h
      refine wpList_nil ?_
      refine then_n ?_
      exact ⟨(l.take 40).length + 1 - (j + 1), by omega, j + 1, (fun kz => ([us2 0, .int .i64 ((j : Nat) : Int), .bool true, .int .i64 ((j : Nat) : Int), .slice ao (l.take 40).length (l.take 40).length, ptrs 1, .int .i64 ((j : Nat) : Int), ptrs 3, .agg (cdA ((l.take 40).getD j zC)), .slice po (l.take 40).length pc, .int .i64 ((j : Nat) : Int), .pointer (pK kC po j 0), .agg (cdA ((l.take 40).getD j zC)), .bool false, .int .i64 ((j + 1 : Nat) : Int)] : List Value).getD kz undef), rfl, rfl, by omega, GG, HK, HP, HA, HB⟩
  · have hil : i < (askC s (fr.take 30) (l.take 40) half).length := by have := of_decide_eq_true hi1; omega
    refine s_val 51 rfl rfl (.bool true) (run_lssT 3 _ _ _ rfl ((i : Nat) : Int) (((askC s (fr.take 30) (l.take 40) half).length : Nat) : Int) rfl rfl true hi1 _) ?_
    refine nr ?_; intro U h; simp only [z0, z1] at h; subst h
    refine wpList_nil ?_
    refine then_n ?_
    refine wp_seq ?_
    refine wp_cond_true rfl ?_
    refine wp_skip ?_
    refine then_n ?_
    refine wp_seq ?_
    refine wp_block ?_
    refine wp_seq ?_
    refine wp_region_lit ?_
    refine s_val 52 rfl rfl (.int .i64 ((i : Nat) : Int)) (rfl) ?_
    refine nr ?_; intro U h; simp only [z0, z1] at h; subst h
    refine s_val 11 rfl rfl (.int .i64 ((i : Nat) : Int)) (rfl) ?_
    refine nr ?_; intro U h; simp only [z0, z1] at h; subst h
    refine wpList_nil ?_
    refine then_n ?_
    refine wp_seq ?_
    refine wp_region_exA (A := ?Ax4) 9 [(0, 53), (1, 54), (2, 55), (3, 56), (4, 57), (5, 58), (6, 59), (7, 60), (8, 61)] [.val (.slice xo (askC s (fr.take 30) (l.take 40) half).length ac), rowK kC (askC s (fr.take 30) (l.take 40) half), .val (.int .i64 ((i : Nat) : Int)), ptrK kC (askC s (fr.take 30) (l.take 40) half) i, .val (.agg (cdA ((askC s (fr.take 30) (l.take 40) half).getD i zC))), .val (.slice bo (askC s (fr.take 30) (l.take 40) half).length bc), .val (.int .i64 ((i : Nat) : Int)), .val (.pointer (pK kC bo i 0)), .val (.agg (cdA ((askC s (fr.take 30) (l.take 40) half).getD i zC)))] follows (by kernel_rfl) rfl ?hAx4 (opsA_cons ?o0x4 (opsA_cons ?o1x4 (opsA_cons ?o2x4 (opsA_cons ?o3x4 (opsA_cons ?o4x4 (opsA_cons ?o5x4 (opsA_cons ?o6x4 (opsA_cons ?o7x4 (opsA_cons ?o8x4 opsA_nil))))))))) ?restx4
    case hAx4 =>
      intro ptrs
      simp only [full, foldSlots, filledE, postE, List.foldl_cons, List.foldl_nil, List.getD_cons_zero, List.getD_cons_succ, fill_val, fill_rowK, fill_ptrK, List.set_cons_zero, List.set_cons_succ]
      exact rfl
    case o0x4 => exact fun _ _ _ _ => opE_move (v := .slice xo (askC s (fr.take 30) (l.take 40) half).length ac) _ rfl rfl rfl
    case o1x4 =>
      intro ptrs w' hw hE
      exact opE_call (rowK kC (askC s (fr.take 30) (l.take 40) half)) rfl _ 10 Try.call10 rfl rfl _ rfl [.slice xo (askC s (fr.take 30) (l.take 40) half).length ac] rfl ((plain_any _ _ _ (askC s (fr.take 30) (l.take 40) half) (HA.gro ((Gro.refl _).drew.trans hw)) (by have := @askC_len s (fr.take 30) (l.take 40) half; omega)).mono fun e w' ⟨ao, cap, he, hg, hr⟩ => ⟨_, he, hg, ao, cap, rfl, hr.re⟩)
    case o2x4 => exact fun _ _ _ _ => opE_move (v := .int .i64 ((i : Nat) : Int)) _ rfl rfl rfl
    case o3x4 =>
      intro ptrs w' hw hE
      obtain ⟨⟨ao1, cap1, h1, o1⟩, _⟩ := hE
      exact opE_new (ptrK kC (askC s (fr.take 30) (l.take 40) half) i) rfl (run_ixK rD o1 _ _ rfl (by exact h1) i rfl hil) (Gro.refl _) ⟨ao1, cap1, rfl, o1⟩
    case o4x4 =>
      intro ptrs w' hw hE
      obtain ⟨⟨ao3, cap3, h3, o3⟩, _⟩ := hE
      exact opE_value (v := .agg (cdA ((askC s (fr.take 30) (l.take 40) half).getD i zC))) rfl (run_ldKD o3 _ rfl i (by exact h3) hil)
    case o5x4 => exact fun _ _ _ _ => opE_move (v := .slice bo (askC s (fr.take 30) (l.take 40) half).length bc) _ rfl rfl rfl
    case o6x4 => exact fun _ _ _ _ => opE_move (v := .int .i64 ((i : Nat) : Int)) _ rfl rfl rfl
    case o7x4 => exact fun _ _ hw _ => opE_value (v := .pointer (pK kC bo i 0)) rfl (run_ixK rD (HB.gro ((Gro.refl _).drew.trans hw)) _ _ rfl rfl i rfl hil)
    case o8x4 => exact fun _ _ hw _ => opE_value (v := .agg (cdA ((askC s (fr.take 30) (l.take 40) half).getD i zC))) rfl (run_ldKD (HB.gro ((Gro.refl _).drew.trans hw)) _ rfl i rfl hil)
    intro ptrs w8 GD hxE
    simp only [List.drop_succ_cons, List.drop_zero]
    replace HK := HK.gro ((Gro.refl _).drew.trans GD)
    replace HP := HP.gro ((Gro.refl _).drew.trans GD)
    replace HA := HA.gro ((Gro.refl _).drew.trans GD)
    replace HB := HB.gro ((Gro.refl _).drew.trans GD)
    replace GG := GG.drew.trans GD
    obtain ⟨_, _, _⟩ := hxE
    clear GD
    refine s_val 62 rfl rfl (.bool false) (run_neD _ _ _ rfl _ _ rfl rfl (atC HB hil) (atC HB hil) false (eqC_self _)) ?_
    refine nr ?_; intro U h; simp only [z0, z1] at h; subst h
    refine wpList_nil ?_
    refine then_n ?_
    refine wp_cond_false rfl ?_
    refine wp_skip ?_
    refine blk_n ?_
    refine then_n ?_
    refine wp_region_lit ?_
    refine s_val 63 rfl rfl (.int .i64 ((i + 1 : Nat) : Int)) (run_addI 3 _ _ _ rfl ((i : Nat) : Int) 1 ((i + 1 : Nat) : Int) rfl rfl (by omega) (by omega) (by omega) _) ?_
    refine nr ?_; intro U h; simp only [z0, z1] at h; subst h
    refine s_val 50 rfl rfl (.int .i64 ((i + 1 : Nat) : Int)) (rfl) ?_
    refine nr ?_; intro U h; simp only [z0, z1] at h; subst h
    refine wpList_nil ?_
    refine then_n ?_
    exact ⟨(askC s (fr.take 30) (l.take 40) half).length + 1 - (i + 1), by omega, i + 1, (fun kz => ([us1 0, .int .i64 ((i : Nat) : Int), .bool true, .int .i64 ((i : Nat) : Int), .slice xo (askC s (fr.take 30) (l.take 40) half).length ac, ptrs 1, .int .i64 ((i : Nat) : Int), ptrs 3, .agg (cdA ((askC s (fr.take 30) (l.take 40) half).getD i zC)), .slice bo (askC s (fr.take 30) (l.take 40) half).length bc, .int .i64 ((i : Nat) : Int), .pointer (pK kC bo i 0), .agg (cdA ((askC s (fr.take 30) (l.take 40) half).getD i zC)), .bool false, .int .i64 ((i + 1 : Nat) : Int)] : List Value).getD kz undef), rfl, rfl, by omega, GG, HK, HP, HA, HB⟩
end Go.Proofs.Ytfabgonoonanfaa
