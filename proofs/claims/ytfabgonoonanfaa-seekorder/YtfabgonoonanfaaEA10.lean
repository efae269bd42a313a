/- The example; the law that for whom a node asks is the document's. -/
import Derived.Test.YtfabgonoonanfaaEA9
namespace Go.Proofs.Ytfabgonoonanfaa
open Go.RowKit
/-- What is known, in memory. -/
def knA (s : Nat) (fo : Option Addr) (fn fc : Nat) (ao : Option Addr) (n cap : Nat) (half : Int) : Array Value := ((idA s).toList ++ [Value.slice fo fn fc, Value.slice ao n cap, Value.int .i64 half]).toArray
theorem knA_size (s : Nat) (fo : Option Addr) (fn fc : Nat) (ao : Option Addr) (n cap : Nat) (half : Int) : (knA s fo fn fc ao n cap half).size = 19 := by simp [knA, idA]
section
variable {o : Oper} {A : Act} {w : World} {s : Nat} {fo : Option Addr} {fn fc : Nat} {ao : Option Addr} {n cap : Nat} {half : Int}
theorem ldK0 (y : Operand) (ho : o.op = .load 23 y) (g : Nat) (hx : A.eval y = .pointer (some ⟨g, 0, none⟩)) (hg : w.heap[g]? = some (.cells (knA s fo fn fc ao n cap half) 27 (0, 0))) : (execOp A.eval o).run Try.prog w = .ok (.value (.agg (idA s))) w :=
  run_lda 23 y ho g 0 16 hx 27 _ hg _ Try.underlying23 rfl size23 (by rw [knA_size]; decide) _ (by kernel_rfl)
theorem ldK16 (y : Operand) (ho : o.op = .load 24 y) (g : Nat) (hx : A.eval y = .pointer (some ⟨g, 16, none⟩)) (hg : w.heap[g]? = some (.cells (knA s fo fn fc ao n cap half) 27 (0, 0))) : (execOp A.eval o).run Try.prog w = .ok (.value (.slice fo fn fc)) w :=
  run_ldc 24 y ho g 16 hx 27 _ hg (na24 w) _ (by kernel_rfl)
theorem ldK17 (y : Operand) (ho : o.op = .load 25 y) (g : Nat) (hx : A.eval y = .pointer (some ⟨g, 17, none⟩)) (hg : w.heap[g]? = some (.cells (knA s fo fn fc ao n cap half) 27 (0, 0))) : (execOp A.eval o).run Try.prog w = .ok (.value (.slice ao n cap)) w :=
  run_ldc 25 y ho g 17 hx 27 _ hg (na25 w) _ (by kernel_rfl)
theorem ldK18 (y : Operand) (ho : o.op = .load 3 y) (g : Nat) (hx : A.eval y = .pointer (some ⟨g, 18, none⟩)) (hg : w.heap[g]? = some (.cells (knA s fo fn fc ao n cap half) 27 (0, 0))) : (execOp A.eval o).run Try.prog w = .ok (.value (.int .i64 half)) w :=
  run_ldc 3 y ho g 18 hx 27 _ hg (na3 w) _ (by kernel_rfl)
end
theorem askC_len {s : Nat} {fr : List Nat} {l : List Cd} {half : Int} : (askC s fr l half).length ≤ fr.length + l.length := by unfold askC; rw [List.length_map]; exact ask_len
set_option maxRecDepth 100000 in
set_option maxHeartbeats 4000000 in
theorem fixed_any (w : World) : Calls Try.prog 14 #[] w (fun e w' => e = .returned (.bool true) ∧ Gro w w') := by
  refine s_enter Try.func14 rfl Try.ntmps14 [] [undef, undef, undef, undef, undef, undef, undef, undef, undef, undef, undef, undef, undef, undef, undef, undef, undef, undef, undef, undef, undef, undef, undef, undef, undef, undef, undef, undef, undef, undef, undef, undef, undef, undef, undef, undef, undef] rfl ?_
  have GG := Gro.refl w
  refine wp_seq ?_
  refine wp_region_lit ?_
  refine s_val 0 rfl rfl (.bool false) (rfl) ?_
  refine nr ?_; intro U h; simp only [z0] at h; subst h
  refine wpList_nil ?_
  refine then_n ?_
  refine wp_seq ?_
  refine wp_region_lit ?_
  refine s_callv 2 rfl rfl _ 28 Try.call28 rfl rfl _ rfl [.int .u8 5] rfl (n_any 5 (by decide) _) ?_
  intro w1 G
  replace GG := GG.trans G
  clear G
  refine nr ?_; intro U h; simp only [z0, z1] at h; subst h
  refine s_callv 3 rfl rfl _ 28 Try.call28 rfl rfl _ rfl [.int .u8 9] rfl (n_any 9 (by decide) _) ?_
  intro w2 G
  replace GG := GG.trans G
  clear G
  refine nr ?_; intro U h; simp only [z0, z1] at h; subst h
  refine s_bsl 4 rfl rfl 24 1 _ rfl [(0, .agg (idA 9))] rfl ([9].flatMap kI.E).toArray 23 (bsI 9 _) ?_
  intro w3 q1 G eq1 kq1
  have bq1 := size_base GG eq1
  replace GG := GG.trans G
  clear G
  have HR1 : RK kI _ (some ⟨q1, 0, none⟩) 1 [9] := RK.blk kq1 (one_all (show 9 < top by decide)) (Nat.le_refl _)
  clear eq1
  refine nr ?_; intro U h; simp only [z0, z1] at h; subst h
  refine s_callv 5 rfl rfl _ 28 Try.call28 rfl rfl _ rfl [.int .u8 7] rfl (n_any 7 (by decide) _) ?_
  intro w4 G
  replace HR1 := HR1.gro G
  replace GG := GG.trans G
  clear G
  refine nr ?_; intro U h; simp only [z0, z1] at h; subst h
  refine s_val 6 rfl rfl (.agg (paA (mkP 0 3))) (run_bd 31 _ rfl [(1, .int .i64 3)] rfl _ (bdP1 _ _)) ?_
  refine nr ?_; intro U h; simp only [z0, z1] at h; subst h
  refine s_val 7 rfl rfl (.agg (cdA (mkC 7 1 0 (mkP 0 3)))) (run_bd 33 _ rfl [(0, .agg (idA 7)), (1, .int .i64 1), (3, .agg (paA (mkP 0 3)))] rfl _ (bdC013 _ _ _ _)) ?_
  refine nr ?_; intro U h; simp only [z0, z1] at h; subst h
  refine s_callv 8 rfl rfl _ 28 Try.call28 rfl rfl _ rfl [.int .u8 7] rfl (n_any 7 (by decide) _) ?_
  intro w5 G
  replace HR1 := HR1.gro G
  replace GG := GG.trans G
  clear G
  refine nr ?_; intro U h; simp only [z0, z1] at h; subst h
  refine s_val 9 rfl rfl (.agg (cdA (mkC 7 0 2 zP))) (run_bd 33 _ rfl [(0, .agg (idA 7)), (2, .int .i64 2)] rfl _ (bdC02 _ _ _)) ?_
  refine nr ?_; intro U h; simp only [z0, z1] at h; subst h
  refine s_callv 10 rfl rfl _ 28 Try.call28 rfl rfl _ rfl [.int .u8 20] rfl (n_any 20 (by decide) _) ?_
  intro w6 G
  replace HR1 := HR1.gro G
  replace GG := GG.trans G
  clear G
  refine nr ?_; intro U h; simp only [z0, z1] at h; subst h
  refine s_val 11 rfl rfl (.agg (cdA (mkC 20 3 1 zP))) (run_bd 33 _ rfl [(0, .agg (idA 20)), (1, .int .i64 3), (2, .int .i64 1)] rfl _ (bdC012 _ _ _ _)) ?_
  refine nr ?_; intro U h; simp only [z0, z1] at h; subst h
  refine s_bsl 12 rfl rfl 25 3 _ rfl [(0, .agg (cdA (mkC 7 1 0 (mkP 0 3)))), (1, .agg (cdA (mkC 7 0 2 zP))), (2, .agg (cdA (mkC 20 3 1 zP)))] rfl (fxL.flatMap kC.E).toArray 33 (bsC3 (mkC 7 1 0 (mkP 0 3)) (mkC 7 0 2 zP) (mkC 20 3 1 zP) _) ?_
  intro w7 q3 G eq3 kq3
  replace HR1 := HR1.gro G
  replace GG := GG.trans G
  clear G
  have HR3 : RK kC _ (some ⟨q3, 0, none⟩) 3 fxL := RK.blk kq3 (three_all (mkC_ok (by decide) (sm_i64 (by decide) (by decide)) (sm_i64 (by decide) (by decide)) (mkP_ok top_0 (sm_i64 (by decide) (by decide)))) (mkC_ok (by decide) (sm_i64 (by decide) (by decide)) (sm_i64 (by decide) (by decide)) zP_ok) (mkC_ok (by decide) (sm_i64 (by decide) (by decide)) (sm_i64 (by decide) (by decide)) zP_ok)) (Nat.le_refl _)
  clear eq3
  refine nr ?_; intro U h; simp only [z0, z1] at h; subst h
  refine s_callx 13 rfl rfl _ 11 Try.call11 rfl rfl _ rfl [.agg (idA 5), .slice (some ⟨q1, 0, none⟩) 1 1, .slice (some ⟨q3, 0, none⟩) 3 3, .int .i64 1] rfl (asks_any _ 5 (by decide) 1 _ _ [9] HR1 (by decide) _ _ fxL HR3 (by decide)) (by rintro _ _ ⟨_, _, he, _⟩; exact ⟨_, he⟩) ?_
  rintro v w8 ⟨xo, xc, he, G, HX⟩
  cases he
  replace HR1 := HR1.gro G
  replace HR3 := HR3.gro G
  replace GG := GG.trans G
  clear G
  rw [fxA] at HX ⊢
  replace HX := HX.re
  refine nr ?_; intro U h; simp only [z0, z1] at h; subst h
  refine s_val 1 rfl rfl (.slice xo 2 xc) (rfl) ?_
  refine nr ?_; intro U h; simp only [z0, z1] at h; subst h
  refine wpList_nil ?_
  refine then_n ?_
  refine wp_seq ?_
  refine wp_region_exA (A := ?Ax1) 18 [(0, 14), (1, 15), (2, 16), (3, 17), (4, 18), (5, 19), (6, 20), (7, 21), (8, 22), (9, 23), (10, 24), (11, 25), (12, 26), (13, 27), (14, 28), (15, 29), (16, 30), (17, 31)] [.val (.slice xo 2 xc), .val (.int .i64 ((2 : Nat) : Int)), .val (.bool true), .val (.bool true), .val (.slice xo 2 xc), .val (.pointer (pK kC xo 0 0)), .val (.agg (cdA ([mkC 7 0 2 zP, mkC 20 3 1 zP].getD 0 zC))), .val (.agg (idA 7)), .val (.agg (cdA (mkC 7 0 2 zP))), .val (.bool true), .val (.bool true), .val (.bool true), .val (.slice xo 2 xc), .val (.pointer (pK kC xo 1 0)), .val (.agg (cdA ([mkC 7 0 2 zP, mkC 20 3 1 zP].getD 1 zC))), .val (.agg (idA 20)), .val (.agg (cdA (mkC 20 3 1 zP))), .val (.bool true)] follows (by kernel_rfl) rfl ?hAx1 (opsA_cons ?o0x1 (opsA_cons ?o1x1 (opsA_cons ?o2x1 (opsA_cons ?o3x1 (opsA_cons ?o4x1 (opsA_cons ?o5x1 (opsA_cons ?o6x1 (opsA_cons ?o7x1 (opsA_cons ?o8x1 (opsA_cons ?o9x1 (opsA_cons ?o10x1 (opsA_cons ?o11x1 (opsA_cons ?o12x1 (opsA_cons ?o13x1 (opsA_cons ?o14x1 (opsA_cons ?o15x1 (opsA_cons ?o16x1 (opsA_cons ?o17x1 opsA_nil)))))))))))))))))) ?restx1
  case hAx1 =>
    intro ptrs
    simp only [full, foldSlots, filledE, postE, List.foldl_cons, List.foldl_nil, List.getD_cons_zero, List.getD_cons_succ, fill_val, List.set_cons_zero, List.set_cons_succ]
    exact rfl
  case o0x1 => exact fun _ _ _ _ => opE_move (v := .slice xo 2 xc) _ rfl rfl rfl
  case o1x1 => exact fun _ _ _ _ => opE_value (v := .int .i64 ((2 : Nat) : Int)) rfl (run_len Try.underlying25 _ rfl _ _ _ rfl _)
  case o2x1 => exact fun _ _ _ _ => opE_value (v := .bool true) rfl (run_eq_k 3 .i64 _ _ _ rfl Try.underlying3 ((2 : Nat) : Int) 2 rfl rfl true rfl _)
  case o3x1 => exact fun _ _ _ _ => opE_move (v := .bool true) _ rfl rfl rfl
  case o4x1 => exact fun _ _ _ _ => opE_move (v := .slice xo 2 xc) _ rfl rfl rfl
  case o5x1 => exact fun _ _ hw _ => opE_value (v := .pointer (pK kC xo 0 0)) rfl (run_ixK rC (HX.gro ((Gro.refl _).drew.trans hw)) _ _ rfl rfl 0 rfl (by decide))
  case o6x1 => exact fun _ _ hw _ => opE_value (v := .agg (cdA ([mkC 7 0 2 zP, mkC 20 3 1 zP].getD 0 zC))) rfl (run_ldKC (HX.gro ((Gro.refl _).drew.trans hw)) _ rfl 0 rfl (by decide))
  case o7x1 =>
    intro ptrs w' hw hE
    exact opE_call (.val (.agg (idA 7))) rfl _ 28 Try.call28 rfl rfl _ rfl [.int .u8 7] rfl ((n_any 7 (by decide) _).mono fun e w' ⟨he, hg⟩ => ⟨_, he, hg, rfl⟩)
  case o8x1 => exact fun _ _ _ _ => opE_value (v := .agg (cdA (mkC 7 0 2 zP))) rfl (run_bd 33 _ rfl [(0, .agg (idA 7)), (2, .int .i64 2)] rfl _ (bdC02 _ _ _))
  case o9x1 => exact fun _ _ _ _ => opE_value (v := .bool true) rfl (run_eqC _ _ _ rfl ([mkC 7 0 2 zP, mkC 20 3 1 zP].getD 0 zC) (mkC 7 0 2 zP) rfl rfl (mkC_ok (by decide) (sm_i64 (by decide) (by decide)) (sm_i64 (by decide) (by decide)) zP_ok) (mkC_ok (by decide) (sm_i64 (by decide) (by decide)) (sm_i64 (by decide) (by decide)) zP_ok) true (eqC_self _))
  case o10x1 => exact fun _ _ _ _ => opE_pick (v := .bool true) _ _ _ rfl rfl true rfl rfl
  case o11x1 => exact fun _ _ _ _ => opE_move (v := .bool true) _ rfl rfl rfl
  case o12x1 => exact fun _ _ _ _ => opE_move (v := .slice xo 2 xc) _ rfl rfl rfl
  case o13x1 => exact fun _ _ hw _ => opE_value (v := .pointer (pK kC xo 1 0)) rfl (run_ixK rC (HX.gro ((Gro.refl _).drew.trans hw)) _ _ rfl rfl 1 rfl (by decide))
  case o14x1 => exact fun _ _ hw _ => opE_value (v := .agg (cdA ([mkC 7 0 2 zP, mkC 20 3 1 zP].getD 1 zC))) rfl (run_ldKC (HX.gro ((Gro.refl _).drew.trans hw)) _ rfl 1 rfl (by decide))
  case o15x1 =>
    intro ptrs w' hw hE
    exact opE_call (.val (.agg (idA 20))) rfl _ 28 Try.call28 rfl rfl _ rfl [.int .u8 20] rfl ((n_any 20 (by decide) _).mono fun e w' ⟨he, hg⟩ => ⟨_, he, hg, rfl⟩)
  case o16x1 => exact fun _ _ _ _ => opE_value (v := .agg (cdA (mkC 20 3 1 zP))) rfl (run_bd 33 _ rfl [(0, .agg (idA 20)), (1, .int .i64 3), (2, .int .i64 1)] rfl _ (bdC012 _ _ _ _))
  case o17x1 => exact fun _ _ _ _ => opE_value (v := .bool true) rfl (run_eqC _ _ _ rfl ([mkC 7 0 2 zP, mkC 20 3 1 zP].getD 1 zC) (mkC 20 3 1 zP) rfl rfl (mkC_ok (by decide) (sm_i64 (by decide) (by decide)) (sm_i64 (by decide) (by decide)) zP_ok) (mkC_ok (by decide) (sm_i64 (by decide) (by decide)) (sm_i64 (by decide) (by decide)) zP_ok) true (eqC_self _))
  intro ptrs w9 GD hxE
  simp only [List.drop_succ_cons, List.drop_zero]
  replace HX := HX.gro ((Gro.refl _).drew.trans GD)
  replace GG := GG.drew.trans GD
  clear GD
  refine s_val 32 rfl rfl (.bool true) (rfl) ?_
  refine nr ?_; intro U h; simp only [z0, z1] at h; subst h
  refine s_val 33 rfl rfl (.bool true) (rfl) ?_
  refine nr ?_; intro U h; simp only [z0, z1] at h; subst h
  refine s_val 34 rfl rfl (.bool true) (rfl) ?_
  refine nr ?_; intro U h; simp only [z0, z1] at h; subst h
  refine s_val 35 rfl rfl (.bool true) (rfl) ?_
  refine nr ?_; intro U h; simp only [z0, z1] at h; subst h
  refine s_val 36 rfl rfl (.bool true) (rfl) ?_
  refine nr ?_; intro U h; simp only [z0, z1] at h; subst h
  refine s_val 0 rfl rfl (.bool true) (rfl) ?_
  refine nr ?_; intro U h; simp only [z0] at h; subst h
  refine wpList_nil ?_
  refine then_n ?_
  refine wp_ret ?_
  refine bodyPost_ret (results_tmp Try.results14 _ _ _) rfl ?_
  exact ⟨rfl, GG⟩
end Go.Proofs.Ytfabgonoonanfaa
