/- The document's table of kinds (Form), texts: their length, their letters. -/
import Derived.Test.YthmcnlmphikicaaGK4
namespace Go.Proofs.Ythmcnlmphikicaa
open Go.RowKit
def formL (k : Int) : List Nat := if k = 1 then [102, 116, 97] else if k = 2 then [102, 116, 110, 120] else if k = 3 then [102, 116, 110] else if k = 4 then [112, 97, 98, 114] else if k = 5 then [112] else if k = 6 then [112, 100] else if k = 7 then [112, 100, 115] else if k = 8 then [97, 98, 108, 112, 100, 114] else if k = 9 then [97, 110] else if k = 10 then [97, 98, 110, 111, 119, 105, 121] else if k = 11 then [112, 100, 105] else if k = 12 then [112, 100, 107] else [63]
theorem formL_is (k : Int) : (1 ≤ k ∧ k ≤ 12) ∨ formL k = [63] := by
  by_cases h : 1 ≤ k ∧ k ≤ 12
  · exact .inl h
  · refine .inr ?_
    unfold formL
    rw [if_neg (by omega), if_neg (by omega), if_neg (by omega), if_neg (by omega), if_neg (by omega), if_neg (by omega), if_neg (by omega), if_neg (by omega), if_neg (by omega), if_neg (by omega), if_neg (by omega), if_neg (by omega)]
theorem formL_ok (k : Int) : (formL k).length ≤ 7 ∧ ∀ x ∈ formL k, x < 256 := by
  rcases formL_is k with h | h
  · have h3 : k = 1 ∨ k = 2 ∨ k = 3 ∨ k = 4 ∨ k = 5 ∨ k = 6 ∨ k = 7 ∨ k = 8 ∨ k = 9 ∨ k = 10 ∨ k = 11 ∨ k = 12 := by omega
    rcases h3 with rfl | rfl | rfl | rfl | rfl | rfl | rfl | rfl | rfl | rfl | rfl | rfl <;> decide
  · rw [h]; decide
theorem run_slen {P : Program} {o : Oper} {A : Act} (x : Operand) (ho : o.op = .call { callee := .builtin .len, args := #[x], argTypes := #[9] }) (hu : P.underlying 9 = some .string) (F : List Nat) (hx : A.eval x = .string (bas F)) (w : World) : (execOp A.eval o).run P w = .ok (.value (.int .i64 ((F.length : Nat) : Int))) w := by
  have h1 : (bas F).size = F.length := by show (F.map UInt8.ofNat).toArray.size = _; simp
  have hr := run_underlying hu w
  unfold execOp
  simp [ho, resolve, invoke, builtin, hx, Builtin.len_, hr, goInt, h1]
theorem run_sidx {o : Oper} {A : Act} (x y : Operand) (ho : o.op = .index 9 x y) (F : List Nat) (hF : ∀ x ∈ F, x < 256) (hx : A.eval x = .string (bas F)) (i : Nat) (hi : i < F.length) (hy : A.eval y = .int .i64 ((i : Nat) : Int)) (w : World) : (execOp A.eval o).run Try.prog w = .ok (.value (.int .u8 ((F.getD i 0 : Nat) : Int))) w := by
  have h0 : F.getD i 0 < 256 := by rw [List.getD_eq_getElem?_getD, List.getElem?_eq_getElem hi]; exact hF _ (List.getElem_mem hi)
  have h1 : (bas F)[((i : Nat) : Int).toNat]? = some (UInt8.ofNat (F.getD i 0)) := by
    show (if h : i < (F.map UInt8.ofNat).toArray.size then some (F.map UInt8.ofNat).toArray[i] else none) = _
    rw [dif_pos (by simpa using hi)]
    simp [List.getD_eq_getElem?_getD, List.getElem?_eq_getElem hi]
  have h : (Instr.index 9 (.string (bas F)) (.int .i64 ((i : Nat) : Int))).run Try.prog w = .ok (.int .u8 ((F.getD i 0 : Nat) : Int)) w := by
    simp only [Instr.index, Sem.run_bind, asIntOf, Sem.run_pure, Result.andThen_ok, run_underlying Try.underlying9, if_pos (show (0 : Int) ≤ ((i : Nat) : Int) by omega), h1]
    have h2 : (UInt8.ofNat (F.getD i 0)).toNat = F.getD i 0 := by rw [UInt8.toNat_ofNat']; omega
    rw [h2]
  unfold execOp
  simp only [ho, hx, hy, Sem.run_bind, h, Result.andThen_ok, Sem.run_pure]
theorem formL_63 (k : Int) (F : List Nat) (hF : formL k = F) : decide (bas F = bas [63]) = decide (F = [63]) := by
  have h := formL_ok k
  rw [hF] at h
  refine decide_eq_decide.mpr ⟨fun e => bas_inj h.2 (by decide) e, fun e => by rw [e]⟩
theorem form_any (k : Int) (F : List Nat) (hF : formL k = F) (w : World) : Calls Try.prog 27 #[.int .i64 k] w fun e w' => e = .returned (.string (bas F)) ∧ Gro w w' := by
  refine s_enterR Try.func27 rfl Try.ntmps27 [.int .i64 k] ?_
  intro U h; simp only [List.length_cons, List.length_nil, List.cons_append, List.nil_append, Nat.reduceAdd, Nat.reduceSub, List.reduceReplicate] at h; subst h
  have GG := Gro.refl w
  refine wp_seq (wp_region_lit (mv 2 (.string (bas [])) (wpList_nil (then_n (wp_seq (wp_seq (wp_region_lit (mv 3 (.int .i64 k) (wpList_nil (then_n (wp_block (wp_seq (wp_region_lit ?_)))))))))))))
  obtain ⟨p1, hp1⟩ : ∃ p, decide (k = 1) = p := ⟨_, rfl⟩
  refine sv 5 (.bool p1) (run_eq_k 3 .i64 _ _ _ rfl Try.underlying3 k 1 rfl rfl p1 hp1 _) ?_
  refine nr ?_; intro U h; simp only [z0, z1] at h; subst h
  cases p1
  have n1 := of_decide_eq_false hp1
  refine s_val _ rfl rfl (.bool false) rfl ?_
  refine wpList_nil (then_n (wp_cond_false rfl (wp_seq (wp_region_lit ?_))))
  obtain ⟨p2, hp2⟩ : ∃ p, decide (k = 2) = p := ⟨_, rfl⟩
  refine sv 7 (.bool p2) (run_eq_k 3 .i64 _ _ _ rfl Try.underlying3 k 2 rfl rfl p2 hp2 _) ?_
  refine nr ?_; intro U h; simp only [z0, z1] at h; subst h
  cases p2
  have n2 := of_decide_eq_false hp2
  refine s_val _ rfl rfl (.bool false) rfl ?_
  refine wpList_nil (then_n (wp_cond_false rfl (wp_seq (wp_region_lit ?_))))
  obtain ⟨p3, hp3⟩ : ∃ p, decide (k = 3) = p := ⟨_, rfl⟩
  refine sv 9 (.bool p3) (run_eq_k 3 .i64 _ _ _ rfl Try.underlying3 k 3 rfl rfl p3 hp3 _) ?_
  refine nr ?_; intro U h; simp only [z0, z1] at h; subst h
  cases p3
  have n3 := of_decide_eq_false hp3
  refine s_val _ rfl rfl (.bool false) rfl ?_
  refine wpList_nil (then_n (wp_cond_false rfl (wp_seq (wp_region_lit ?_))))
  obtain ⟨p4, hp4⟩ : ∃ p, decide (k = 4) = p := ⟨_, rfl⟩
  refine sv 11 (.bool p4) (run_eq_k 3 .i64 _ _ _ rfl Try.underlying3 k 4 rfl rfl p4 hp4 _) ?_
  refine nr ?_; intro U h; simp only [z0, z1] at h; subst h
  cases p4
  have n4 := of_decide_eq_false hp4
  refine s_val _ rfl rfl (.bool false) rfl ?_
  refine wpList_nil (then_n (wp_cond_false rfl (wp_seq (wp_region_lit ?_))))
  obtain ⟨p5, hp5⟩ : ∃ p, decide (k = 5) = p := ⟨_, rfl⟩
  refine sv 13 (.bool p5) (run_eq_k 3 .i64 _ _ _ rfl Try.underlying3 k 5 rfl rfl p5 hp5 _) ?_
  refine nr ?_; intro U h; simp only [z0, z1] at h; subst h
  cases p5
  have n5 := of_decide_eq_false hp5
  refine s_val _ rfl rfl (.bool false) rfl ?_
  refine wpList_nil (then_n (wp_cond_false rfl (wp_seq (wp_region_lit ?_))))
  obtain ⟨p6, hp6⟩ : ∃ p, decide (k = 6) = p := ⟨_, rfl⟩
  refine sv 15 (.bool p6) (run_eq_k 3 .i64 _ _ _ rfl Try.underlying3 k 6 rfl rfl p6 hp6 _) ?_
  refine nr ?_; intro U h; simp only [z0, z1] at h; subst h
  cases p6
  have n6 := of_decide_eq_false hp6
  refine s_val _ rfl rfl (.bool false) rfl ?_
  refine wpList_nil (then_n (wp_cond_false rfl (wp_seq (wp_region_lit ?_))))
  obtain ⟨p7, hp7⟩ : ∃ p, decide (k = 7) = p := ⟨_, rfl⟩
  refine sv 17 (.bool p7) (run_eq_k 3 .i64 _ _ _ rfl Try.underlying3 k 7 rfl rfl p7 hp7 _) ?_
  refine nr ?_; intro U h; simp only [z0, z1] at h; subst h
  cases p7
  have n7 := of_decide_eq_false hp7
  refine s_val _ rfl rfl (.bool false) rfl ?_
  refine wpList_nil (then_n (wp_cond_false rfl (wp_seq (wp_region_lit ?_))))
  obtain ⟨p8, hp8⟩ : ∃ p, decide (k = 8) = p := ⟨_, rfl⟩
  refine sv 19 (.bool p8) (run_eq_k 3 .i64 _ _ _ rfl Try.underlying3 k 8 rfl rfl p8 hp8 _) ?_
  refine nr ?_; intro U h; simp only [z0, z1] at h; subst h
  cases p8
  have n8 := of_decide_eq_false hp8
  refine s_val _ rfl rfl (.bool false) rfl ?_
  refine wpList_nil (then_n (wp_cond_false rfl (wp_seq (wp_region_lit ?_))))
  obtain ⟨p9, hp9⟩ : ∃ p, decide (k = 9) = p := ⟨_, rfl⟩
  refine sv 21 (.bool p9) (run_eq_k 3 .i64 _ _ _ rfl Try.underlying3 k 9 rfl rfl p9 hp9 _) ?_
  refine nr ?_; intro U h; simp only [z0, z1] at h; subst h
  cases p9
  have n9 := of_decide_eq_false hp9
  refine s_val _ rfl rfl (.bool false) rfl ?_
  refine wpList_nil (then_n (wp_cond_false rfl (wp_seq (wp_region_lit ?_))))
  obtain ⟨p10, hp10⟩ : ∃ p, decide (k = 10) = p := ⟨_, rfl⟩
  refine sv 23 (.bool p10) (run_eq_k 3 .i64 _ _ _ rfl Try.underlying3 k 10 rfl rfl p10 hp10 _) ?_
  refine nr ?_; intro U h; simp only [z0, z1] at h; subst h
  cases p10
  have n10 := of_decide_eq_false hp10
  refine s_val _ rfl rfl (.bool false) rfl ?_
  refine wpList_nil (then_n (wp_cond_false rfl (wp_seq (wp_region_lit ?_))))
  obtain ⟨p11, hp11⟩ : ∃ p, decide (k = 11) = p := ⟨_, rfl⟩
  refine sv 25 (.bool p11) (run_eq_k 3 .i64 _ _ _ rfl Try.underlying3 k 11 rfl rfl p11 hp11 _) ?_
  refine nr ?_; intro U h; simp only [z0, z1] at h; subst h
  cases p11
  have n11 := of_decide_eq_false hp11
  refine s_val _ rfl rfl (.bool false) rfl ?_
  refine wpList_nil (then_n (wp_cond_false rfl (wp_seq (wp_region_lit ?_))))
  obtain ⟨p12, hp12⟩ : ∃ p, decide (k = 12) = p := ⟨_, rfl⟩
  refine sv 27 (.bool p12) (run_eq_k 3 .i64 _ _ _ rfl Try.underlying3 k 12 rfl rfl p12 hp12 _) ?_
  refine nr ?_; intro U h; simp only [z0, z1] at h; subst h
  cases p12
  have n12 := of_decide_eq_false hp12
  refine s_val _ rfl rfl (.bool false) rfl ?_
  refine wpList_nil (then_n (wp_cond_false rfl (wp_skip (blk_n (then_n (wp_seq (wp_region_lit (mv 2 (.string (bas [63])) (wpList_nil (then_n (wp_ret ?_)))))))))))
  refine bodyPost_ret (results_tmp Try.results27 _ _ _) rfl ?_
  refine ⟨?_, GG⟩
  first | rfl | (rw [← hF]; unfold formL; rw [if_neg n1, if_neg n2, if_neg n3, if_neg n4, if_neg n5, if_neg n6, if_neg n7, if_neg n8, if_neg n9, if_neg n10, if_neg n11, if_neg n12]; rfl)
  have hk : k = 12 := of_decide_eq_true hp12
  subst hk
  subst hF
  refine mv 26 (.bool true) (wpList_nil (then_n (wp_cond_true rfl (wp_seq (wp_region_lit (mv 2 (.string (bas [112, 100, 107])) (wpList_nil (then_n (wp_ret (blk_r (then_r ?_)))))))))))
  refine bodyPost_ret (results_tmp Try.results27 _ _ _) rfl ?_
  refine ⟨?_, GG⟩
  first | rfl | (rw [← hF]; unfold formL; rw [if_neg n1, if_neg n2, if_neg n3, if_neg n4, if_neg n5, if_neg n6, if_neg n7, if_neg n8, if_neg n9, if_neg n10, if_neg n11, if_neg n12]; rfl)
  have hk : k = 11 := of_decide_eq_true hp11
  subst hk
  subst hF
  refine mv 24 (.bool true) ?_
  refine nr ?_; intro U h; simp only [z0, z1] at h; subst h
  refine wpList_nil (then_n (wp_cond_true rfl (wp_seq (wp_region_lit (mv 2 (.string (bas [112, 100, 105])) (wpList_nil (then_n (wp_ret (blk_r (then_r ?_))))))))))
  refine bodyPost_ret (results_tmp Try.results27 _ _ _) rfl ?_
  refine ⟨?_, GG⟩
  first | rfl | (rw [← hF]; unfold formL; rw [if_neg n1, if_neg n2, if_neg n3, if_neg n4, if_neg n5, if_neg n6, if_neg n7, if_neg n8, if_neg n9, if_neg n10, if_neg n11, if_neg n12]; rfl)
  have hk : k = 10 := of_decide_eq_true hp10
  subst hk
  subst hF
  refine mv 22 (.bool true) (wpList_nil (then_n (wp_cond_true rfl (wp_seq (wp_region_lit (mv 2 (.string (bas [97, 98, 110, 111, 119, 105, 121])) (wpList_nil (then_n (wp_ret (blk_r (then_r ?_)))))))))))
  refine bodyPost_ret (results_tmp Try.results27 _ _ _) rfl ?_
  refine ⟨?_, GG⟩
  first | rfl | (rw [← hF]; unfold formL; rw [if_neg n1, if_neg n2, if_neg n3, if_neg n4, if_neg n5, if_neg n6, if_neg n7, if_neg n8, if_neg n9, if_neg n10, if_neg n11, if_neg n12]; rfl)
  have hk : k = 9 := of_decide_eq_true hp9
  subst hk
  subst hF
  refine mv 20 (.bool true) (wpList_nil (then_n (wp_cond_true rfl (wp_seq (wp_region_lit (mv 2 (.string (bas [97, 110])) ?_))))))
  refine nr ?_; intro U h; simp only [z0, z1] at h; subst h
  refine wpList_nil (then_n (wp_ret (blk_r (then_r ?_))))
  refine bodyPost_ret (results_tmp Try.results27 _ _ _) rfl ?_
  refine ⟨?_, GG⟩
  first | rfl | (rw [← hF]; unfold formL; rw [if_neg n1, if_neg n2, if_neg n3, if_neg n4, if_neg n5, if_neg n6, if_neg n7, if_neg n8, if_neg n9, if_neg n10, if_neg n11, if_neg n12]; rfl)
  have hk : k = 8 := of_decide_eq_true hp8
  subst hk
  subst hF
  refine mv 18 (.bool true) (wpList_nil (then_n (wp_cond_true rfl (wp_seq (wp_region_lit (mv 2 (.string (bas [97, 98, 108, 112, 100, 114])) (wpList_nil (then_n (wp_ret (blk_r (then_r ?_)))))))))))
  refine bodyPost_ret (results_tmp Try.results27 _ _ _) rfl ?_
  refine ⟨?_, GG⟩
  first | rfl | (rw [← hF]; unfold formL; rw [if_neg n1, if_neg n2, if_neg n3, if_neg n4, if_neg n5, if_neg n6, if_neg n7, if_neg n8, if_neg n9, if_neg n10, if_neg n11, if_neg n12]; rfl)
  have hk : k = 7 := of_decide_eq_true hp7
  subst hk
  subst hF
  refine mv 16 (.bool true) (wpList_nil (then_n (wp_cond_true rfl (wp_seq (wp_region_lit (mv 2 (.string (bas [112, 100, 115])) (wpList_nil (then_n (wp_ret (blk_r (then_r ?_)))))))))))
  refine bodyPost_ret (results_tmp Try.results27 _ _ _) rfl ?_
  refine ⟨?_, GG⟩
  first | rfl | (rw [← hF]; unfold formL; rw [if_neg n1, if_neg n2, if_neg n3, if_neg n4, if_neg n5, if_neg n6, if_neg n7, if_neg n8, if_neg n9, if_neg n10, if_neg n11, if_neg n12]; rfl)
  have hk : k = 6 := of_decide_eq_true hp6
  subst hk
  subst hF
  refine mv 14 (.bool true) ?_
  refine nr ?_; intro U h; simp only [z0, z1] at h; subst h
  refine wpList_nil (then_n (wp_cond_true rfl (wp_seq (wp_region_lit (mv 2 (.string (bas [112, 100])) (wpList_nil (then_n (wp_ret (blk_r (then_r ?_))))))))))
  refine bodyPost_ret (results_tmp Try.results27 _ _ _) rfl ?_
  refine ⟨?_, GG⟩
  first | rfl | (rw [← hF]; unfold formL; rw [if_neg n1, if_neg n2, if_neg n3, if_neg n4, if_neg n5, if_neg n6, if_neg n7, if_neg n8, if_neg n9, if_neg n10, if_neg n11, if_neg n12]; rfl)
  have hk : k = 5 := of_decide_eq_true hp5
  subst hk
  subst hF
  refine mv 12 (.bool true) (wpList_nil (then_n (wp_cond_true rfl (wp_seq (wp_region_lit (mv 2 (.string (bas [112])) (wpList_nil (then_n (wp_ret (blk_r (then_r ?_)))))))))))
  refine bodyPost_ret (results_tmp Try.results27 _ _ _) rfl ?_
  refine ⟨?_, GG⟩
  first | rfl | (rw [← hF]; unfold formL; rw [if_neg n1, if_neg n2, if_neg n3, if_neg n4, if_neg n5, if_neg n6, if_neg n7, if_neg n8, if_neg n9, if_neg n10, if_neg n11, if_neg n12]; rfl)
  have hk : k = 4 := of_decide_eq_true hp4
  subst hk
  subst hF
  refine mv 10 (.bool true) (wpList_nil (then_n (wp_cond_true rfl (wp_seq (wp_region_lit (mv 2 (.string (bas [112, 97, 98, 114])) ?_))))))
  refine nr ?_; intro U h; simp only [z0, z1] at h; subst h
  refine wpList_nil (then_n (wp_ret (blk_r (then_r ?_))))
  refine bodyPost_ret (results_tmp Try.results27 _ _ _) rfl ?_
  refine ⟨?_, GG⟩
  first | rfl | (rw [← hF]; unfold formL; rw [if_neg n1, if_neg n2, if_neg n3, if_neg n4, if_neg n5, if_neg n6, if_neg n7, if_neg n8, if_neg n9, if_neg n10, if_neg n11, if_neg n12]; rfl)
  have hk : k = 3 := of_decide_eq_true hp3
  subst hk
  subst hF
  refine mv 8 (.bool true) (wpList_nil (then_n (wp_cond_true rfl (wp_seq (wp_region_lit (mv 2 (.string (bas [102, 116, 110])) (wpList_nil (then_n (wp_ret (blk_r (then_r ?_)))))))))))
  refine bodyPost_ret (results_tmp Try.results27 _ _ _) rfl ?_
  refine ⟨?_, GG⟩
  first | rfl | (rw [← hF]; unfold formL; rw [if_neg n1, if_neg n2, if_neg n3, if_neg n4, if_neg n5, if_neg n6, if_neg n7, if_neg n8, if_neg n9, if_neg n10, if_neg n11, if_neg n12]; rfl)
  have hk : k = 2 := of_decide_eq_true hp2
  subst hk
  subst hF
  refine mv 6 (.bool true) (wpList_nil (then_n (wp_cond_true rfl (wp_seq (wp_region_lit (mv 2 (.string (bas [102, 116, 110, 120])) (wpList_nil (then_n (wp_ret (blk_r (then_r ?_)))))))))))
  refine bodyPost_ret (results_tmp Try.results27 _ _ _) rfl ?_
  refine ⟨?_, GG⟩
  first | rfl | (rw [← hF]; unfold formL; rw [if_neg n1, if_neg n2, if_neg n3, if_neg n4, if_neg n5, if_neg n6, if_neg n7, if_neg n8, if_neg n9, if_neg n10, if_neg n11, if_neg n12]; rfl)
  have hk : k = 1 := of_decide_eq_true hp1
  subst hk
  subst hF
  refine mv 4 (.bool true) ?_
  refine nr ?_; intro U h; simp only [z0, z1] at h; subst h
  refine wpList_nil (then_n (wp_cond_true rfl (wp_seq (wp_region_lit (mv 2 (.string (bas [102, 116, 97])) (wpList_nil (then_n (wp_ret (blk_r (then_r ?_))))))))))
  refine bodyPost_ret (results_tmp Try.results27 _ _ _) rfl ?_
  refine ⟨?_, GG⟩
  first | rfl | (rw [← hF]; unfold formL; rw [if_neg n1, if_neg n2, if_neg n3, if_neg n4, if_neg n5, if_neg n6, if_neg n7, if_neg n8, if_neg n9, if_neg n10, if_neg n11, if_neg n12]; rfl)
end Go.Proofs.Ythmcnlmphikicaa
