/- Wire: a number's form is the beginning of no other one's. -/
import Derived.Test.YtkhbpkhkbidbdaaC1
namespace Go.Proofs.Ytkhbpkhkbidbdaa
open Go.RowKit

theorem wpList_stoplen {P : Program} {ops : Array Oper} {rest : List Oper} {o : Oper} {a : Act} {w : World} {Q : Exit → Act → World → Prop} {s : Operand} {t1 : TypeId} (_ho : o.op = .call { callee := .builtin .len, args := #[s], argTypes := #[t1] }) (h : Stop (wpList P ops Q (o :: rest) a w)) : wpList P ops Q (o :: rest) a w := h.out
theorem run_eq_b {o : Oper} {A : Act} (x y : Operand) (t2 : TypeId) (ho : o.op = .binOp .eql 4 x y t2) (p : Bool) (hx : A.eval x = .bool p) (hy : A.eval y = .bool p) (w : World) : (execOp A.eval o).run Try.prog w = .ok (.value (.bool true)) w := by
  refine run_binop .eql 4 x y t2 ho _ _ _ hx hy (by simp [eqGuard, go_sem]) ?_
  simp [binOp, run_equal_bool w 4 p p Try.underlying4]
set_option maxHeartbeats 3200000 in
theorem wireFree_any (n m : Nat) (hn : n < lim) (hm : m < lim) (w : World) : Calls Try.prog 7 #[.int .u64 (n : Int), .int .u64 (m : Int)] w fun e w' => e = .returned (.bool true) ∧ Gro w w' := by
  have GG : Gro w w := Gro.refl w
  have HN : Shut (n < lim) := ⟨hn⟩
  have HM : Shut (m < lim) := ⟨hm⟩
  have HF : Shut ((numL n).length ≤ (numL m).length → ((numL m).take (numL n).length = numL n ↔ n = m)) := ⟨numL_free n m hn hm⟩
  clear hn hm
  go_enter Try.func7, Try.ntmps7
  go_wp2_with (first | (go_at_call 12; first | (refine (putNum_any (some ⟨g1, 0, none⟩) 1 [n] _ K1 (by simp)).mono ?_; rintro e wN ⟨ao1, cap1, L1, rfl, E1, O1, GN⟩; replace GG := GG.trans GN; clear GN K1) | (refine (putNum_any (some ⟨g2, 0, none⟩) 1 [m] _ K2 (by simp)).mono ?_; rintro e wM ⟨ao2, cap2, L2, rfl, E2, O2, GN⟩; replace GG := GG.trans GN; replace O1 := O1.gro GN; clear GN K2)) | (with_reducible refine wpList_at ?_; first | (refine wpList_oneU 8 rfl rfl _ rfl n HN.out rfl ?_; intro w1 g1 G1 e1 K1; replace GG := GG.trans G1; clear G1 e1; (try simp only [Act.put, List.setIfInBounds_toArray, List.set_cons_zero, List.set_cons_succ])) | (refine wpList_oneU 11 rfl rfl _ rfl m HM.out rfl ?_; intro w2 g2 G2 e2 K2; replace GG := GG.trans G2; replace O1 := O1.gro G2; clear G2 e2; (try simp only [Act.put, List.setIfInBounds_toArray, List.set_cons_zero, List.set_cons_succ])) | (refine wpList_stoplen rfl ?_)))
  constructor
  have N1 := O1.nc
  have N2 := O2.nc
  have EE1 : L1 = numL n := E1.out.trans (putN_one n)
  have EE2 : L2 = numL m := E2.out.trans (putN_one m)
  have h0 : 0 < L1.length := by rw [EE1, numL_len]; omega
  have h9 : L1.length ≤ 9 := by rw [EE1]; exact numL_le n
  have h92 : L2.length ≤ 9 := by rw [EE2]; exact numL_le m
  rw [← EE1, ← EE2] at HF
  clear O1 O2 E1 E2 EE1 EE2
  have HL0 : Shut _ := ⟨h0⟩
  by_cases hgt : L2.length < L1.length
  · go_wp2_with (first | (go_at_call 11; refine (fixed_any _).mono ?_; rintro e wN ⟨rfl, GN⟩; replace GG := GG.trans GN; clear GN) | (with_reducible refine wpList_at ?_; first | (refine wpList_value_d 15 rfl rfl (.bool false) (run_eq_k 3 .i64 _ _ _ rfl Try.underlying3 (L1.length : Int) 0 rfl rfl false (decide_eq_false (by omega)) _) ?_; (try simp only [Act.put, List.setIfInBounds_toArray, List.set_cons_zero, List.set_cons_succ])) | (refine wpList_gvalue_d 21 rfl rfl (.bool true) (run_gtr64 _ _ _ rfl (L1.length : Int) (L2.length : Int) rfl rfl true (decide_eq_true (by omega)) _) ?_; (try simp only [Act.put, List.setIfInBounds_toArray, List.set_cons_zero, List.set_cons_succ])) | (refine wpList_gvalue_d 27 rfl rfl (.bool true) (run_gtr64 _ _ _ rfl (L1.length : Int) 0 rfl rfl true (decide_eq_true (by omega)) _) ?_; (try simp only [Act.put, List.setIfInBounds_toArray, List.set_cons_zero, List.set_cons_succ]))))
    go_ret
    exact ⟨rfl, GG⟩
  · have hle : L1.length ≤ L2.length := by omega
    have NT := N2.take L1.length hle
    have htl : (L2.take L1.length).length = L1.length := by rw [List.length_take]; omega
    have HTL : Shut _ := ⟨htl⟩
    have hfit : L1.length ≤ cap2 := by have := N2.fit; omega
    have hp : decide (bas (L2.take L1.length) = bas L1) = decide (n = m) := by
      have h := HF.out hle
      by_cases hnm : n = m
      · rw [h.2 hnm]; simp [hnm]
      · have : ¬ bas (L2.take L1.length) = bas L1 := fun e => hnm (h.1 (bas_inj NT.lt256 N1.lt256 e))
        simp [hnm, this]
    have HP : Shut _ := ⟨hp⟩
    clear htl hp HF
    go_wp2_with (first | (with_reducible refine wpList_at ?_; first | (refine wpList_value_d 15 rfl rfl (.bool false) (run_eq_k 3 .i64 _ _ _ rfl Try.underlying3 (L1.length : Int) 0 rfl rfl false (decide_eq_false (by omega)) _) ?_; (try simp only [Act.put, List.setIfInBounds_toArray, List.set_cons_zero, List.set_cons_succ])) | (refine wpList_gvalue_d 21 rfl rfl (.bool false) (run_gtr64 _ _ _ rfl (L1.length : Int) (L2.length : Int) rfl rfl false (decide_eq_false (by omega)) _) ?_; (try simp only [Act.put, List.setIfInBounds_toArray, List.set_cons_zero, List.set_cons_succ]))))
    refine wp_region_exA (A := ?A) 16 [(0, 29), (1, 30), (2, 31), (3, 32), (4, 33), (5, 34), (6, 35), (7, 36), (8, 37), (9, 38), (10, 39), (11, 40), (12, 41), (13, 42), (14, 43), (15, 4)] [.val (.bool true), .val (.bool true), .val (.slice ao2 L2.length cap2), .val (.slice ao1 L1.length cap1), .val (.int .i64 (L1.length : Int)), .val (.slice ao2 L1.length cap2), .val (.string (bas (L2.take L1.length))), .val (.slice ao1 L1.length cap1), .val (.string (bas L1)), .val (.bool (decide (n = m))), .val (.int .u64 (n : Int)), .val (.int .u64 (m : Int)), .val (.bool (decide (n = m))), .val (.bool true), .val (.bool true), .val (.bool true)] follows (by kernel_rfl) rfl ?hA
      (opsA_cons ?o0 (opsA_cons ?o1 (opsA_cons ?o2 (opsA_cons ?o3 (opsA_cons ?o4 (opsA_cons ?o5 (opsA_cons ?o6 (opsA_cons ?o7 (opsA_cons ?o8 (opsA_cons ?o9 (opsA_cons ?o10 (opsA_cons ?o11 (opsA_cons ?o12 (opsA_cons ?o13 (opsA_cons ?o14 (opsA_cons ?o15 opsA_nil)))))))))))))))) ?rest
    case hA =>
      intro ptrs
      simp only [full, foldSlots, filledE, postE, List.foldl_cons, List.foldl_nil, List.getD_cons_zero, List.getD_cons_succ, PostE.fill, PostE.val, Option.getD_some, List.set_cons_zero, List.set_cons_succ]
      exact rfl
    case o0 => exact fun _ _ _ _ => opE_call (.val (.bool true)) rfl _ 11 Try.call11 rfl rfl [] rfl [] rfl (fixed_E _)
    case o1 => exact fun _ _ _ _ => opE_move (v := (.bool true)) _ rfl rfl rfl
    case o2 => exact fun _ _ _ _ => opE_move (v := (.slice ao2 L2.length cap2)) _ rfl rfl rfl
    case o3 => exact fun _ _ _ _ => opE_move (v := (.slice ao1 L1.length cap1)) _ rfl rfl rfl
    case o4 => exact fun _ _ hw _ => opE_value (v := (.int .i64 (L1.length : Int))) rfl (run_len Try.underlying24 _ rfl ao1 L1.length cap1 rfl _)
    case o5 => exact fun _ _ hw _ => opE_value (v := (.slice ao2 L1.length cap2)) rfl (run_cut0 bT _ _ rfl ao2 L2.length cap2 L1.length rfl rfl hfit _)
    case o6 => exact fun ptrs w' hw _ => opE_value (v := (.string (bas (L2.take L1.length)))) rfl (run_text_op bT 9 Try.underlying9 _ rfl (l := L2.take L1.length) (by rw [HTL.out]; rfl) (NT.gro ((Gro.refl _).drew.trans hw)))
    case o7 => exact fun _ _ _ _ => opE_move (v := (.slice ao1 L1.length cap1)) _ rfl rfl rfl
    case o8 => exact fun ptrs w' hw _ => opE_value (v := (.string (bas L1))) rfl (run_text_op bT 9 Try.underlying9 _ rfl (l := L1) rfl (N1.gro ((Gro.refl _).drew.trans hw)))
    case o9 => exact fun _ _ hw _ => opE_value (v := (.bool (decide (n = m)))) rfl (run_eqs_op _ _ _ rfl _ _ rfl rfl _ HP.out _)
    case o10 => exact fun _ _ _ _ => opE_move (v := (.int .u64 (n : Int))) _ rfl rfl rfl
    case o11 => exact fun _ _ _ _ => opE_move (v := (.int .u64 (m : Int))) _ rfl rfl rfl
    case o12 => exact fun _ _ hw _ => opE_value (v := (.bool (decide (n = m)))) rfl (run_eq_k 25 .u64 _ _ _ rfl Try.underlying25 (n : Int) (m : Int) rfl rfl _ (by simp; omega) _)
    case o13 => exact fun _ _ hw _ => opE_value (v := (.bool true)) rfl (run_eq_b _ _ _ rfl (decide (n = m)) rfl rfl _)
    case o14 => exact fun _ _ _ _ => opE_pick (v := (.bool true)) _ _ _ rfl rfl true rfl rfl
    case o15 => exact fun _ _ _ _ => opE_assign (v := (.bool true)) _ rfl rfl rfl
    
    intro ptrs w5 G5 _
    simp only [List.drop_succ_cons, List.drop_zero]
    replace GG : Gro w w5 := GG.drew.trans G5
    go_wp2
    go_ret
    exact ⟨rfl, GG⟩
end Go.Proofs.Ytkhbpkhkbidbdaa
