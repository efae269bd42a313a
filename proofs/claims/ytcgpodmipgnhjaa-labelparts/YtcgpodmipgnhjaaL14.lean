/- Labels: the document's cutting. -/
import Derived.Test.YtcgpodmipgnhjaaL13
namespace Go.Proofs.Ytcgpodmipgnhjaa
open Go.RowKit

theorem get_ext_all (s : ByteArray) (p k : Nat) (hp : p ≤ s.size) : (s.extract p s.size).get! (0 + k) = s.get! (p + k) := by
  rw [Nat.zero_add]
  by_cases h : k < s.size - p
  · exact get_ext s p s.size k h (Nat.le_refl _)
  · show (s.extract p s.size).data[k]! = s.data[p + k]!
    have hs : s.data.size = s.size := rfl
    rw [getElem!_def, getElem!_def, ByteArray.data_extract, Array.getElem?_extract, if_neg (by omega), Array.getElem?_eq_none (by omega)]
theorem dec_tail (s : ByteArray) (p : Nat) (hp : p ≤ s.size) : Utf8.decode (s.extract p s.size) 0 = Utf8.decode s p := by
  have hg := fun k => get_ext_all s p k hp
  have hz : (s.extract p s.size).size = s.size - p := by simp
  have h1 : decide (0 + 1 < s.size - p) = decide (p + 1 < s.size) := by
    by_cases h : p + 1 < s.size
    · rw [decide_eq_true h, decide_eq_true (by omega)]
    · rw [decide_eq_false h, decide_eq_false (by omega)]
  have h2 : decide (0 + 2 < s.size - p) = decide (p + 2 < s.size) := by
    by_cases h : p + 2 < s.size
    · rw [decide_eq_true h, decide_eq_true (by omega)]
    · rw [decide_eq_false h, decide_eq_false (by omega)]
  have h3 : decide (0 + 3 < s.size - p) = decide (p + 3 < s.size) := by
    by_cases h : p + 3 < s.size
    · rw [decide_eq_true h, decide_eq_true (by omega)]
    · rw [decide_eq_false h, decide_eq_false (by omega)]
  unfold Utf8.decode
  simp only [hg, hz, h1, h2, h3]
theorem first_rune (t : ByteArray) (h : t.size ≠ 0) : (runeL t).getD 0 0 = (Utf8.decode t 0).1 ∧ 0 < (runeL t).length := by
  obtain ⟨f', h1, _⟩ := rl_step t t.size 0 (by omega) (by omega)
  unfold runeL
  rw [h1]
  simp
theorem run_eqs_ne {o : Oper} {A : Act} (x y : Operand) (t2 : TypeId) (ho : o.op = .binOp .neq 9 x y t2) (a b : ByteArray) (hx : A.eval x = .string a) (hy : A.eval y = .string b) (p : Bool) (hp : (!decide (a = b)) = p) (w : World) : (execOp A.eval o).run Try.prog w = .ok (.value (.bool p)) w := by
  refine run_binop .neq 9 x y t2 ho _ _ _ hx hy (by simp [eqGuard, go_sem]) ?_
  have := str_eq a b
  rw [← hp, ← this]
  simp [go_sem]
theorem run_to3 {o : Oper} {A : Act} (x y : Operand) (ho : o.op = .slice 9 x none (some y) none) (s : ByteArray) (hi : 3 ≤ s.size) (hx : A.eval x = .string s) (hy : A.eval y = .int .i64 3) (w : World) : (execOp A.eval o).run Try.prog w = .ok (.value (.string (s.extract 0 3))) w :=
  run_to_op x y ho s 3 hi hx hy w
theorem run_lenS {o : Oper} {A : Act} (x : Operand) (ho : o.op = .call { callee := .builtin .len, args := #[x], argTypes := #[9] }) (s : ByteArray) (hx : A.eval x = .string s) (w : World) : (execOp A.eval o).run Try.prog w = .ok (.value (.int .i64 (s.size : Int))) w := by
  unfold execOp
  simp only [ho, resolve, invoke, builtin, List.map_toArray, List.map_cons, List.map_nil, hx]
  have h : (Builtin.len_ #[9] o.type #[.string s]).run Try.prog w = .ok (.int .i64 (s.size : Int)) w := by
    simp [Builtin.len_, go_sem]
  simp [h]

set_option maxHeartbeats 1600000 in
theorem first_any (t : ByteArray) (h : t.size ≠ 0) (w : World) : Calls Try.prog 22 #[.string t] w fun e w' => e = .returned (.tuple #[.int .i32 ((Utf8.decode t 0).1 : Int), .int .i64 ((Utf8.decode t 0).2 : Int)]) ∧ Gro w w' := by
  have GG : Gro w w := Gro.refl w
  obtain ⟨hf, hlen⟩ := first_rune t h
  have d1 := dec_size t 0
  have d3 := dec_err3 t 0
  have d4 := dec_err1 t 0
  have d5 := ext3 t
  obtain ⟨c, hc⟩ : ∃ c, (Utf8.decode t 0).1 = c := ⟨_, rfl⟩
  obtain ⟨n, hn⟩ : ∃ n, (Utf8.decode t 0).2 = n := ⟨_, rfl⟩
  have hcn : Utf8.decode t 0 = (c, n) := by rw [← hc, ← hn]
  rw [hc, hn] at d1 d4
  rw [hcn] at d3
  rw [hc] at hf
  rw [hc, hn]
  have HC : Shut ((runeL t).getD 0 0 = c) := ⟨hf⟩
  clear hc hn hcn hf
  by_cases he : c = 65533
  · subst he
    have hq : (((65533 : Nat) : Int) == 65533) = true := by simp
    by_cases h3 : 3 ≤ t.size
    · by_cases hx : isErr t 0
      · have h33 := d3 hx
        have hn3 : n = 3 := by injection h33
        subst hn3
        have HW : Shut ((Utf8.encode ((65533 : Nat) : Int)).size = 3) := ⟨rfl⟩
        have he3 : decide (t.extract 0 3 = { data := #[239, 191, 189] }) = true := decide_eq_true ((d5 h3).2 hx)
        have hne : (!decide (t.extract 0 3 = { data := #[239, 191, 189] })) = false := by rw [he3]; rfl
        have hl3 : ¬ (t.size : Int) < 3 := by omega
        clear d1 d3 d4 d5 h33 hx he3
        go_enter Try.func22, Try.ntmps22
        go_wp2_with (first | (with_reducible refine wpList_at ?_; first | (refine wpList_runes 6 rfl rfl _ rfl _ rfl ?_; intro w1 g1 cap1 cs1 G1 e1 k1 hc1; replace GG := GG.trans G1; have HG : Shut (cs1[0]? = some (.int .i32 ((65533 : Nat) : Int))) := ⟨by rw [hc1.out 0 hlen, HC.out]⟩; clear G1; (try simp only [Act.put, List.setIfInBounds_toArray, List.set_cons_zero, List.set_cons_succ])) | (refine wpList_value_d 8 rfl rfl (.pointer (some ⟨g1, 0, none⟩)) (run_runeAt _ _ rfl g1 _ _ 0 hlen rfl rfl _) ?_; (try simp only [Act.put, List.setIfInBounds_toArray, List.set_cons_zero, List.set_cons_succ])) | (refine wpList_value_d 9 rfl rfl (.int .i32 ((65533 : Nat) : Int)) (run_runeLoad _ rfl g1 0 rfl _ _ 21 _ k1 HG.out) ?_; (try simp only [Act.put, List.setIfInBounds_toArray, List.set_cons_zero, List.set_cons_succ])) | (refine wpList_value_d 10 rfl rfl (.bool true) (run_eq_p _ _ _ rfl ((65533 : Nat) : Int) 65533 rfl rfl true hq _) ?_; (try simp only [Act.put, List.setIfInBounds_toArray, List.set_cons_zero, List.set_cons_succ])) | (refine wl_value_d 17 rfl rfl (.string (t.extract 0 3)) (run_to3 _ _ rfl t h3 rfl rfl _) ?_; (try simp only [Act.put, List.setIfInBounds_toArray, List.set_cons_zero, List.set_cons_succ])) | (refine wl_value_d 18 rfl rfl (.bool false) (run_eqs_ne _ _ _ rfl _ _ rfl rfl false hne _) ?_; (try simp only [Act.put, List.setIfInBounds_toArray, List.set_cons_zero, List.set_cons_succ]))))
        try simp only [Act.put, List.setIfInBounds_toArray, List.set_cons_zero, List.set_cons_succ]
        refine wp_region_gro follows (by kernel_rfl) ?_
        (go_big_quiet_want; go_big_quiet_op; first | go_big_quiet_on | (refine ⟨_, fun _ _ => rfl, ?_⟩; go_big_quiet_on))
        refine wq_value rfl (.pointer (some ⟨g1, 0, none⟩)) (fun w => run_runeAt _ _ rfl g1 _ _ 0 hlen rfl rfl w) ?_; simp only [Act.put, List.setIfInBounds_toArray, List.set_cons_zero, List.set_cons_succ]
        refine wq_valueC rfl (.int .i32 ((65533 : Nat) : Int)) (fun w hw => run_runeLoad _ rfl g1 0 rfl w _ 21 _ (Gro.has hw k1) HG.out) ?_; simp only [Act.put, List.setIfInBounds_toArray, List.set_cons_zero, List.set_cons_succ]
        (go_big_quiet_want; go_big_quiet_op; first | go_big_quiet_on | (refine ⟨_, fun _ _ => rfl, ?_⟩; go_big_quiet_on))
        refine wq_value rfl (.pointer (some ⟨g1, 0, none⟩)) (fun w => run_runeAt _ _ rfl g1 _ _ 0 hlen rfl rfl w) ?_; simp only [Act.put, List.setIfInBounds_toArray, List.set_cons_zero, List.set_cons_succ]
        refine wq_valueC rfl (.int .i32 ((65533 : Nat) : Int)) (fun w hw => run_runeLoad _ rfl g1 0 rfl w _ 21 _ (Gro.has hw k1) HG.out) ?_; simp only [Act.put, List.setIfInBounds_toArray, List.set_cons_zero, List.set_cons_succ]
        refine wq_value rfl (.string (Utf8.encode ((65533 : Nat) : Int))) (fun w => run_encode _ rfl ((65533 : Nat) : Int) rfl w) ?_; simp only [Act.put, List.setIfInBounds_toArray, List.set_cons_zero, List.set_cons_succ]
        refine wq_value rfl (.int .i64 ((3 : Nat) : Int)) (fun w => by rw [← HW.out]; exact run_lenS _ rfl _ rfl w) ?_; simp only [Act.put, List.setIfInBounds_toArray, List.set_cons_zero, List.set_cons_succ]
        (go_big_quiet_want; go_big_quiet_op; first | go_big_quiet_on | (refine ⟨_, fun _ _ => rfl, ?_⟩; go_big_quiet_on))
        (go_big_quiet_want; go_big_quiet_op; first | go_big_quiet_on | (refine ⟨_, fun _ _ => rfl, ?_⟩; go_big_quiet_on))
        refine wpQuiet_nil ?_
        intro wq Gq0
        have Gq : Gro _ wq := Gq0
        clear Gq0
        replace GG := GG.trans Gq
        clear Gq
        go_wp2
        go_ret2
        exact ⟨rfl, GG⟩
      · have hn1 := d4 hx rfl
        subst hn1
        have he3 : decide (t.extract 0 3 = { data := #[239, 191, 189] }) = false := decide_eq_false fun e => hx ((d5 h3).1 e)
        have hne : (!decide (t.extract 0 3 = { data := #[239, 191, 189] })) = true := by rw [he3]; rfl
        have hl3 : ¬ (t.size : Int) < 3 := by omega
        clear d1 d3 d4 d5 hx he3
        go_enter Try.func22, Try.ntmps22
        go_wp2_with (first | (with_reducible refine wpList_at ?_; first | (refine wpList_runes 6 rfl rfl _ rfl _ rfl ?_; intro w1 g1 cap1 cs1 G1 e1 k1 hc1; replace GG := GG.trans G1; have HG : Shut (cs1[0]? = some (.int .i32 ((65533 : Nat) : Int))) := ⟨by rw [hc1.out 0 hlen, HC.out]⟩; clear G1; (try simp only [Act.put, List.setIfInBounds_toArray, List.set_cons_zero, List.set_cons_succ])) | (refine wpList_value_d 8 rfl rfl (.pointer (some ⟨g1, 0, none⟩)) (run_runeAt _ _ rfl g1 _ _ 0 hlen rfl rfl _) ?_; (try simp only [Act.put, List.setIfInBounds_toArray, List.set_cons_zero, List.set_cons_succ])) | (refine wpList_value_d 9 rfl rfl (.int .i32 ((65533 : Nat) : Int)) (run_runeLoad _ rfl g1 0 rfl _ _ 21 _ k1 HG.out) ?_; (try simp only [Act.put, List.setIfInBounds_toArray, List.set_cons_zero, List.set_cons_succ])) | (refine wpList_value_d 22 rfl rfl (.pointer (some ⟨g1, 0, none⟩)) (run_runeAt _ _ rfl g1 _ _ 0 hlen rfl rfl _) ?_; (try simp only [Act.put, List.setIfInBounds_toArray, List.set_cons_zero, List.set_cons_succ])) | (refine wpList_value_d 23 rfl rfl (.int .i32 ((65533 : Nat) : Int)) (run_runeLoad _ rfl g1 0 rfl _ _ 21 _ k1 HG.out) ?_; (try simp only [Act.put, List.setIfInBounds_toArray, List.set_cons_zero, List.set_cons_succ])) | (refine wpList_value_d 10 rfl rfl (.bool true) (run_eq_p _ _ _ rfl ((65533 : Nat) : Int) 65533 rfl rfl true hq _) ?_; (try simp only [Act.put, List.setIfInBounds_toArray, List.set_cons_zero, List.set_cons_succ])) | (refine wl_value_d 17 rfl rfl (.string (t.extract 0 3)) (run_to3 _ _ rfl t h3 rfl rfl _) ?_; (try simp only [Act.put, List.setIfInBounds_toArray, List.set_cons_zero, List.set_cons_succ])) | (refine wl_value_d 18 rfl rfl (.bool true) (run_eqs_ne _ _ _ rfl _ _ rfl rfl true hne _) ?_; (try simp only [Act.put, List.setIfInBounds_toArray, List.set_cons_zero, List.set_cons_succ]))))
        go_ret2
        exact ⟨rfl, GG⟩
    · have hn1 := d4 (fun hx => h3 (by have := hx.1; omega)) rfl
      subst hn1
      have hl3 : (t.size : Int) < 3 := by omega
      clear d1 d3 d4 d5
      go_enter Try.func22, Try.ntmps22
      go_wp2_with (first | (with_reducible refine wpList_at ?_; first | (refine wpList_runes 6 rfl rfl _ rfl _ rfl ?_; intro w1 g1 cap1 cs1 G1 e1 k1 hc1; replace GG := GG.trans G1; have HG : Shut (cs1[0]? = some (.int .i32 ((65533 : Nat) : Int))) := ⟨by rw [hc1.out 0 hlen, HC.out]⟩; clear G1; (try simp only [Act.put, List.setIfInBounds_toArray, List.set_cons_zero, List.set_cons_succ])) | (refine wpList_value_d 8 rfl rfl (.pointer (some ⟨g1, 0, none⟩)) (run_runeAt _ _ rfl g1 _ _ 0 hlen rfl rfl _) ?_; (try simp only [Act.put, List.setIfInBounds_toArray, List.set_cons_zero, List.set_cons_succ])) | (refine wpList_value_d 9 rfl rfl (.int .i32 ((65533 : Nat) : Int)) (run_runeLoad _ rfl g1 0 rfl _ _ 21 _ k1 HG.out) ?_; (try simp only [Act.put, List.setIfInBounds_toArray, List.set_cons_zero, List.set_cons_succ])) | (refine wpList_value_d 22 rfl rfl (.pointer (some ⟨g1, 0, none⟩)) (run_runeAt _ _ rfl g1 _ _ 0 hlen rfl rfl _) ?_; (try simp only [Act.put, List.setIfInBounds_toArray, List.set_cons_zero, List.set_cons_succ])) | (refine wpList_value_d 23 rfl rfl (.int .i32 ((65533 : Nat) : Int)) (run_runeLoad _ rfl g1 0 rfl _ _ 21 _ k1 HG.out) ?_; (try simp only [Act.put, List.setIfInBounds_toArray, List.set_cons_zero, List.set_cons_succ])) | (refine wpList_value_d 10 rfl rfl (.bool true) (run_eq_p _ _ _ rfl ((65533 : Nat) : Int) 65533 rfl rfl true hq _) ?_; (try simp only [Act.put, List.setIfInBounds_toArray, List.set_cons_zero, List.set_cons_succ]))))
      go_ret2
      exact ⟨rfl, GG⟩
  · have HW : Shut ((Utf8.encode (c : Int)).size = n) := ⟨d1 he⟩
    have hq : ((c : Int) == 65533) = false := beq_eq_false_iff_ne.2 (by omega)
    clear d1 d3 d4 d5
    go_enter Try.func22, Try.ntmps22
    go_wp2_with (first | (with_reducible refine wpList_at ?_; first | (refine wpList_runes 6 rfl rfl _ rfl _ rfl ?_; intro w1 g1 cap1 cs1 G1 e1 k1 hc1; replace GG := GG.trans G1; have HG : Shut (cs1[0]? = some (.int .i32 (c : Int))) := ⟨by rw [hc1.out 0 hlen, HC.out]⟩; clear G1; (try simp only [Act.put, List.setIfInBounds_toArray, List.set_cons_zero, List.set_cons_succ])) | (refine wpList_value_d 8 rfl rfl (.pointer (some ⟨g1, 0, none⟩)) (run_runeAt _ _ rfl g1 _ _ 0 hlen rfl rfl _) ?_; (try simp only [Act.put, List.setIfInBounds_toArray, List.set_cons_zero, List.set_cons_succ])) | (refine wpList_value_d 9 rfl rfl (.int .i32 (c : Int)) (run_runeLoad _ rfl g1 0 rfl _ _ 21 _ k1 HG.out) ?_; (try simp only [Act.put, List.setIfInBounds_toArray, List.set_cons_zero, List.set_cons_succ])) | (refine wpList_value_d 10 rfl rfl (.bool false) (run_eq_p _ _ _ rfl (c : Int) 65533 rfl rfl false hq _) ?_; (try simp only [Act.put, List.setIfInBounds_toArray, List.set_cons_zero, List.set_cons_succ]))))
    try simp only [Act.put, List.setIfInBounds_toArray, List.set_cons_zero, List.set_cons_succ]
    refine wp_region_gro follows (by kernel_rfl) ?_
    (go_big_quiet_want; go_big_quiet_op; first | go_big_quiet_on | (refine ⟨_, fun _ _ => rfl, ?_⟩; go_big_quiet_on))
    refine wq_value rfl (.pointer (some ⟨g1, 0, none⟩)) (fun w => run_runeAt _ _ rfl g1 _ _ 0 hlen rfl rfl w) ?_; simp only [Act.put, List.setIfInBounds_toArray, List.set_cons_zero, List.set_cons_succ]
    refine wq_valueC rfl (.int .i32 (c : Int)) (fun w hw => run_runeLoad _ rfl g1 0 rfl w _ 21 _ (Gro.has hw k1) HG.out) ?_; simp only [Act.put, List.setIfInBounds_toArray, List.set_cons_zero, List.set_cons_succ]
    (go_big_quiet_want; go_big_quiet_op; first | go_big_quiet_on | (refine ⟨_, fun _ _ => rfl, ?_⟩; go_big_quiet_on))
    refine wq_value rfl (.pointer (some ⟨g1, 0, none⟩)) (fun w => run_runeAt _ _ rfl g1 _ _ 0 hlen rfl rfl w) ?_; simp only [Act.put, List.setIfInBounds_toArray, List.set_cons_zero, List.set_cons_succ]
    refine wq_valueC rfl (.int .i32 (c : Int)) (fun w hw => run_runeLoad _ rfl g1 0 rfl w _ 21 _ (Gro.has hw k1) HG.out) ?_; simp only [Act.put, List.setIfInBounds_toArray, List.set_cons_zero, List.set_cons_succ]
    refine wq_value rfl (.string (Utf8.encode (c : Int))) (fun w => run_encode _ rfl (c : Int) rfl w) ?_; simp only [Act.put, List.setIfInBounds_toArray, List.set_cons_zero, List.set_cons_succ]
    refine wq_value rfl (.int .i64 (n : Int)) (fun w => by rw [← HW.out]; exact run_lenS _ rfl _ rfl w) ?_; simp only [Act.put, List.setIfInBounds_toArray, List.set_cons_zero, List.set_cons_succ]
    (go_big_quiet_want; go_big_quiet_op; first | go_big_quiet_on | (refine ⟨_, fun _ _ => rfl, ?_⟩; go_big_quiet_on))
    (go_big_quiet_want; go_big_quiet_op; first | go_big_quiet_on | (refine ⟨_, fun _ _ => rfl, ?_⟩; go_big_quiet_on))
    refine wpQuiet_nil ?_
    intro wq Gq0
    have Gq : Gro _ wq := Gq0
    clear Gq0
    replace GG := GG.trans Gq
    clear Gq
    go_wp2
    go_ret2
    exact ⟨rfl, GG⟩
end Go.Proofs.Ytcgpodmipgnhjaa
