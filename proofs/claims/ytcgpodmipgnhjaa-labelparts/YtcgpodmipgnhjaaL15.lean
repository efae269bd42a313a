/- Labels: texts cut as the document says. -/
import Derived.Test.YtcgpodmipgnhjaaL14
namespace Go.Proofs.Ytcgpodmipgnhjaa
open Go.RowKit

theorem run_gtr0 {o : Oper} {A : Act} (x y : Operand) (t2 : TypeId) (ho : o.op = .binOp .gtr 3 x y t2) (m : Int) (hx : A.eval x = .int .i64 m) (hy : A.eval y = .int .i64 0) (b : Bool) (hb : decide (0 < m) = b) (w : World) : (execOp A.eval o).run Try.prog w = .ok (.value (.bool b)) w := by
  refine run_binop .gtr 3 x y t2 ho _ _ _ hx hy (by simp [eqGuard]) ?_
  rw [← hb]
  simp [go_sem]
theorem run_addp {o : Oper} {A : Act} (x y : Operand) (t2 : TypeId) (ho : o.op = .binOp .add 3 x y t2) (p d : Nat) (h : p + d ≤ 9223372036854775807) (hx : A.eval x = .int .i64 (p : Int)) (hy : A.eval y = .int .i64 (d : Int)) (w : World) : (execOp A.eval o).run Try.prog w = .ok (.value (.int .i64 ((p + d : Nat) : Int))) w := by
  refine run_binop .add 3 x y t2 ho _ _ _ hx hy (by simp [eqGuard]) ?_
  have h := wrap_in ((p : Int) + (d : Int)) (by omega) (by omega)
  have e : (p : Int) + (d : Int) = ((p + d : Nat) : Int) := by omega
  rw [e] at h
  generalize ((p + d : Nat) : Int) = q at *
  simp [go_sem, e, h]
theorem run_min2000 {o : Oper} {A : Act} (x y : Operand) (ats : Array TypeId) (ho : o.op = .call { callee := .builtin .min, args := #[x, y], argTypes := ats }) (n m : Nat) (hm : Shut (min n 2000 = m)) (hx : A.eval x = .int .i64 (n : Int)) (hy : A.eval y = .int .i64 2000) (w : World) : (execOp A.eval o).run Try.prog w = .ok (.value (.int .i64 (m : Int))) w := by
  rw [← hm.out]
  unfold execOp
  simp only [ho, resolve, invoke, builtin, List.map_toArray, List.map_cons, List.map_nil, hx, hy]
  simp [go_sem]
  split <;> omega

set_option maxHeartbeats 1600000 in
theorem refcut_any (s : ByteArray) (hs : s.size ≤ 9223372036854775807) (n : Int) (hn : n ≤ 9223372036854775807) (w : World) : Calls Try.prog 19 #[.string s, .int .i64 n] w fun e w' => e = .returned (.tuple #[.string (s.extract 0 (cutN s n)), .string (s.extract (cutN s n) s.size)]) ∧ Gro w w' := by
  go_enter Try.func19, Try.ntmps19
  go_wp2
  go_loopw [1, 6] (fun v i wr => ∃ (p f : Nat) (m : Int), v = .int .i64 m ∧ i = .int .i64 p ∧ m ≤ 9223372036854775807 ∧ p ≤ s.size ∧ s.size ≤ p + f ∧ Shut (cutN s n = cutAt s f p m) ∧ Gro w wr) (fun _ i _ => s.size - (intOf i).toNat)
  case atStart => exact ⟨0, s.size, n, rfl, rfl, hn, by omega, by omega, ⟨rfl⟩, Gro.refl _⟩
  case round =>
    rename_i wr
    obtain ⟨p, f, m, rfl, rfl, hm, hp, hf, HD, GG⟩ := hrel
    cases hlt : decide ((p : Int) < (s.size : Int))
    · have hps : ¬ p < s.size := by simpa using hlt
      have ep : p = s.size := by omega
      have H1 : Shut (cutN s n = p) := ⟨by rw [HD.out, cut_end s f p m hps, ep]⟩
      clear HD ep
      go_wp2_with fail
      try simp only [Act.put, List.setIfInBounds_toArray, List.set_cons_zero, List.set_cons_succ]
      refine wp_region_gro follows (by kernel_rfl) ?_
      (go_big_quiet_want; go_big_quiet_op; first | go_big_quiet_on | (refine ⟨_, fun _ _ => rfl, ?_⟩; go_big_quiet_on))
      (go_big_quiet_want; go_big_quiet_op; first | go_big_quiet_on | (refine ⟨_, fun _ _ => rfl, ?_⟩; go_big_quiet_on))
      refine wq_value rfl (.string (s.extract 0 p)) (fun w => run_to_op _ _ rfl s p hp rfl rfl w) ?_; simp only [Act.put, List.setIfInBounds_toArray, List.set_cons_zero, List.set_cons_succ]
      (go_big_quiet_want; go_big_quiet_op; first | go_big_quiet_on | (refine ⟨_, fun _ _ => rfl, ?_⟩; go_big_quiet_on))
      (go_big_quiet_want; go_big_quiet_op; first | go_big_quiet_on | (refine ⟨_, fun _ _ => rfl, ?_⟩; go_big_quiet_on))
      refine wq_value rfl (.string (s.extract p s.size)) (fun w => run_from_op _ _ rfl s p hp rfl rfl w) ?_; simp only [Act.put, List.setIfInBounds_toArray, List.set_cons_zero, List.set_cons_succ]
      (go_big_quiet_want; go_big_quiet_op; first | go_big_quiet_on | (refine ⟨_, fun _ _ => rfl, ?_⟩; go_big_quiet_on))
      (go_big_quiet_want; go_big_quiet_op; first | go_big_quiet_on | (refine ⟨_, fun _ _ => rfl, ?_⟩; go_big_quiet_on))
      refine wpQuiet_nil ?_
      intro wq Gq0
      have Gq : Gro _ wq := Gq0
      clear Gq0
      replace GG := GG.trans Gq
      clear Gq
      go_wp2
      go_ret2
      exact ⟨by rw [H1.out]; rfl, GG⟩
    · have hps : p < s.size := by simpa using hlt
      by_cases hm1 : m < 1
      · have H1 : Shut (cutN s n = p) := ⟨by rw [HD.out, cut_here s f p m hps hf hm1]⟩
        have hg : decide (0 < m) = false := decide_eq_false (by omega)
        clear HD
        go_wp2_with (first | (with_reducible refine wpList_at ?_; first | (refine wl_value_d 15 rfl rfl (.bool false) (run_gtr0 _ _ _ rfl m rfl rfl false hg _) ?_; (try simp only [Act.put, List.setIfInBounds_toArray, List.set_cons_zero, List.set_cons_succ]))))
        try simp only [Act.put, List.setIfInBounds_toArray, List.set_cons_zero, List.set_cons_succ]
        refine wp_region_gro follows (by kernel_rfl) ?_
        (go_big_quiet_want; go_big_quiet_op; first | go_big_quiet_on | (refine ⟨_, fun _ _ => rfl, ?_⟩; go_big_quiet_on))
        (go_big_quiet_want; go_big_quiet_op; first | go_big_quiet_on | (refine ⟨_, fun _ _ => rfl, ?_⟩; go_big_quiet_on))
        refine wq_value rfl (.string (s.extract 0 p)) (fun w => run_to_op _ _ rfl s p hp rfl rfl w) ?_; simp only [Act.put, List.setIfInBounds_toArray, List.set_cons_zero, List.set_cons_succ]
        (go_big_quiet_want; go_big_quiet_op; first | go_big_quiet_on | (refine ⟨_, fun _ _ => rfl, ?_⟩; go_big_quiet_on))
        (go_big_quiet_want; go_big_quiet_op; first | go_big_quiet_on | (refine ⟨_, fun _ _ => rfl, ?_⟩; go_big_quiet_on))
        refine wq_value rfl (.string (s.extract p s.size)) (fun w => run_from_op _ _ rfl s p hp rfl rfl w) ?_; simp only [Act.put, List.setIfInBounds_toArray, List.set_cons_zero, List.set_cons_succ]
        (go_big_quiet_want; go_big_quiet_op; first | go_big_quiet_on | (refine ⟨_, fun _ _ => rfl, ?_⟩; go_big_quiet_on))
        (go_big_quiet_want; go_big_quiet_op; first | go_big_quiet_on | (refine ⟨_, fun _ _ => rfl, ?_⟩; go_big_quiet_on))
        refine wpQuiet_nil ?_
        intro wq Gq0
        have Gq : Gro _ wq := Gq0
        clear Gq0
        replace GG := GG.trans Gq
        clear Gq
        go_wp2
        go_ret2
        exact ⟨by rw [H1.out]; rfl, GG⟩
      · obtain ⟨f', hst, hf'⟩ := cut_on s f p m hps hf hm1
        have hg : decide (0 < m) = true := decide_eq_true (by omega)
        have hfit := dec_fits s p hps
        have hwp := width_pos s p hps
        have hdt := dec_tail s p hp
        obtain ⟨c, hc⟩ : ∃ c, (Utf8.decode s p).1 = c := ⟨_, rfl⟩
        obtain ⟨d, hd⟩ : ∃ d, (Utf8.decode s p).2 = d := ⟨_, rfl⟩
        rw [hd] at hst hf' hfit hwp
        have HD2 : Shut (cutN s n = cutAt s f' (p + d) (m - 1)) := ⟨by rw [HD.out, hst]⟩
        have HF : Shut (∀ w, Calls Try.prog 22 #[.string (s.extract p s.size)] w fun e w' => e = .returned (.tuple #[.int .i32 (c : Int), .int .i64 (d : Int)]) ∧ Gro w w') := ⟨fun w => by
          have := first_any (s.extract p s.size) (by simp; omega) w
          rw [hdt, hc, hd] at this
          exact this⟩
        clear hst hc hd HD hdt
        go_wp2_with (first | (with_reducible refine wpList_at ?_; first | (refine wl_value_d 15 rfl rfl (.bool true) (run_gtr0 _ _ _ rfl m rfl rfl true hg _) ?_; (try simp only [Act.put, List.setIfInBounds_toArray, List.set_cons_zero, List.set_cons_succ])) | (refine wpList_value_d 20 rfl rfl (.string (s.extract p s.size)) (run_from_op _ _ rfl s p hp rfl rfl _) ?_; (try simp only [Act.put, List.setIfInBounds_toArray, List.set_cons_zero, List.set_cons_succ]))))
        refine (HF.out _).mono ?_
        rintro e wN ⟨rfl, GN⟩
        replace GG := GG.trans GN
        clear GN
        go_wp2_with (first | (with_reducible refine wpList_at ?_; first | (refine wpList_value_d 26 rfl rfl (.int .i64 ((p + d : Nat) : Int)) (run_addp _ _ _ rfl p d (by omega) rfl rfl _) ?_; (try simp only [Act.put, List.setIfInBounds_toArray, List.set_cons_zero, List.set_cons_succ])) | (refine wpList_value_d 28 rfl rfl (.int .i64 (m - 1)) (run_dec_op _ _ _ rfl m (by omega) hm rfl rfl _) ?_; (try simp only [Act.put, List.setIfInBounds_toArray, List.set_cons_zero, List.set_cons_succ]))))
        go_light
        go_roundw
        case rel => exact ⟨p + d, f', m - 1, rfl, rfl, by omega, hfit, by omega, HD2, GG⟩
        case measure => simp [intOf]; omega

set_option maxHeartbeats 800000 in
theorem cuts_any (s : ByteArray) (n : Int) (hn : n ≤ 9223372036854775807) (w : World) : Calls Try.prog 6 #[.string s, .int .i64 n] w fun e w' => e = .returned (.bool true) ∧ Gro w w' := by
  have GG : Gro w w := Gro.refl w
  obtain ⟨m, hm⟩ : ∃ m, min s.size 2000 = m := ⟨_, rfl⟩
  have HM : Shut (min s.size 2000 = m) := ⟨hm⟩
  have hms : m ≤ s.size := by omega
  have hm2 : m ≤ 2000 := by omega
  obtain ⟨t, ht⟩ : ∃ t, s.extract 0 m = t := ⟨_, rfl⟩
  have hts : t.size ≤ 9223372036854775807 := by rw [← ht]; simp; omega
  have HT : Shut (s.extract 0 m = t) := ⟨ht⟩
  obtain ⟨a, ha⟩ : ∃ a, t.extract 0 (cutN t n) = a := ⟨_, rfl⟩
  obtain ⟨b, hb⟩ : ∃ b, t.extract (cutN t n) t.size = b := ⟨_, rfl⟩
  have H1 : Shut (∀ w, Calls Try.prog 18 #[.string t, .int .i64 n] w fun e w' => e = .returned (.tuple #[.string a, .string b]) ∧ Gro w w') := ⟨fun w => val_of (cut_any t n hn w) (tup2 (congrArg _ ha) (congrArg _ hb))⟩
  have H2 : Shut (∀ w, Calls Try.prog 19 #[.string t, .int .i64 n] w fun e w' => e = .returned (.tuple #[.string a, .string b]) ∧ Gro w w') := ⟨fun w => val_of (refcut_any t hts n hn w) (tup2 (congrArg _ ha) (congrArg _ hb))⟩
  clear hm ht ha hb
  go_enter Try.func6, Try.ntmps6
  go_wp2_with (first | (with_reducible refine wpList_at ?_; first | (refine wpList_value_d 12 rfl rfl (.int .i64 (m : Int)) (run_min2000 _ _ _ rfl s.size m HM rfl rfl _) ?_; (try simp only [Act.put, List.setIfInBounds_toArray, List.set_cons_zero, List.set_cons_succ])) | (refine wpList_value_d 13 rfl rfl (.string t) (by rw [← HT.out]; exact run_to_op _ _ rfl s m hms rfl rfl _) ?_; (try simp only [Act.put, List.setIfInBounds_toArray, List.set_cons_zero, List.set_cons_succ]))))
  refine (H1.out _).mono ?_
  rintro e wN ⟨rfl, GN⟩
  replace GG := GG.trans GN
  clear GN
  go_wp2_with fail
  refine (H2.out _).mono ?_
  rintro e wN ⟨rfl, GN⟩
  replace GG := GG.trans GN
  clear GN
  go_wp2_with fail
  refine (fixed_any _).mono ?_
  rintro e wN ⟨rfl, GN⟩
  replace GG := GG.trans GN
  clear GN
  go_wp2_with (first | (with_reducible refine wpList_at ?_; first | (refine wl_value_d 30 rfl rfl (.bool true) (run_eqs_op _ _ _ rfl a a rfl rfl true (decide_eq_true rfl) _) ?_; (try simp only [Act.put, List.setIfInBounds_toArray, List.set_cons_zero, List.set_cons_succ])) | (refine wl_value_d 35 rfl rfl (.bool true) (run_eqs_op _ _ _ rfl b b rfl rfl true (decide_eq_true rfl) _) ?_; (try simp only [Act.put, List.setIfInBounds_toArray, List.set_cons_zero, List.set_cons_succ]))))
  go_ret
  exact ⟨rfl, GG⟩
end Go.Proofs.Ytcgpodmipgnhjaa
