/- Labels: parts. -/
import Derived.Test.YtcgpodmipgnhjaaL16
namespace Go.Proofs.Ytcgpodmipgnhjaa
open Go.RowKit

theorem wl_runes {ops : Array Oper} {rest : List Oper} {o : Oper} {a : Act} {w : World} {Q : Exit → Act → World → Prop} (dst : Nat) (hd : o.dst = some dst) (hwn : Region.wanted o (yielded ops a.tmps) = true) (x : Operand) (ho : o.op = .convert 9 22 x) (s : ByteArray) (hx : a.eval x = .string s) (la : Nat) (hla : Shut ((runeL s).length = la))
    (h : ∀ w' g cap, Gro w w' → wpList Try.prog ops Q rest (a.put (some dst) (.slice (some ⟨g, 0, none⟩) la cap)) w') : wpList Try.prog ops Q (o :: rest) a w :=
  BigFrame.wpList_want hwn fun _ hK => by
    obtain ⟨g, cap, cs, w', h1, h2, h3, h4, h5⟩ := run_to_runes s w
    rw [hla.out] at h1
    have he : (execOp a.eval o).run Try.prog w = .ok (.value (.slice (some ⟨g, 0, none⟩) la cap)) w' := by
      unfold execOp
      simp only [ho, hx, Sem.run_bind, h1, Result.andThen_ok, Sem.run_pure]
    unfold Oper.wp
    rw [he, Oper.upon_value, hd]
    exact hK _ _ (h w' g cap h2)
theorem run_max0 {o : Oper} {A : Act} (x y : Operand) (ats : Array TypeId) (ho : o.op = .call { callee := .builtin .max, args := #[x, y], argTypes := ats }) (n M : Int) (hm : Shut (max n 0 = M)) (hx : A.eval x = .int .i64 n) (hy : A.eval y = .int .i64 0) (w : World) : (execOp A.eval o).run Try.prog w = .ok (.value (.int .i64 M)) w := by
  rw [← hm.out]
  unfold execOp
  simp only [ho, resolve, invoke, builtin, List.map_toArray, List.map_cons, List.map_nil, hx, hy]
  simp [go_sem]
  split <;> omega
theorem run_gtr_p {o : Oper} {A : Act} (x y : Operand) (t2 : TypeId) (ho : o.op = .binOp .gtr 3 x y t2) (m k : Int) (hx : A.eval x = .int .i64 m) (hy : A.eval y = .int .i64 k) (b : Bool) (hb : decide (k < m) = b) (w : World) : (execOp A.eval o).run Try.prog w = .ok (.value (.bool b)) w := by
  refine run_binop .gtr 3 x y t2 ho _ _ _ hx hy (by simp [eqGuard]) ?_
  rw [← hb]
  simp [go_sem]
def RunesE (w : World) (f : Int) (e : Ending) (w' : World) : Prop := ∃ v, e = .returned (.tuple #[v, .int .i64 f]) ∧ Gro w w'
theorem runes_e (s : ByteArray) (f : Int) (hf : labE s = f) (w : World) : Calls Try.prog 9 #[.string s] w (RunesE w f) :=
  (runes_any s w).mono fun e w' ⟨v, h1, _, h3⟩ => ⟨v, by rw [h1, hf], h3⟩

set_option maxHeartbeats 1600000 in
theorem parts_any (s : ByteArray) (n : Int) (hn : n ≤ 9223372036854775807) (w : World) : Calls Try.prog 8 #[.string s, .int .i64 n] w fun e w' => e = .returned (.bool true) ∧ Gro w w' := by
  have GG : Gro w w := Gro.refl w
  obtain ⟨m, hm⟩ : ∃ m, min s.size 2000 = m := ⟨_, rfl⟩
  have HM : Shut (min s.size 2000 = m) := ⟨hm⟩
  have hms : m ≤ s.size := by omega
  have hm2 : m ≤ 2000 := by omega
  obtain ⟨t, ht⟩ : ∃ t, s.extract 0 m = t := ⟨_, rfl⟩
  have hts : t.size ≤ 2000 := by rw [← ht]; simp; omega
  have HT : Shut (s.extract 0 m = t) := ⟨ht⟩
  obtain ⟨c1, c2, c3⟩ := cut_runes t n
  have hj := cut_join t (cutN t n) c1
  obtain ⟨a, ha⟩ : ∃ a, t.extract 0 (cutN t n) = a := ⟨_, rfl⟩
  obtain ⟨b, hb⟩ : ∃ b, t.extract (cutN t n) t.size = b := ⟨_, rfl⟩
  have H1 : Shut (∀ w, Calls Try.prog 18 #[.string t, .int .i64 n] w fun e w' => e = .returned (.tuple #[.string a, .string b]) ∧ Gro w w') := ⟨fun w => val_of (cut_any t n hn w) (tup2 (congrArg _ ha) (congrArg _ hb))⟩
  rw [ha, hb] at c2 hj
  rw [ha] at c3
  have HJ : Shut (a ++ b = t) := ⟨hj⟩
  have HZ : Shut (a.size + b.size ≤ 9223372036854775807) := ⟨by rw [← ByteArray.size_append, hj]; omega⟩
  have PA : Shut (labE t = 0 → a.size = 0 ∨ labE a = 0) := ⟨fun h => part_lab t a h (fun r hr => by rw [c2]; exact List.mem_append_left _ hr) (by rw [c2]; simp)⟩
  have PB : Shut (labE t = 0 → b.size = 0 ∨ labE b = 0) := ⟨fun h => part_lab t b h (fun r hr => by rw [c2]; exact List.mem_append_right _ hr) (by rw [c2]; simp)⟩
  obtain ⟨la, hla⟩ : ∃ la, (runeL a).length = la := ⟨_, rfl⟩
  have HLA : Shut ((runeL a).length = la) := ⟨hla⟩
  rw [hla] at c3
  obtain ⟨M, hM⟩ : ∃ M, max n 0 = M := ⟨_, rfl⟩
  have HMX : Shut (max n 0 = M) := ⟨hM⟩
  have hgt : decide (M < (la : Int)) = false := decide_eq_false (by omega)
  have hne : (!decide (t = t)) = false := by simp
  obtain ⟨f, hf⟩ : ∃ f, labE t = f := ⟨_, rfl⟩
  obtain ⟨fa, hfa⟩ : ∃ f, labE a = f := ⟨_, rfl⟩
  obtain ⟨fb, hfb⟩ : ∃ f, labE b = f := ⟨_, rfl⟩
  have HR : Shut (∀ w, Calls Try.prog 9 #[.string t] w (RunesE w f)) := ⟨fun w => runes_e t f hf w⟩
  have HRA : Shut (∀ w, Calls Try.prog 9 #[.string a] w (RunesE w fa)) := ⟨fun w => runes_e a fa hfa w⟩
  have HRB : Shut (∀ w, Calls Try.prog 9 #[.string b] w (RunesE w fb)) := ⟨fun w => runes_e b fb hfb w⟩
  rw [hf, hfa] at PA
  rw [hf, hfb] at PB
  clear hm ht ha hb c1 c2 c3 hj hla hM hf hfa hfb
  go_enter Try.func8, Try.ntmps8
  go_wp2_with (first | (with_reducible refine wpList_at ?_; first | (refine wpList_value_d 16 rfl rfl (.int .i64 (m : Int)) (run_min2000 _ _ _ rfl s.size m HM rfl rfl _) ?_; (try simp only [Act.put, List.setIfInBounds_toArray, List.set_cons_zero, List.set_cons_succ])) | (refine wpList_value_d 17 rfl rfl (.string t) (by rw [← HT.out]; exact run_to_op _ _ rfl s m hms rfl rfl _) ?_; (try simp only [Act.put, List.setIfInBounds_toArray, List.set_cons_zero, List.set_cons_succ]))))
  refine (H1.out _).mono ?_
  rintro e wN ⟨rfl, GN⟩
  replace GG := GG.trans GN
  clear GN
  go_wp2_with fail
  refine (fixed_any _).mono ?_
  rintro e wN ⟨rfl, GN⟩
  replace GG := GG.trans GN
  clear GN
  go_wp2_with (first | (with_reducible refine wpList_at ?_; first | (refine wl_value_d 29 rfl rfl (.string t) (by rw [← HJ.out]; exact run_cat _ _ _ rfl a b HZ.out rfl rfl _) ?_; (try simp only [Act.put, List.setIfInBounds_toArray, List.set_cons_zero, List.set_cons_succ])) | (refine wl_value_d 31 rfl rfl (.bool false) (run_eqs_ne _ _ _ rfl t t rfl rfl false hne _) ?_; (try simp only [Act.put, List.setIfInBounds_toArray, List.set_cons_zero, List.set_cons_succ])) | (refine wl_runes 35 rfl rfl _ rfl a rfl la HLA ?_; intro w1 g1 cap1 G1; replace GG := GG.trans G1; clear G1; (try simp only [Act.put, List.setIfInBounds_toArray, List.set_cons_zero, List.set_cons_succ])) | (refine wl_value_d 38 rfl rfl (.int .i64 M) (run_max0 _ _ _ rfl n M HMX rfl rfl _) ?_; (try simp only [Act.put, List.setIfInBounds_toArray, List.set_cons_zero, List.set_cons_succ])) | (refine wl_value_d 39 rfl rfl (.bool false) (run_gtr_p _ _ _ rfl (la : Int) M rfl rfl false hgt _) ?_; (try simp only [Act.put, List.setIfInBounds_toArray, List.set_cons_zero, List.set_cons_succ]))))
  refine (HR.out _).mono ?_
  rintro e wN ⟨v1, rfl, GN⟩
  replace GG := GG.trans GN
  clear GN
  by_cases hf0 : f = 0
  · subst hf0
    have pa := PA.out rfl
    have pb := PB.out rfl
    clear PA PB HR
    go_wp2_with fail
    refine (HRA.out _).mono ?_
    rintro e wN ⟨v2, rfl, GN⟩
    replace GG := GG.trans GN
    clear GN
    go_wp2_with fail
    refine (HRB.out _).mono ?_
    rintro e wN ⟨v3, rfl, GN⟩
    replace GG := GG.trans GN
    clear GN
    clear HRA HRB
    by_cases ha0 : a.size = 0
    · have ha : decide (a = { data := #[] }) = true := decide_eq_true (size_zero ha0)
      clear pa ha0
      by_cases hb0 : b.size = 0
      · have hb : decide (b = { data := #[] }) = true := decide_eq_true (size_zero hb0)
        clear pb hb0
        go_wp2_with (first | (with_reducible refine wpList_at ?_; first | (refine wl_value_d 59 rfl rfl (.bool true) (run_eqs_op _ _ _ rfl a _ rfl rfl true ha _) ?_; (try simp only [Act.put, List.setIfInBounds_toArray, List.set_cons_zero, List.set_cons_succ])) | (refine wl_value_d 66 rfl rfl (.bool true) (run_eqs_op _ _ _ rfl b _ rfl rfl true hb _) ?_; (try simp only [Act.put, List.setIfInBounds_toArray, List.set_cons_zero, List.set_cons_succ]))))
        go_ret
        exact ⟨rfl, GG⟩
      · have hb : decide (b = { data := #[] }) = false := str_ne hb0
        have hb1 : fb = 0 := by rcases pb with h | h; exact absurd h hb0; exact h
        subst hb1
        clear pb hb0
        go_wp2_with (first | (with_reducible refine wpList_at ?_; first | (refine wl_value_d 59 rfl rfl (.bool true) (run_eqs_op _ _ _ rfl a _ rfl rfl true ha _) ?_; (try simp only [Act.put, List.setIfInBounds_toArray, List.set_cons_zero, List.set_cons_succ])) | (refine wl_value_d 66 rfl rfl (.bool false) (run_eqs_op _ _ _ rfl b _ rfl rfl false hb _) ?_; (try simp only [Act.put, List.setIfInBounds_toArray, List.set_cons_zero, List.set_cons_succ]))))
        go_ret
        exact ⟨rfl, GG⟩
    · have ha : decide (a = { data := #[] }) = false := str_ne ha0
      have ha1 : fa = 0 := by rcases pa with h | h; exact absurd h ha0; exact h
      subst ha1
      clear pa ha0
      by_cases hb0 : b.size = 0
      · have hb : decide (b = { data := #[] }) = true := decide_eq_true (size_zero hb0)
        clear pb hb0
        go_wp2_with (first | (with_reducible refine wpList_at ?_; first | (refine wl_value_d 59 rfl rfl (.bool false) (run_eqs_op _ _ _ rfl a _ rfl rfl false ha _) ?_; (try simp only [Act.put, List.setIfInBounds_toArray, List.set_cons_zero, List.set_cons_succ])) | (refine wl_value_d 66 rfl rfl (.bool true) (run_eqs_op _ _ _ rfl b _ rfl rfl true hb _) ?_; (try simp only [Act.put, List.setIfInBounds_toArray, List.set_cons_zero, List.set_cons_succ]))))
        go_ret
        exact ⟨rfl, GG⟩
      · have hb : decide (b = { data := #[] }) = false := str_ne hb0
        have hb1 : fb = 0 := by rcases pb with h | h; exact absurd h hb0; exact h
        subst hb1
        clear pb hb0
        go_wp2_with (first | (with_reducible refine wpList_at ?_; first | (refine wl_value_d 59 rfl rfl (.bool false) (run_eqs_op _ _ _ rfl a _ rfl rfl false ha _) ?_; (try simp only [Act.put, List.setIfInBounds_toArray, List.set_cons_zero, List.set_cons_succ])) | (refine wl_value_d 66 rfl rfl (.bool false) (run_eqs_op _ _ _ rfl b _ rfl rfl false hb _) ?_; (try simp only [Act.put, List.setIfInBounds_toArray, List.set_cons_zero, List.set_cons_succ]))))
        go_ret
        exact ⟨rfl, GG⟩
  · clear PA PB HR HRA HRB
    go_wp2
    go_ret
    exact ⟨rfl, GG⟩
end Go.Proofs.Ytcgpodmipgnhjaa
