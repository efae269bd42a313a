/- Labels: folded, compared, cut. -/
import Derived.Test.YtcgpodmipgnhjaaL2
namespace Go.Proofs.Ytcgpodmipgnhjaa
open Go.RowKit

theorem wl_value_d {P : Program} {ops : Array Oper} {rest : List Oper} {o : Oper} {a : Act} {w : World} {Q : Exit → Act → World → Prop} (dst : Nat) (hd : o.dst = some dst) (hw : Region.wanted o (yielded ops a.tmps) = true) (v : Value) (he : (execOp a.eval o).run P w = .ok (.value v) w)
    (h : wpList P ops Q rest (a.put (some dst) v) w) : wpList P ops Q (o :: rest) a w :=
  BigFrame.wpList_want hw fun _ hK => by
    unfold Oper.wp
    rw [he, Oper.upon_value, hd]
    exact hK _ _ h
theorem runes_any (s : ByteArray) (w : World) : Calls Try.prog 9 #[.string s] w (RunesP w s) := by
  by_cases h : s.size = 0
  · have := size_zero h
    subst this
    exact runes_empty w
  · exact runes_full s h w
/-- Runes as text. -/
def strB (l : List Nat) : ByteArray := runesBytes (l.map fun r : Nat => (r : Int))
def foldB (s : ByteArray) : ByteArray := strB (labL s)
theorem run_conv_runes {v : Value} {l : List Nat} {w : World} (h : RL w v l) : (convert 22 9 v).run Try.prog w = .ok (.string (strB l)) w := by
  rcases h.out with ⟨rfl, rfl⟩ | ⟨g, cap, cs, rfl, h2, h3⟩
  · exact run_convert_runes_nil w 22 9 21 0 0 Try.underlying22 Try.underlying21 Try.underlying9
  · have := run_convert_runes (P := Try.prog) w 22 9 21 ⟨g, 0, none⟩ l.length cap (l.map fun r : Nat => (r : Int)) (by simp) Try.underlying22 Try.underlying21 Try.underlying9 (fun j hj => by
      have hadd : (⟨g, 0, none⟩ : Addr).add j = ⟨g, j, none⟩ := by unfold Addr.add; split <;> simp_all
      rw [List.length_map] at hj
      rw [hadd, cell_of_row w g j cs 21 _ h2, h3 j hj]
      rw [List.getD_eq_getElem?_getD, List.getD_eq_getElem?_getD, List.getElem?_map, List.getElem?_eq_getElem hj]
      rfl)
    rw [this, List.take_of_length_le (by simp)]
    rfl
theorem run_conv_op {o : Oper} {A : Act} {w : World} {s d : TypeId} (x : Operand) (ho : o.op = .convert s d x) (u : Value) (hx : A.eval x = u) (v : Value) (h : (convert s d u).run Try.prog w = .ok v w) : (execOp A.eval o).run Try.prog w = .ok (.value v) w := by
  unfold execOp
  simp only [ho, hx, Sem.run_bind, h, Result.andThen_ok, Sem.run_pure]
set_option maxHeartbeats 400000 in
theorem fold_any (s : ByteArray) (w : World) : Calls Try.prog 11 #[.string s] w fun e w' => e = .returned (.tuple #[.string (foldB s), .int .i64 (labE s)]) ∧ Gro w w' := by
  have GG : Gro w w := Gro.refl w
  have HF : Shut (foldB s = strB (labL s)) := ⟨rfl⟩
  go_enter Try.func11, Try.ntmps11
  go_wp2_with fail
  refine (runes_any s _).mono ?_
  rintro e wN ⟨v, rfl, hR, GN⟩
  replace GG := GG.trans GN
  clear GN
  go_wp2_with (with_reducible refine wpList_at ?_; (refine wpList_value_d 12 rfl rfl (.string (foldB s)) (run_conv_op _ rfl v rfl _ (by rw [HF.out]; exact run_conv_runes hR)) ?_; (try simp only [Act.put, List.setIfInBounds_toArray, List.set_cons_zero, List.set_cons_succ])))
  go_ret2
  exact ⟨rfl, GG⟩
def sameP (s t : ByteArray) : Bool := decide (labE s = 0) && decide (labE t = 0) && decide (foldB s = foldB t)
set_option maxHeartbeats 800000 in
theorem same_any (s t : ByteArray) (w : World) : Calls Try.prog 17 #[.string s, .string t] w fun e w' => e = .returned (.bool (sameP s t)) ∧ Gro w w' := by
  have GG : Gro w w := Gro.refl w
  have HP : Shut (sameP s t = (decide (labE s = 0) && decide (labE t = 0) && decide (foldB s = foldB t))) := ⟨rfl⟩
  go_enter Try.func17, Try.ntmps17
  go_wp2_with fail
  refine (fold_any s _).mono ?_
  rintro e wN ⟨rfl, GN⟩
  replace GG := GG.trans GN
  clear GN
  go_wp2_with fail
  refine (fold_any t _).mono ?_
  rintro e wN ⟨rfl, GN⟩
  replace GG := GG.trans GN
  clear GN
  obtain ⟨f, hf⟩ : ∃ f, labE s = f := ⟨_, rfl⟩
  obtain ⟨g, hg⟩ : ∃ g, labE t = g := ⟨_, rfl⟩
  obtain ⟨a, ha⟩ : ∃ a, foldB s = a := ⟨_, rfl⟩
  obtain ⟨b, hb⟩ : ∃ b, foldB t = b := ⟨_, rfl⟩
  rw [hf, hg, ha, hb] at HP
  rw [hf, hg, ha, hb]
  clear hf hg ha hb
  by_cases h1 : f = 0
  · by_cases h2 : g = 0
    · subst h1 h2
      obtain ⟨p, hp⟩ : ∃ p, decide (a = b) = p := ⟨_, rfl⟩
      have HQ : Shut (sameP s t = p) := ⟨by rw [HP.out, hp]; simp⟩
      clear HP
      go_wp2_with (with_reducible refine wpList_at ?_; (refine wl_value_d 28 rfl rfl (.bool p) (run_eqs_op _ _ _ rfl a b rfl rfl p hp _) ?_; (try simp only [Act.put, List.setIfInBounds_toArray, List.set_cons_zero, List.set_cons_succ])))
      go_ret
      exact ⟨by rw [HQ.out]; rfl, GG⟩
    · have HQ : Shut (sameP s t = false) := ⟨by rw [HP.out]; simp [h2]⟩
      clear HP
      subst h1
      go_wp2
      go_ret
      exact ⟨by rw [HQ.out]; rfl, GG⟩
  · have HQ : Shut (sameP s t = false) := ⟨by rw [HP.out]; simp [h1]⟩
    clear HP
    go_wp2
    go_ret
    exact ⟨by rw [HQ.out]; rfl, GG⟩

/-- Where a text is cut: behind n runes from place p on. -/
def cutAt (s : ByteArray) : Nat → Nat → Int → Nat
  | 0, _, _ => s.size
  | f + 1, p, n => if p < s.size then (if n < 1 then p else cutAt s f (p + (Utf8.decode s p).2) (n - 1)) else s.size
theorem cut_end (s : ByteArray) (f p : Nat) (n : Int) (h : ¬ p < s.size) : cutAt s f p n = s.size := by
  cases f with
  | zero => rfl
  | succ f => rw [cutAt, if_neg h]
theorem cut_here (s : ByteArray) (f p : Nat) (n : Int) (h : p < s.size) (hf : s.size ≤ p + f) (hn : n < 1) : cutAt s f p n = p := by
  cases f with
  | zero => omega
  | succ f => rw [cutAt, if_pos h, if_pos hn]
theorem cut_on (s : ByteArray) (f p : Nat) (n : Int) (h : p < s.size) (hf : s.size ≤ p + f) (hn : ¬ n < 1) : ∃ f', cutAt s f p n = cutAt s f' (p + (Utf8.decode s p).2) (n - 1) ∧ s.size ≤ p + (Utf8.decode s p).2 + f' := by
  cases f with
  | zero => omega
  | succ f =>
    refine ⟨f, by rw [cutAt, if_pos h, if_neg hn], ?_⟩
    have := width_pos s p h; omega
def cutN (s : ByteArray) (n : Int) : Nat := cutAt s s.size 0 n
theorem run_sliceTo (s : ByteArray) (i : Nat) (hi : i ≤ s.size) (w : World) : (Instr.sliceAt 9 (.string s) none (some (.int .i64 (i : Int))) none).run Try.prog w = .ok (.string (s.extract 0 i)) w := by
  simp [Instr.sliceAt, go_sem, hi]
theorem run_sliceFrom (s : ByteArray) (i : Nat) (hi : i ≤ s.size) (w : World) : (Instr.sliceAt 9 (.string s) (some (.int .i64 (i : Int))) none none).run Try.prog w = .ok (.string (s.extract i s.size)) w := by
  simp [Instr.sliceAt, go_sem, hi]
theorem run_to_op {o : Oper} {A : Act} (x y : Operand) (ho : o.op = .slice 9 x none (some y) none) (s : ByteArray) (i : Nat) (hi : i ≤ s.size) (hx : A.eval x = .string s) (hy : A.eval y = .int .i64 (i : Int)) (w : World) : (execOp A.eval o).run Try.prog w = .ok (.value (.string (s.extract 0 i))) w := by
  unfold execOp
  simp only [ho, hx, Option.map, hy, Sem.run_bind, run_sliceTo s i hi w, Result.andThen_ok, Sem.run_pure]
theorem run_from_op {o : Oper} {A : Act} (x y : Operand) (ho : o.op = .slice 9 x (some y) none none) (s : ByteArray) (i : Nat) (hi : i ≤ s.size) (hx : A.eval x = .string s) (hy : A.eval y = .int .i64 (i : Int)) (w : World) : (execOp A.eval o).run Try.prog w = .ok (.value (.string (s.extract i s.size))) w := by
  unfold execOp
  simp only [ho, hx, Option.map, hy, Sem.run_bind, run_sliceFrom s i hi w, Result.andThen_ok, Sem.run_pure]
theorem ext_all (s : ByteArray) : s.extract 0 s.size = s := by simp
theorem ext_none (s : ByteArray) : s.extract s.size s.size = { data := #[] } := by
  simp
  rfl
theorem wrap_in (m : Int) (h1 : -9223372036854775808 ≤ m) (h2 : m ≤ 9223372036854775807) : IntKind.i64.wrap m = m := by
  unfold IntKind.wrap
  simp [IntKind.bits, IntKind.signed]
  omega
theorem run_dec_op {o : Oper} {A : Act} (x y : Operand) (t2 : TypeId) (ho : o.op = .binOp .sub 3 x y t2) (m : Int) (h1 : 1 ≤ m) (h2 : m ≤ 9223372036854775807) (hx : A.eval x = .int .i64 m) (hy : A.eval y = .int .i64 1) (w : World) : (execOp A.eval o).run Try.prog w = .ok (.value (.int .i64 (m - 1))) w := by
  refine run_binop .sub 3 x y t2 ho _ _ _ hx hy (by simp [eqGuard]) ?_
  have h := wrap_in (m - 1) (by omega) (by omega)
  simp [go_sem, h]
set_option maxHeartbeats 800000 in
theorem cut_any (s : ByteArray) (n : Int) (hn : n ≤ 9223372036854775807) (w : World) : Calls Try.prog 18 #[.string s, .int .i64 n] w fun e w' => e = .returned (.tuple #[.string (s.extract 0 (cutN s n)), .string (s.extract (cutN s n) s.size)]) ∧ Gro w w' := by
  have GG : Gro w w := Gro.refl w
  go_enter Try.func18, Try.ntmps18
  go_wp2_with (first | (with_reducible refine wpList_at ?_; first | (refine wpList_range_d 8 rfl rfl 9 _ rfl Try.underlying9 _ rfl ?_; intro w1 g1 G1 e1 k1; have b1 := size_base GG e1; replace GG := GG.trans G1; clear G1 e1; (try simp only [Act.put, List.setIfInBounds_toArray, List.set_cons_zero, List.set_cons_succ]))))
  go_loopw [1] (fun v wr => ∃ (p f : Nat) (m : Int), v = .int .i64 m ∧ m ≤ 9223372036854775807 ∧ s.size ≤ p + f ∧ Shut (cutN s n = cutAt s f p m) ∧ Gro w wr ∧ wr.heap[g1]? = some (.stringIter s p)) (fun _ wr => s.size - wr.iterPos g1)
  case atStart => exact ⟨0, s.size, n, rfl, hn, by omega, ⟨rfl⟩, GG, k1⟩
  case round =>
    rename_i wr
    clear k1 GG
    obtain ⟨p, f, m, rfl, hm, hf, HD, GG, k1⟩ := hrel
    have P0 : Hid (wr.iterPos g1 = p) := iterPos_of k1
    cases hlt : decide (p < s.size)
    · have hps : ¬ p < s.size := by simpa using hlt
      have H1 : Shut (cutN s n = s.size) := ⟨by rw [HD.out, cut_end s f p m hps]⟩
      clear hlt HD
      go_wp2_with (first | (with_reducible refine wpList_at ?_; first | (refine wpList_next_over_d 9 rfl rfl _ rfl g1 rfl s p k1 hps ?_; (try simp only [Act.put, List.setIfInBounds_toArray, List.set_cons_zero, List.set_cons_succ]))))
      go_ret2
      exact ⟨by rw [H1.out, ext_all, ext_none]; rfl, GG⟩
    · have hps : p < s.size := by simpa using hlt
      clear hlt
      have hwp := width_pos s p hps
      by_cases hm1 : m < 1
      · have H1 : Shut (cutN s n = p) := ⟨by rw [HD.out, cut_here s f p m hps hf hm1]⟩
        obtain ⟨c, hc⟩ : ∃ c, (Utf8.decode s p).1 = c := ⟨_, rfl⟩
        obtain ⟨d, hd⟩ : ∃ d, (Utf8.decode s p).2 = d := ⟨_, rfl⟩
        have hdec : Utf8.decode s p = (c, d) := by rw [← hc, ← hd]
        clear hc hd HD
        go_wp2_with (first | (with_reducible refine wpList_at ?_; first | (refine wpList_next_d 9 rfl rfl _ rfl g1 rfl s p k1 hps c d hdec ?_; intro wN SN; replace k1 := SN.new; replace GG := GG.store SN b1; clear SN; (try simp only [Act.put, List.setIfInBounds_toArray, List.set_cons_zero, List.set_cons_succ]))))
        try simp only [Act.put, List.setIfInBounds_toArray, List.set_cons_zero, List.set_cons_succ]
        refine wp_region_gro follows (by kernel_rfl) ?_
        (go_big_quiet_want; go_big_quiet_op; first | go_big_quiet_on | (refine ⟨_, fun _ _ => rfl, ?_⟩; go_big_quiet_on))
        (go_big_quiet_want; go_big_quiet_op; first | go_big_quiet_on | (refine ⟨_, fun _ _ => rfl, ?_⟩; go_big_quiet_on))
        refine wq_value rfl (.string (s.extract 0 p)) (fun w => run_to_op _ _ rfl s p (by omega) rfl rfl w) ?_; simp only [Act.put, List.setIfInBounds_toArray, List.set_cons_zero, List.set_cons_succ]
        (go_big_quiet_want; go_big_quiet_op; first | go_big_quiet_on | (refine ⟨_, fun _ _ => rfl, ?_⟩; go_big_quiet_on))
        (go_big_quiet_want; go_big_quiet_op; first | go_big_quiet_on | (refine ⟨_, fun _ _ => rfl, ?_⟩; go_big_quiet_on))
        refine wq_value rfl (.string (s.extract p s.size)) (fun w => run_from_op _ _ rfl s p (by omega) rfl rfl w) ?_; simp only [Act.put, List.setIfInBounds_toArray, List.set_cons_zero, List.set_cons_succ]
        (go_big_quiet_want; go_big_quiet_op; first | go_big_quiet_on | (refine ⟨_, fun _ _ => rfl, ?_⟩; go_big_quiet_on))
        (go_big_quiet_want; go_big_quiet_op; first | go_big_quiet_on | (refine ⟨_, fun _ _ => rfl, ?_⟩; go_big_quiet_on))
        refine wpQuiet_nil ?_
        intro wq Gq0
        have Gq : Gro _ wq := Gq0
        clear Gq0
        replace GG := GG.trans Gq
        clear Gq
        go_wp2
        go_ret2
        exact ⟨by rw [H1.out]; rfl, GG⟩
      · obtain ⟨f', hst, hf'⟩ := cut_on s f p m hps hf hm1
        obtain ⟨c, hc⟩ : ∃ c, (Utf8.decode s p).1 = c := ⟨_, rfl⟩
        obtain ⟨d, hd⟩ : ∃ d, (Utf8.decode s p).2 = d := ⟨_, rfl⟩
        have hdec : Utf8.decode s p = (c, d) := by rw [← hc, ← hd]
        rw [hd] at hst hf' hwp
        have HD2 : Shut (cutN s n = cutAt s f' (p + d) (m - 1)) := ⟨by rw [HD.out, hst]⟩
        clear hst hc hd HD
        go_wp2_with (first | (with_reducible refine wpList_at ?_; first | (refine wpList_next_d 9 rfl rfl _ rfl g1 rfl s p k1 hps c d hdec ?_; intro wN SN; replace k1 := SN.new; replace GG := GG.store SN b1; clear SN; (try simp only [Act.put, List.setIfInBounds_toArray, List.set_cons_zero, List.set_cons_succ])) | (refine wpList_value_d 21 rfl rfl (.int .i64 (m - 1)) (run_dec_op _ _ _ rfl m (by omega) hm rfl rfl _) ?_; (try simp only [Act.put, List.setIfInBounds_toArray, List.set_cons_zero, List.set_cons_succ]))))
        go_light
        go_roundw
        case rel => exact ⟨p + d, f', m - 1, rfl, by omega, by omega, HD2, GG, k1⟩
        case measure =>
          rw [iterPos_of k1, P0.out]
          omega
end Go.Proofs.Ytcgpodmipgnhjaa
