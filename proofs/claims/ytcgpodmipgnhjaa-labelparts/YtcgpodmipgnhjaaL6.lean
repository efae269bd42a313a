/- Labels: the document's folding; labels compared. -/
import Derived.Test.YtcgpodmipgnhjaaL5
namespace Go.Proofs.Ytcgpodmipgnhjaa
open Go.RowKit

theorem labL_len (s : ByteArray) : (labL s).length ≤ 24 := by
  unfold labL
  split
  · rename_i h
    unfold labE at h
    rw [List.length_map]
    by_cases h0 : s.size = 0
    · rw [if_pos h0] at h; cases h
    · rw [if_neg h0] at h
      by_cases h1 : ((runeL s).take 25).all okR = true
      · rw [if_pos h1] at h
        by_cases h2 : 24 < (runeL s).length
        · rw [if_pos h2] at h; cases h
        · omega
      · rw [if_neg h1] at h; cases h
  · simp
theorem strB_step (l : List Nat) (k : Nat) (h : k < l.length) : strB (l.take k) ++ Utf8.encode (l.getD k 0 : Int) = strB (l.take (k + 1)) := by
  rw [take_one l k h]
  unfold strB runesBytes
  rw [List.map_append, List.foldl_append]
  rfl
theorem strB_size (l : List Nat) : (strB l).size ≤ 4 * l.length := by
  have := runesBytes_size_le (l.map fun r : Nat => (r : Int))
  rw [List.length_map] at this
  exact this
theorem run_encode {o : Oper} {A : Act} (x : Operand) (ho : o.op = .convert 21 9 x) (c : Int) (hx : A.eval x = .int .i32 c) (w : World) : (execOp A.eval o).run Try.prog w = .ok (.value (.string (Utf8.encode c))) w :=
  run_conv_op x ho _ hx _ (run_convert_int_string w 21 9 .i32 c (by rw [Try.underlying21]; rfl) Try.underlying9)
theorem run_cat {o : Oper} {A : Act} (x y : Operand) (t2 : TypeId) (ho : o.op = .binOp .add 9 x y t2) (a b : ByteArray) (h : a.size + b.size ≤ 9223372036854775807) (hx : A.eval x = .string a) (hy : A.eval y = .string b) (w : World) : (execOp A.eval o).run Try.prog w = .ok (.value (.string (a ++ b))) w := by
  refine run_binop .add 9 x y t2 ho _ _ _ hx hy (by simp [eqGuard]) ?_
  simp [go_sem]
  exact h

set_option maxHeartbeats 800000 in
theorem reffold_any (s : ByteArray) (w : World) : Calls Try.prog 12 #[.string s] w fun e w' => e = .returned (.tuple #[.string (foldB s), .int .i64 (labE s)]) ∧ Gro w w' := by
  have GG : Gro w w := Gro.refl w
  have HF : Shut (foldB s = strB (labL s)) := ⟨rfl⟩
  have hlen := labL_len s
  go_enter Try.func12, Try.ntmps12
  go_wp2_with fail
  refine (refrunes_any s _).mono ?_
  rintro e wN ⟨v, rfl, hR, GN⟩
  replace GG := GG.trans GN
  clear GN
  obtain ⟨l, hl⟩ : ∃ l, labL s = l := ⟨_, rfl⟩
  rw [hl] at hR hlen HF
  clear hl
  rcases hR.out with ⟨rfl, rfl⟩ | ⟨g1, cap, cs, rfl, k1, hcs⟩
  · have H1 : Shut (foldB s = { data := #[] }) := ⟨by rw [HF.out]; rfl⟩
    go_wp2
    refine wp_loop_rounds 1 ?_
    rw [rounds_succ]
    go_wp2
    go_ret2
    exact ⟨by rw [H1.out]; rfl, GG⟩
  · have HC : Shut (∀ j, j < l.length → cs[j]? = some (.int .i32 (l.getD j 0 : Int))) := ⟨hcs⟩
    have G0 := GG
    clear hcs GG hR
    go_wp2
    go_loopw [6, 7] (fun t i wr => ∃ k : Nat, k ≤ l.length ∧ t = .string (strB (l.take k)) ∧ i = .int .i64 k ∧ Gro wN wr) (fun _ i _ => l.length - (intOf i).toNat)
    case atStart => exact ⟨0, by omega, rfl, rfl, Gro.refl _⟩
    case round =>
      rename_i wr
      obtain ⟨k, hk, rfl, rfl, GG⟩ := hrel
      replace k1 := GG.has k1
      cases hlt : decide ((k : Int) < (l.length : Int))
      · have ek : k = l.length := by simp at hlt; omega
        have H1 : Shut (strB (l.take k) = foldB s) := ⟨by rw [ek, List.take_length, HF.out]⟩
        go_wp2
        go_ret2
        exact ⟨by rw [← H1.out]; rfl, G0.trans GG⟩
      · have hkl : k < l.length := by simp at hlt; omega
        obtain ⟨c, hc⟩ : ∃ c, l.getD k 0 = c := ⟨_, rfl⟩
        have HG : Shut (cs[k]? = some (.int .i32 (c : Int))) := ⟨by rw [HC.out k hkl, hc]⟩
        have HS : Shut (strB (l.take k) ++ Utf8.encode (c : Int) = strB (l.take (k + 1))) := ⟨by rw [← hc]; exact strB_step l k hkl⟩
        have hz1 := strB_size (l.take k)
        have hz2 := encode_size_le (c : Int)
        have HZ : Shut ((strB (l.take k)).size + (Utf8.encode (c : Int)).size ≤ 9223372036854775807) := ⟨by rw [List.length_take] at hz1; omega⟩
        clear hc hz1 hz2
        go_wp2_with (first | (with_reducible refine wpList_at ?_; first | (refine wpList_value_d 22 rfl rfl (.pointer (some ⟨g1, k, none⟩)) (run_runeAt _ _ rfl g1 _ _ k hkl rfl rfl _) ?_; (try simp only [Act.put, List.setIfInBounds_toArray, List.set_cons_zero, List.set_cons_succ])) | (refine wpList_value_d 23 rfl rfl (.int .i32 (c : Int)) (run_runeLoad _ rfl g1 k rfl _ _ 21 _ k1 HG.out) ?_; (try simp only [Act.put, List.setIfInBounds_toArray, List.set_cons_zero, List.set_cons_succ])) | (refine wpList_value_d 24 rfl rfl (.string (Utf8.encode (c : Int))) (run_encode _ rfl (c : Int) rfl _) ?_; (try simp only [Act.put, List.setIfInBounds_toArray, List.set_cons_zero, List.set_cons_succ])) | (refine wpList_value_d 25 rfl rfl (.string (strB (l.take (k + 1)))) (by rw [← HS.out]; exact run_cat _ _ _ rfl _ _ HZ.out rfl rfl _) ?_; (try simp only [Act.put, List.setIfInBounds_toArray, List.set_cons_zero, List.set_cons_succ]))))
        go_light
        go_roundw
        case rel => exact ⟨k + 1, by omega, rfl, by go_num, GG⟩
        case measure => simp [intOf]; omega

theorem run_eqlb (p q : Bool) (w : World) : (binOp .eql 4 (.bool p) (.bool q)).run Try.prog w = .ok (.bool (p == q)) w := by
  cases p <;> cases q <;> kernel_rfl
theorem eqGuard_b (x y : Operand) (p q : Bool) (w : World) : (eqGuard .eql 4 x y (.bool p) (.bool q)).run Try.prog w = .ok () w := by
  simp [eqGuard, go_sem]
theorem run_eqlb_op {o : Oper} {A : Act} (x y : Operand) (t2 : TypeId) (ho : o.op = .binOp .eql 4 x y t2) (p q : Bool) (hx : A.eval x = .bool p) (hy : A.eval y = .bool q) (w : World) :
    (execOp A.eval o).run Try.prog w = .ok (.value (.bool (p == q))) w := by
  unfold execOp
  simp only [ho, hx, hy, Sem.run_bind, eqGuard_b, Result.andThen_ok, run_eqlb, Sem.run_pure]

theorem sameP_comm (s t : ByteArray) : sameP t s = sameP s t := by
  unfold sameP
  rw [Bool.and_comm (decide (labE t = 0))]
  congr 1
  by_cases h : foldB s = foldB t
  · rw [h]
  · have h2 : ¬ foldB t = foldB s := fun e => h e.symm
    simp [h, h2]
set_option maxHeartbeats 1600000 in
theorem sames_any (s t : ByteArray) (w : World) : Calls Try.prog 5 #[.string s, .string t] w fun e w' => e = .returned (.bool true) ∧ Gro w w' := by
  have GG : Gro w w := Gro.refl w
  have HP : Shut (sameP s t = (decide (labE s = 0) && decide (labE t = 0) && decide (foldB s = foldB t))) := ⟨rfl⟩
  obtain ⟨q, hq⟩ : ∃ q, sameP s t = q := ⟨_, rfl⟩
  have HA : Shut (∀ w, Calls Try.prog 17 #[.string s, .string t] w fun e w' => e = .returned (.bool q) ∧ Gro w w') := ⟨fun w => val_of (same_any s t w) (congrArg _ hq)⟩
  have HB : Shut (∀ w, Calls Try.prog 17 #[.string t, .string s] w fun e w' => e = .returned (.bool q) ∧ Gro w w') := ⟨fun w => val_of (same_any t s w) (congrArg _ ((sameP_comm s t).trans hq))⟩
  rw [hq] at HP
  clear hq
  go_enter Try.func5, Try.ntmps5
  go_wp2_with fail
  refine (reffold_any s _).mono ?_
  rintro e wN ⟨rfl, GN⟩
  replace GG := GG.trans GN
  clear GN
  go_wp2_with fail
  refine (reffold_any t _).mono ?_
  rintro e wN ⟨rfl, GN⟩
  replace GG := GG.trans GN
  clear GN
  obtain ⟨f, hf⟩ : ∃ f, labE s = f := ⟨_, rfl⟩
  obtain ⟨g, hg⟩ : ∃ g, labE t = g := ⟨_, rfl⟩
  obtain ⟨a, ha⟩ : ∃ a, foldB s = a := ⟨_, rfl⟩
  obtain ⟨b, hb⟩ : ∃ b, foldB t = b := ⟨_, rfl⟩
  rw [hf, hg, ha, hb] at HP
  rw [hf, hg, ha, hb]
  clear hf hg ha hb
  by_cases h1 : f = 0
  · by_cases h2 : g = 0
    · subst h1 h2
      have hq : decide (a = b) = q := by rw [HP.out]; simp
      clear HP
      go_wp2_with (first | (with_reducible refine wpList_at ?_; first | (refine wl_value_d 29 rfl rfl (.bool q) (run_eqs_op _ _ _ rfl a b rfl rfl q hq _) ?_; (try simp only [Act.put, List.setIfInBounds_toArray, List.set_cons_zero, List.set_cons_succ]))))
      refine (fixed_any _).mono ?_
      rintro e wN ⟨rfl, GN⟩
      replace GG := GG.trans GN
      clear GN
      cases q
      · go_wp2_with fail
        refine (HA.out _).mono ?_
        rintro e wN ⟨rfl, GN⟩
        replace GG := GG.trans GN
        clear GN
        go_wp2_with fail
        refine (HB.out _).mono ?_
        rintro e wN ⟨rfl, GN⟩
        replace GG := GG.trans GN
        clear GN
        go_wp2
        go_ret
        exact ⟨rfl, GG⟩
      · go_wp2_with fail
        refine (HA.out _).mono ?_
        rintro e wN ⟨rfl, GN⟩
        replace GG := GG.trans GN
        clear GN
        go_wp2_with fail
        refine (HB.out _).mono ?_
        rintro e wN ⟨rfl, GN⟩
        replace GG := GG.trans GN
        clear GN
        go_wp2
        go_ret
        exact ⟨rfl, GG⟩
    · have hq : q = false := by rw [HP.out]; simp [h2]
      clear HP
      subst h1 hq
      go_wp2_with fail
      refine (fixed_any _).mono ?_
      rintro e wN ⟨rfl, GN⟩
      replace GG := GG.trans GN
      clear GN
      go_wp2_with fail
      refine (HA.out _).mono ?_
      rintro e wN ⟨rfl, GN⟩
      replace GG := GG.trans GN
      clear GN
      go_wp2_with fail
      refine (HB.out _).mono ?_
      rintro e wN ⟨rfl, GN⟩
      replace GG := GG.trans GN
      clear GN
      go_wp2
      go_ret
      exact ⟨rfl, GG⟩
  · have hq : q = false := by rw [HP.out]; simp [h1]
    clear HP
    subst hq
    go_wp2_with fail
    refine (fixed_any _).mono ?_
    rintro e wN ⟨rfl, GN⟩
    replace GG := GG.trans GN
    clear GN
    go_wp2_with fail
    refine (HA.out _).mono ?_
    rintro e wN ⟨rfl, GN⟩
    replace GG := GG.trans GN
    clear GN
    go_wp2_with fail
    refine (HB.out _).mono ?_
    rintro e wN ⟨rfl, GN⟩
    replace GG := GG.trans GN
    clear GN
    go_wp2
    go_ret
    exact ⟨rfl, GG⟩
end Go.Proofs.Ytcgpodmipgnhjaa
