/- Labels: lists of runes compared; runes as the document says. -/
import Derived.Test.YtcgpodmipgnhjaaL6
namespace Go.Proofs.Ytcgpodmipgnhjaa
open Go.RowKit

theorem wq_valueC {P : Program} {ops : Array Oper} {o : Oper} {rest : List Oper} {a : Act} {C : World → Prop} {Q : Act → Prop} (hw : Region.wanted o (yielded ops a.tmps) = true) (v : Value) (he : ∀ w, C w → (execOp a.eval o).run P w = .ok (.value v) w) (h : wpQuiet P ops C Q rest (a.put o.dst v)) : wpQuiet P ops C Q (o :: rest) a :=
  BigFrame.wpQuiet_want hw fun _ hK => ⟨v, fun w hw => by unfold Oper.quietAt; rw [he w hw]; exact ⟨rfl, rfl⟩, hK _ h⟩
set_option maxHeartbeats 400000 in
theorem runes_none (a a' : Option Addr) (cap cap' : Nat) (w : World) : Calls Try.prog 14 #[.slice a 0 cap, .slice a' 0 cap'] w fun e w' => e = .returned (.bool true) ∧ Gro w w' := by
  go_enter Try.func14, Try.ntmps14
  go_wp2
  refine wp_loop_rounds 1 ?_
  rw [rounds_succ]
  go_wp2
  go_ret
  exact ⟨rfl, Gro.refl w⟩
set_option maxHeartbeats 1600000 in
theorem runes_some (l : List Nat) (hn : l.length ≤ 1048576) (g cap : Nat) (cs : Array Value) (hcs : ∀ j, j < l.length → cs[j]? = some (.int .i32 (l.getD j 0 : Int))) (g' cap' : Nat) (cs' : Array Value) (hcs' : ∀ j, j < l.length → cs'[j]? = some (.int .i32 (l.getD j 0 : Int)))
    (w : World) (k8 : w.heap[g]? = some (.cells cs 21 (0, 0))) (k9 : w.heap[g']? = some (.cells cs' 21 (0, 0))) :
    Calls Try.prog 14 #[.slice (some ⟨g, 0, none⟩) l.length cap, .slice (some ⟨g', 0, none⟩) l.length cap'] w fun e w' => e = .returned (.bool true) ∧ Gro w w' := by
  have HC : Shut (∀ j, j < l.length → cs[j]? = some (.int .i32 (l.getD j 0 : Int))) := ⟨hcs⟩
  have HC' : Shut (∀ j, j < l.length → cs'[j]? = some (.int .i32 (l.getD j 0 : Int))) := ⟨hcs'⟩
  clear hcs hcs'
  go_enter Try.func14, Try.ntmps14
  go_wp2
  go_loopw [5] (fun i wr => ∃ k : Nat, k ≤ l.length ∧ i = .int .i64 k ∧ Gro w wr) (fun i _ => l.length - (intOf i).toNat)
  case atStart => exact ⟨0, by omega, rfl, Gro.refl _⟩
  case round =>
    rename_i wr
    obtain ⟨k, hk, rfl, GG⟩ := hrel
    replace k8 := GG.has k8
    replace k9 := GG.has k9
    cases hlt : decide ((k : Int) < l.length)
    · have ek : k = l.length := by simp at hlt; omega
      subst ek
      go_wp2
      go_ret
      exact ⟨rfl, GG⟩
    · have hkl : k < l.length := by simp at hlt; omega
      obtain ⟨c, hc⟩ : ∃ c, l.getD k 0 = c := ⟨_, rfl⟩
      have HG : Shut (cs[k]? = some (.int .i32 (c : Int))) := ⟨by rw [HC.out k hkl, hc]⟩
      have HG' : Shut (cs'[k]? = some (.int .i32 (c : Int))) := ⟨by rw [HC'.out k hkl, hc]⟩
      clear hc
      go_wp2_with fail
      try simp only [Act.put, List.setIfInBounds_toArray, List.set_cons_zero, List.set_cons_succ]
      refine wp_region_gro follows (by kernel_rfl) ?_
      (go_big_quiet_want; go_big_quiet_op; first | go_big_quiet_on | (refine ⟨_, fun _ _ => rfl, ?_⟩; go_big_quiet_on))
      (go_big_quiet_want; go_big_quiet_op; first | go_big_quiet_on | (refine ⟨_, fun _ _ => rfl, ?_⟩; go_big_quiet_on))
      refine wq_value rfl (.pointer (some ⟨g, k, none⟩)) (fun w => run_runeAt _ _ rfl g _ _ k hkl rfl rfl w) ?_; simp only [Act.put, List.setIfInBounds_toArray, List.set_cons_zero, List.set_cons_succ]
      refine wq_valueC rfl (.int .i32 (c : Int)) (fun w hw => run_runeLoad _ rfl g k rfl w _ 21 _ (Gro.has hw k8) HG.out) ?_; simp only [Act.put, List.setIfInBounds_toArray, List.set_cons_zero, List.set_cons_succ]
      (go_big_quiet_want; go_big_quiet_op; first | go_big_quiet_on | (refine ⟨_, fun _ _ => rfl, ?_⟩; go_big_quiet_on))
      (go_big_quiet_want; go_big_quiet_op; first | go_big_quiet_on | (refine ⟨_, fun _ _ => rfl, ?_⟩; go_big_quiet_on))
      refine wq_value rfl ((.pointer (some ⟨g', k, none⟩))) (fun w => run_runeAt _ _ rfl g' _ _ k hkl rfl rfl w) ?_; simp only [Act.put, List.setIfInBounds_toArray, List.set_cons_zero, List.set_cons_succ]
      refine wq_valueC rfl (.int .i32 (c : Int)) (fun w hw => run_runeLoad _ rfl g' k rfl w _ 21 _ (Gro.has hw k9) HG'.out) ?_; simp only [Act.put, List.setIfInBounds_toArray, List.set_cons_zero, List.set_cons_succ]
      refine wq_value rfl (.bool false) (fun w => run_ne_p _ _ _ rfl (c : Int) (c : Int) rfl rfl false (by simp) w) ?_; simp only [Act.put, List.setIfInBounds_toArray, List.set_cons_zero, List.set_cons_succ]
      refine wpQuiet_nil ?_
      intro wq Gq0
      have Gq : Gro _ wq := Gq0
      clear Gq0
      replace GG := GG.trans Gq
      clear Gq
      go_wp2
      go_light
      go_roundw
      case rel => exact ⟨k + 1, by omega, by go_num, GG⟩
      case measure => simp [intOf]; omega
theorem runes_same (l : List Nat) (hn : l.length ≤ 1048576) (v v' : Value) (w : World) (h : RL w v l) (h' : RL w v' l) : Calls Try.prog 14 #[v, v'] w fun e w' => e = .returned (.bool true) ∧ Gro w w' := by
  have one : ∀ {u}, RL w u [] → ∃ a cap, u = .slice a 0 cap := fun {u} hu => by
    rcases hu.out with ⟨rfl, _⟩ | ⟨g, cap, cs, rfl, _, _⟩
    · exact ⟨_, _, rfl⟩
    · exact ⟨_, cap, rfl⟩
  by_cases h0 : l = []
  · subst h0
    obtain ⟨a, cap, rfl⟩ := one h
    obtain ⟨a', cap', rfl⟩ := one h'
    exact runes_none a a' cap cap' w
  · rcases h.out with ⟨_, h1⟩ | ⟨g, cap, cs, rfl, h2, h3⟩
    · exact absurd h1 h0
    · rcases h'.out with ⟨_, h1⟩ | ⟨g', cap', cs', rfl, h2', h3'⟩
      · exact absurd h1 h0
      · exact runes_some l hn g cap cs h3 g' cap' cs' h3' w h2 h2'

set_option maxHeartbeats 1600000 in
theorem labelRunes_any (s : ByteArray) (w : World) : Calls Try.prog 3 #[.string s] w fun e w' => e = .returned (.bool true) ∧ Gro w w' := by
  have GG : Gro w w := Gro.refl w
  have hlen := labL_len s
  have HF : Shut (∀ w, Calls Try.prog 11 #[.string s] w fun e w' => e = .returned (.tuple #[.string (foldB s), .int .i64 (labE s)]) ∧ Gro w w') := ⟨fun w => fold_any s w⟩
  have HG : Shut (∀ w, Calls Try.prog 12 #[.string s] w fun e w' => e = .returned (.tuple #[.string (foldB s), .int .i64 (labE s)]) ∧ Gro w w') := ⟨fun w => reffold_any s w⟩
  go_enter Try.func3, Try.ntmps3
  go_wp2_with fail
  refine (runes_any s _).mono ?_
  rintro e wN ⟨v1, rfl, hR1, GN⟩
  replace GG := GG.trans GN
  clear GN
  go_wp2_with fail
  refine (refrunes_any s _).mono ?_
  rintro e wN ⟨v2, rfl, hR2, GN⟩
  replace hR1 := hR1.gro GN
  replace GG := GG.trans GN
  clear GN
  go_wp2_with fail
  refine (HF.out _).mono ?_
  rintro e wN ⟨rfl, GN⟩
  replace hR1 := hR1.gro GN
  replace hR2 := hR2.gro GN
  replace GG := GG.trans GN
  clear GN
  go_wp2_with fail
  refine (HG.out _).mono ?_
  rintro e wN ⟨rfl, GN⟩
  replace hR1 := hR1.gro GN
  replace hR2 := hR2.gro GN
  replace GG := GG.trans GN
  clear GN
  go_wp2_with fail
  refine (fixed_any _).mono ?_
  rintro e wN ⟨rfl, GN⟩
  replace hR1 := hR1.gro GN
  replace hR2 := hR2.gro GN
  replace GG := GG.trans GN
  clear GN
  clear HF HG
  obtain ⟨l, hl⟩ : ∃ l, labL s = l := ⟨_, rfl⟩
  rw [hl] at hR1 hR2 hlen
  generalize labE s = f at *
  generalize foldB s = b at *
  go_wp2_with fail
  refine (runes_same l (by omega) v1 v2 _ hR1 hR2).mono ?_
  rintro e wN ⟨rfl, GN⟩
  replace GG := GG.trans GN
  clear GN
  go_wp2_with (with_reducible refine wpList_at ?_; (refine wl_value_d 45 rfl rfl (.bool true) (run_eqs_op _ _ _ rfl b b rfl rfl true (decide_eq_true rfl) _) ?_; (try simp only [Act.put, List.setIfInBounds_toArray, List.set_cons_zero, List.set_cons_succ])))
  go_ret
  exact ⟨rfl, GG⟩
end Go.Proofs.Ytcgpodmipgnhjaa
