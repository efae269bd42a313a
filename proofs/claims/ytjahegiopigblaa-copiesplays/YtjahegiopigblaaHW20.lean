/- Lists of identities: who is nearest, copies, likeness. -/
import Derived.Test.YtjahegiopigblaaHW9
import Derived.Test.YtjahegiopigblaaHW14
import Derived.Laws.AppendOwn
import Derived.Laws.AppendOwnNone
namespace Go.Proofs.Ytjahegiopigblaa
open Go.RowKit
theorem near_false_iff (d a b : Nat) : nearN d a b = false ↔ farN b d < farN a d ∨ (farN a d = farN b d ∧ subN b d ≤ subN a d) := by
  have h := near_iff d a b
  cases hn : nearN d a b
  · rw [hn] at h
    simp at h
    simp
    omega
  · rw [hn] at h
    simp at h
    simp
    omega
/-- The best one of the first n is nearer than all ahead of it, and none is nearer than it. -/
theorem best_spec (d : Nat) (l : List Nat) : ∀ n, 0 < n → ∃ b : Nat, bestI d l n = b ∧ b < n ∧ (∀ j, j < n → nearN d (l.getD j 0) (l.getD b 0) = false) ∧ (∀ j, j < b → nearN d (l.getD b 0) (l.getD j 0) = true)
  | 0, h => by omega
  | n + 1, _ => by
    by_cases h0 : n = 0
    · subst h0
      refine ⟨0, by simp [bestI], by omega, fun j hj => ?_, fun j hj => by omega⟩
      have : j = 0 := by omega
      subst this
      exact near_irr d _
    · obtain ⟨b, h1, h2, h3, h4⟩ := best_spec d l n (by omega)
      unfold bestI
      rw [h1, if_neg (by omega)]
      have e : ((b : Int)).toNat = b := by omega
      rw [e]
      by_cases hn : nearN d (l.getD n 0) (l.getD b 0) = true
      · rw [if_pos hn]
        refine ⟨n, rfl, by omega, fun j hj => ?_, fun j hj => ?_⟩
        · by_cases hjn : j = n
          · subst hjn; exact near_irr d _
          · have := h3 j (by omega)
            rw [near_false_iff] at this ⊢
            rw [near_iff] at hn
            omega
        · have := h3 j hj
          rw [near_false_iff] at this
          rw [near_iff] at hn ⊢
          omega
      · rw [if_neg hn]
        refine ⟨b, rfl, by omega, fun j hj => ?_, h4⟩
        by_cases hjn : j = n
        · subst hjn; simpa using hn
        · exact h3 j (by omega)
/-- Of the first k none is nearer than the i-th. -/
def okF (d : Nat) (l : List Nat) (i : Nat) : Nat → Bool
  | 0 => true
  | k + 1 => okF d l i k && !nearN d (l.getD k 0) (l.getD i 0)
theorem okF_all (d : Nat) (l : List Nat) (i : Nat) : ∀ k, (∀ j, j < k → nearN d (l.getD j 0) (l.getD i 0) = false) → okF d l i k = true
  | 0, _ => rfl
  | k + 1, h => by
    unfold okF
    rw [okF_all d l i k fun j hj => h j (by omega), h k (by omega)]
    rfl
theorem okF_no (d : Nat) (l : List Nat) (i b : Nat) (hb : nearN d (l.getD b 0) (l.getD i 0) = true) : ∀ k, b < k → okF d l i k = false
  | 0, h => by omega
  | k + 1, h => by
    unfold okF
    by_cases e : b = k
    · subst e; rw [hb]; simp
    · rw [okF_no d l i b hb k (by omega)]; rfl
/-- A slice of identities in memory. -/
structure SL (w : World) (v : Value) (l : List Nat) : Prop where
  lts : ∀ i, i < l.length → l.getD i 0 < top
  out : (l = [] ∧ ∃ a cap, v = .slice a 0 cap ∧ (a = none → cap = 0)) ∨ ∃ g off cap cs t fr, v = .slice (some ⟨g, off, none⟩) l.length cap ∧ w.heap[g]? = some (.cells cs t fr) ∧ ∀ i, i < l.length → off + i * 16 + 16 ≤ cs.size ∧ cs.extract (off + i * 16) (off + i * 16 + 16) = idA (l.getD i 0)
theorem SL.gro {w w' : World} {v : Value} {l : List Nat} (h : SL w v l) (G : Gro w w') : SL w' v l := by
  refine ⟨h.lts, ?_⟩
  rcases h.out with h0 | ⟨g, off, cap, cs, t, fr, h1, h2, h3⟩
  · exact .inl h0
  · exact .inr ⟨g, off, cap, cs, t, fr, h1, G.has h2, h3⟩
set_option maxHeartbeats 400000 in
theorem nearest_none (d : Nat) (a : Option Addr) (cap : Nat) (w : World) : Calls Try.prog 34 #[idV d, .slice a 0 cap] w fun e w' => e = .returned (.int .i64 (-1)) ∧ Gro w w' := by
  have GG : Gro w w := Gro.refl w
  unfold idV
  go_enter Try.func34, Try.ntmps34
  go_wp2_with (first | (with_reducible refine wpList_at ?_; first | (refine wpList_box_d 2 rfl rfl 23 _ rfl _ rfl ?_; intro w1 g1 G1 e1 k1; have b1 := size_base GG e1; replace GG := GG.trans G1; clear G1 e1; (try simp only [Act.put, List.setIfInBounds_toArray, List.set_cons_zero, List.set_cons_succ]))))
  refine wp_loop_rounds 1 ?_
  rw [rounds_succ]
  go_wp2
  go_ret
  exact ⟨rfl, GG⟩
theorem nearest_sl (d : Nat) (hd : d < top) (l : List Nat) (hn : l.length ≤ 1048576) (v : Value) (w : World) (h : SL w v l) : Calls Try.prog 34 #[idV d, v] w fun e w' => e = .returned (.int .i64 (bestI d l l.length)) ∧ Gro w w' := by
  rcases h.out with ⟨rfl, a, cap, rfl, _⟩ | ⟨g, off, cap, cs, t, fr, rfl, h2, h3⟩
  · exact nearest_none d a cap w
  · exact nearest_any d hd l h.lts hn g off cap cs t fr h3 w h2
set_option maxHeartbeats 400000 in
theorem refnearest_none (d : Nat) (a : Option Addr) (cap : Nat) (w : World) : Calls Try.prog 27 #[idV d, .slice a 0 cap] w fun e w' => e = .returned (.int .i64 (-1)) ∧ Gro w w' := by
  have GG : Gro w w := Gro.refl w
  unfold idV
  go_enter Try.func27, Try.ntmps27
  go_wp2_with (first | (with_reducible refine wpList_at ?_; first | (refine wpList_box_d 2 rfl rfl 23 _ rfl _ rfl ?_; intro w1 g1 G1 e1 k1; have b1 := size_base GG e1; replace GG := GG.trans G1; clear G1 e1; (try simp only [Act.put, List.setIfInBounds_toArray, List.set_cons_zero, List.set_cons_succ]))))
  refine wp_loop_rounds 1 ?_
  rw [rounds_succ]
  go_wp2
  go_ret
  exact ⟨rfl, GG⟩
set_option maxHeartbeats 3200000 in
theorem refnearest_any (d : Nat) (hd : d < top) (l : List Nat) (h0 : 0 < l.length) (hl : ∀ i, i < l.length → l.getD i 0 < top) (hn : l.length ≤ 1048576) (g off cap : Nat) (cs : Array Value) (t : TypeId) (fr : Nat × Nat)
    (hcs : ∀ i, i < l.length → off + i * 16 + 16 ≤ cs.size ∧ cs.extract (off + i * 16) (off + i * 16 + 16) = idA (l.getD i 0)) (w : World) (k9 : w.heap[g]? = some (.cells cs t fr)) :
    Calls Try.prog 27 #[idV d, .slice (some ⟨g, off, none⟩) l.length cap] w fun e w' => e = .returned (.int .i64 (bestI d l l.length)) ∧ Gro w w' := by
  have GG : Gro w w := Gro.refl w
  obtain ⟨b, hb1, hb2, hb3, hb4⟩ := best_spec d l l.length h0
  have HB3 : Hid (∀ j, j < l.length → nearN d (l.getD j 0) (l.getD b 0) = false) := hb3
  have HB4 : Hid (∀ j, j < b → nearN d (l.getD b 0) (l.getD j 0) = true) := hb4
  have HL : Hid (∀ i, i < l.length → l.getD i 0 < top) := hl
  have HC : Hid (∀ i, i < l.length → off + i * 16 + 16 ≤ cs.size ∧ cs.extract (off + i * 16) (off + i * 16 + 16) = idA (l.getD i 0)) := hcs
  rw [hb1]
  clear hl hcs hb1 hb3 hb4
  unfold idV
  go_enter Try.func27, Try.ntmps27
  go_wp2_with (first | (with_reducible refine wpList_at ?_; first | (refine wpList_box_d 2 rfl rfl 23 _ rfl _ rfl ?_; intro w1 g1 G1 e1 k1; have b1 := size_base GG e1; have d91 := lt_new k9 e1; replace k9 := G1.has k9; replace GG := GG.trans G1; clear G1 e1; (try simp only [Act.put, List.setIfInBounds_toArray, List.set_cons_zero, List.set_cons_succ]))))
  have G0 := GG
  clear GG b1
  go_loopw [5] (fun i wr => ∃ k : Nat, k ≤ b ∧ i = .int .i64 k ∧ Gro w1 wr) (fun i _ => l.length - (intOf i).toNat)
  case atStart => exact ⟨0, by omega, rfl, Gro.refl _⟩
  case round =>
    rename_i wr
    obtain ⟨i, hi, rfl, GG⟩ := hrel
    have hil : i < l.length := by omega
    have k1' := GG.has k1
    have k9' := GG.has k9
    go_wp2_with fail
    go_loopw [6, 7] (fun p j wr2 => ∃ k : Nat, k ≤ l.length ∧ j = .int .i64 k ∧ p = .bool (okF d l i k) ∧ Gro wr wr2) (fun _ j _ => l.length - (intOf j).toNat)
    case atStart => exact ⟨0, by omega, rfl, rfl, Gro.refl _⟩
    case round =>
      rename_i wr2
      obtain ⟨k, hk, rfl, rfl, GG2⟩ := hrel
      have k1 := GG2.has k1'
      have k9 := GG2.has k9'
      cases hlt : decide ((k : Int) < l.length)
      · have ek : k = l.length := by simp at hlt; omega
        subst ek
        by_cases hib : i = b
        · have hok : okF d l i l.length = true := okF_all d l i _ (by rw [hib]; exact HB3.out)
          rw [hok]
          go_wp2
          go_ret
          exact ⟨by rw [hib]; rfl, G0.trans (GG.trans GG2)⟩
        · have hok : okF d l i l.length = false := okF_no d l i b (HB4.out i (by omega)) _ hb2
          rw [hok]
          go_wp2
          go_light
          go_roundw
          case rel => exact ⟨i + 1, by omega, by go_num, GG.trans GG2⟩
          case measure => simp [intOf]; omega
      · have hkl : k < l.length := by simp at hlt; omega
        have HX := HL.out k hkl
        obtain ⟨LE, EXT⟩ := HC.out k hkl
        have HY := HL.out i hil
        obtain ⟨LE2, EXT2⟩ := HC.out i hil
        have hst : Hid (okF d l i (k + 1) = (okF d l i k && !nearN d (l.getD k 0) (l.getD i 0))) := rfl
        generalize l.getD k 0 = X at *
        generalize l.getD i 0 = Y at *
        have EX : Hid (cs.extract (off + k * 16) (off + k * 16 + 16) = idA X) := EXT
        have EY : Hid (cs.extract (off + i * 16) (off + i * 16 + 16) = idA Y) := EXT2
        clear EXT EXT2
        cases hp : okF d l i k
        · go_wp2_with fail
          try simp only [Act.put, List.setIfInBounds_toArray, List.set_cons_zero, List.set_cons_succ]
          refine wp_region_gro follows (by kernel_rfl) ?_
          (go_big_quiet_want; go_big_quiet_op; first | go_big_quiet_on | (refine ⟨_, fun _ _ => rfl, ?_⟩; go_big_quiet_on))
          (go_big_quiet_want; go_big_quiet_op; first | go_big_quiet_on | (refine ⟨_, fun _ _ => rfl, ?_⟩; go_big_quiet_on))
          go_big_quiet_skip
          go_big_quiet_skip
          go_big_quiet_skip
          go_big_quiet_skip
          go_big_quiet_skip
          go_big_quiet_skip
          go_big_quiet_skip
          go_big_quiet_skip
          go_big_quiet_skip
          go_big_quiet_skip
          go_big_quiet_skip
          (go_big_quiet_want; go_big_quiet_op; first | go_big_quiet_on | (refine ⟨_, fun _ _ => rfl, ?_⟩; go_big_quiet_on))
          (go_big_quiet_want; go_big_quiet_op; first | go_big_quiet_on | (refine ⟨_, fun _ _ => rfl, ?_⟩; go_big_quiet_on))
          refine wpQuiet_nil ?_
          intro wq Gq0
          have Gq : Gro _ wq := Gq0
          clear Gq0
          replace GG2 := GG2.trans Gq
          clear Gq
          go_wp2
          go_light
          go_roundw
          case rel => exact ⟨k + 1, by omega, by go_num, by rw [hst.out, hp]; rfl, GG2⟩
          case measure => simp [intOf]; omega
        · cases hr : nearN d X Y
          · go_wp2_with fail
            try simp only [Act.put, List.setIfInBounds_toArray, List.set_cons_zero, List.set_cons_succ]
            refine wp_region_gro follows (by kernel_rfl) ?_
            (go_big_quiet_want; go_big_quiet_op; first | go_big_quiet_on | (refine ⟨_, fun _ _ => rfl, ?_⟩; go_big_quiet_on))
            (go_big_quiet_want; go_big_quiet_op; first | go_big_quiet_on | (refine ⟨_, fun _ _ => rfl, ?_⟩; go_big_quiet_on))
            refine wq_load_id rfl _ rfl g1 rfl _ (fun _ hw => Gro.has hw k1) ?_; simp only [Act.put, List.setIfInBounds_toArray, List.set_cons_zero, List.set_cons_succ]
            (go_big_quiet_want; go_big_quiet_op; first | go_big_quiet_on | (refine ⟨_, fun _ _ => rfl, ?_⟩; go_big_quiet_on))
            (go_big_quiet_want; go_big_quiet_op; first | go_big_quiet_on | (refine ⟨_, fun _ _ => rfl, ?_⟩; go_big_quiet_on))
            (go_big_quiet_want; go_big_quiet_op; first | go_big_quiet_on | (refine ⟨_, fun _ _ => rfl, ?_⟩; go_big_quiet_on))
            refine wq_load rfl 23 _ rfl g (off + k * 16) 16 rfl t cs fr _ (fun _ hw => Gro.has hw k9) Try.underlying23 rfl size23 LE _ EX.out ?_; simp only [Act.put, List.setIfInBounds_toArray, List.set_cons_zero, List.set_cons_succ]
            (go_big_quiet_want; go_big_quiet_op; first | go_big_quiet_on | (refine ⟨_, fun _ _ => rfl, ?_⟩; go_big_quiet_on))
            (go_big_quiet_want; go_big_quiet_op; first | go_big_quiet_on | (refine ⟨_, fun _ _ => rfl, ?_⟩; go_big_quiet_on))
            (go_big_quiet_want; go_big_quiet_op; first | go_big_quiet_on | (refine ⟨_, fun _ _ => rfl, ?_⟩; go_big_quiet_on))
            refine wq_load rfl 23 _ rfl g (off + i * 16) 16 rfl t cs fr _ (fun _ hw => Gro.has hw k9) Try.underlying23 rfl size23 LE2 _ EY.out ?_; simp only [Act.put, List.setIfInBounds_toArray, List.set_cons_zero, List.set_cons_succ]
            refine wq_call rfl _ 28 Try.call28 rfl rfl _ rfl [.agg (idA d), .agg (idA X), .agg (idA Y)] rfl _ (fun _ hw => Calls.gro hw (Calls.boolW (refnearer_any d X Y hd HX HY _) hr)) ?_; simp only [Act.put, List.setIfInBounds_toArray, List.set_cons_zero, List.set_cons_succ]
            (go_big_quiet_want; go_big_quiet_op; first | go_big_quiet_on | (refine ⟨_, fun _ _ => rfl, ?_⟩; go_big_quiet_on))
            (go_big_quiet_want; go_big_quiet_op; first | go_big_quiet_on | (refine ⟨_, fun _ _ => rfl, ?_⟩; go_big_quiet_on))
            (go_big_quiet_want; go_big_quiet_op; first | go_big_quiet_on | (refine ⟨_, fun _ _ => rfl, ?_⟩; go_big_quiet_on))
            refine wpQuiet_nil ?_
            intro wq Gq0
            have Gq : Gro _ wq := Gq0
            clear Gq0
            replace GG2 := GG2.trans Gq
            clear Gq
            go_wp2
            go_light
            go_roundw
            case rel => exact ⟨k + 1, by omega, by go_num, by rw [hst.out, hp, hr]; rfl, GG2⟩
            case measure => simp [intOf]; omega
          · go_wp2_with fail
            try simp only [Act.put, List.setIfInBounds_toArray, List.set_cons_zero, List.set_cons_succ]
            refine wp_region_gro follows (by kernel_rfl) ?_
            (go_big_quiet_want; go_big_quiet_op; first | go_big_quiet_on | (refine ⟨_, fun _ _ => rfl, ?_⟩; go_big_quiet_on))
            (go_big_quiet_want; go_big_quiet_op; first | go_big_quiet_on | (refine ⟨_, fun _ _ => rfl, ?_⟩; go_big_quiet_on))
            refine wq_load_id rfl _ rfl g1 rfl _ (fun _ hw => Gro.has hw k1) ?_; simp only [Act.put, List.setIfInBounds_toArray, List.set_cons_zero, List.set_cons_succ]
            (go_big_quiet_want; go_big_quiet_op; first | go_big_quiet_on | (refine ⟨_, fun _ _ => rfl, ?_⟩; go_big_quiet_on))
            (go_big_quiet_want; go_big_quiet_op; first | go_big_quiet_on | (refine ⟨_, fun _ _ => rfl, ?_⟩; go_big_quiet_on))
            (go_big_quiet_want; go_big_quiet_op; first | go_big_quiet_on | (refine ⟨_, fun _ _ => rfl, ?_⟩; go_big_quiet_on))
            refine wq_load rfl 23 _ rfl g (off + k * 16) 16 rfl t cs fr _ (fun _ hw => Gro.has hw k9) Try.underlying23 rfl size23 LE _ EX.out ?_; simp only [Act.put, List.setIfInBounds_toArray, List.set_cons_zero, List.set_cons_succ]
            (go_big_quiet_want; go_big_quiet_op; first | go_big_quiet_on | (refine ⟨_, fun _ _ => rfl, ?_⟩; go_big_quiet_on))
            (go_big_quiet_want; go_big_quiet_op; first | go_big_quiet_on | (refine ⟨_, fun _ _ => rfl, ?_⟩; go_big_quiet_on))
            (go_big_quiet_want; go_big_quiet_op; first | go_big_quiet_on | (refine ⟨_, fun _ _ => rfl, ?_⟩; go_big_quiet_on))
            refine wq_load rfl 23 _ rfl g (off + i * 16) 16 rfl t cs fr _ (fun _ hw => Gro.has hw k9) Try.underlying23 rfl size23 LE2 _ EY.out ?_; simp only [Act.put, List.setIfInBounds_toArray, List.set_cons_zero, List.set_cons_succ]
            refine wq_call rfl _ 28 Try.call28 rfl rfl _ rfl [.agg (idA d), .agg (idA X), .agg (idA Y)] rfl _ (fun _ hw => Calls.gro hw (Calls.boolW (refnearer_any d X Y hd HX HY _) hr)) ?_; simp only [Act.put, List.setIfInBounds_toArray, List.set_cons_zero, List.set_cons_succ]
            (go_big_quiet_want; go_big_quiet_op; first | go_big_quiet_on | (refine ⟨_, fun _ _ => rfl, ?_⟩; go_big_quiet_on))
            (go_big_quiet_want; go_big_quiet_op; first | go_big_quiet_on | (refine ⟨_, fun _ _ => rfl, ?_⟩; go_big_quiet_on))
            (go_big_quiet_want; go_big_quiet_op; first | go_big_quiet_on | (refine ⟨_, fun _ _ => rfl, ?_⟩; go_big_quiet_on))
            refine wpQuiet_nil ?_
            intro wq Gq0
            have Gq : Gro _ wq := Gq0
            clear Gq0
            replace GG2 := GG2.trans Gq
            clear Gq
            go_wp2
            go_light
            go_roundw
            case rel => exact ⟨k + 1, by omega, by go_num, by rw [hst.out, hp, hr]; rfl, GG2⟩
            case measure => simp [intOf]; omega
theorem refnearest_sl (d : Nat) (hd : d < top) (l : List Nat) (hn : l.length ≤ 1048576) (v : Value) (w : World) (h : SL w v l) : Calls Try.prog 27 #[idV d, v] w fun e w' => e = .returned (.int .i64 (bestI d l l.length)) ∧ Gro w w' := by
  by_cases h0 : 0 < l.length
  · rcases h.out with ⟨rfl, a, cap, rfl, _⟩ | ⟨g, off, cap, cs, t, fr, rfl, h2, h3⟩
    · simp at h0
    · exact refnearest_any d hd l h0 h.lts hn g off cap cs t fr h3 w h2
  · have e : l = [] := List.eq_nil_of_length_eq_zero (by omega)
    subst e
    rcases h.out with ⟨_, a, cap, rfl, _⟩ | ⟨g, off, cap, cs, t, fr, rfl, h2, h3⟩
    · exact refnearest_none d a cap w
    · exact refnearest_none d _ cap w
end Go.Proofs.Ytjahegiopigblaa
