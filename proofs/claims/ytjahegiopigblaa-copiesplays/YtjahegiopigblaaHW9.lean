/- Walks. -/
import Derived.Test.YtjahegiopigblaaHB4
import Derived.Test.YtjahegiopigblaaHW6
namespace Go.Proofs.Ytjahegiopigblaa
open Go.RowKit
/-- The place of the one of the first k that is nearest to d. -/
def bestI (d : Nat) (l : List Nat) : Nat → Int
  | 0 => -1
  | k + 1 => if bestI d l k < 0 then k else if nearN d (l.getD k 0) (l.getD (bestI d l k).toNat 0) = true then k else bestI d l k
theorem bestI_bd (d : Nat) (l : List Nat) : ∀ k, -1 ≤ bestI d l k ∧ bestI d l k < k ∧ (0 < k → 0 ≤ bestI d l k)
  | 0 => by simp [bestI]
  | k + 1 => by
    have h := bestI_bd d l k
    unfold bestI
    split
    · omega
    · split <;> omega
set_option maxHeartbeats 400000 in
theorem nearest_any (d : Nat) (hd : d < top) (l : List Nat) (hl : ∀ i, i < l.length → l.getD i 0 < top) (hn : l.length ≤ 1048576) (g off cap : Nat) (cs : Array Value) (t : TypeId) (fr : Nat × Nat)
    (hcs : ∀ i, i < l.length → off + i * 16 + 16 ≤ cs.size ∧ cs.extract (off + i * 16) (off + i * 16 + 16) = idA (l.getD i 0)) (w : World) (k9 : w.heap[g]? = some (.cells cs t fr)) :
    Calls Try.prog 34 #[idV d, .slice (some ⟨g, off, none⟩) l.length cap] w fun e w' => e = .returned (.int .i64 (bestI d l l.length)) ∧ Gro w w' := by
  have GG : Gro w w := Gro.refl w
  have HL : Hid (∀ i, i < l.length → l.getD i 0 < top) := hl
  have HC : Hid (∀ i, i < l.length → off + i * 16 + 16 ≤ cs.size ∧ cs.extract (off + i * 16) (off + i * 16 + 16) = idA (l.getD i 0)) := hcs
  clear hl hcs
  unfold idV
  go_enter Try.func34, Try.ntmps34
  go_wp2_with (first | (with_reducible refine wpList_at ?_; first | (refine wpList_box_d 2 rfl rfl 23 _ rfl _ rfl ?_; intro w1 g1 G1 e1 k1; have b1 := size_base GG e1; have d91 := lt_new k9 e1; replace k9 := G1.has k9; replace GG := GG.trans G1; clear G1 e1; (try simp only [Act.put, List.setIfInBounds_toArray, List.set_cons_zero, List.set_cons_succ]))))
  have G0 := GG
  clear GG b1
  go_loopw [5, 10] (fun b i wr => ∃ k : Nat, k ≤ l.length ∧ i = .int .i64 k ∧ b = .int .i64 (bestI d l k) ∧ Gro w1 wr) (fun _ i _ => l.length - (intOf i).toNat)
  case atStart => exact ⟨0, by omega, rfl, rfl, Gro.refl _⟩
  case round =>
    rename_i wr
    obtain ⟨k, hk, rfl, rfl, GG⟩ := hrel
    replace k1 := GG.has k1
    replace k9 := GG.has k9
    cases hlt : decide ((k : Int) < l.length)
    · have e16 : k = l.length := by simp at hlt; omega
      subst e16
      go_wp2
      go_ret
      exact ⟨rfl, G0.trans GG⟩
    · have hkl : k < l.length := by simp at hlt; omega
      have hbd := bestI_bd d l k
      have HX := HL.out k hkl
      obtain ⟨LE, EXT⟩ := HC.out k hkl
      have hst : Hid (bestI d l (k + 1) = if bestI d l k < 0 then (k : Int) else if nearN d (l.getD k 0) (l.getD (bestI d l k).toNat 0) = true then k else bestI d l k) := rfl
      generalize l.getD k 0 = X at *
      have EX : Hid (cs.extract (off + k * 16) (off + k * 16 + 16) = idA X) := EXT
      clear EXT
      cases hB : decide (bestI d l k < 0)
      · obtain ⟨b, hb⟩ : ∃ b : Nat, bestI d l k = b := ⟨(bestI d l k).toNat, by simp at hB; omega⟩
        rw [hb] at hst hB hbd ⊢
        have hbl : b < l.length := by omega
        have HY := HL.out b hbl
        obtain ⟨LE2, EXT2⟩ := HC.out b hbl
        have e3 : ((b : Int)).toNat = b := by omega
        rw [e3] at hst
        generalize l.getD b 0 = Y at *
        have EY : Hid (cs.extract (off + b * 16) (off + b * 16 + 16) = idA Y) := EXT2
        have HBB : Hid (bestI d l k = b) := hb
        clear EXT2 hb e3
        cases hr : nearN d X Y
        all_goals
          go_wp2_with (first | (with_reducible refine wpList_at ?_; first | (refine wpList_load_at rfl 23 _ rfl g (off + k * 16) 16 rfl t cs fr _ k9 Try.underlying23 rfl size23 LE _ EX.out ?_; (try simp only [Act.put, List.setIfInBounds_toArray, List.set_cons_zero, List.set_cons_succ])) | (refine wpList_alloc_d 7 rfl rfl 23 rfl _ zero23 ?_; intro w2 g2 G2 e2 k2; have b2 := size_base GG e2; have d12 := lt_new k1 e2; have d92 := lt_new k9 e2; replace k1 := G2.has k1; replace k9 := G2.has k9; replace GG := GG.trans G2; clear G2 e2; (try simp only [Act.put, List.setIfInBounds_toArray, List.set_cons_zero, List.set_cons_succ])) | (refine wpList_store_agg rfl rfl 23 _ _ rfl g2 rfl _ rfl 23 _ k2 (size23' _) (by simp only [idA_size]) (idA_one _) ?_; intro wN SN; replace k1 := SN.has (by omega) k1; replace k9 := SN.has (by omega) k9; replace k2 := SN.new; replace GG := GG.store SN b2; clear SN)))
          try simp only [Act.put, List.setIfInBounds_toArray, List.set_cons_zero, List.set_cons_succ]
          refine wp_region_gro follows (by kernel_rfl) ?_
          (go_big_quiet_want; go_big_quiet_op; first | go_big_quiet_on | (refine ⟨_, fun _ _ => rfl, ?_⟩; go_big_quiet_on))
          refine wq_lss_p rfl _ _ _ _ rfl _ _ _ rfl rfl _ hB ?_; simp only [Act.put, List.setIfInBounds_toArray, List.set_cons_zero, List.set_cons_succ]
          (go_big_quiet_want; go_big_quiet_op; first | go_big_quiet_on | (refine ⟨_, fun _ _ => rfl, ?_⟩; go_big_quiet_on))
          refine wq_load_id rfl _ rfl g1 rfl _ (fun _ hw => Gro.has hw k1) ?_; simp only [Act.put, List.setIfInBounds_toArray, List.set_cons_zero, List.set_cons_succ]
          refine wq_load_id rfl _ rfl g2 rfl _ (fun _ hw => Gro.has hw k2) ?_; simp only [Act.put, List.setIfInBounds_toArray, List.set_cons_zero, List.set_cons_succ]
          (go_big_quiet_want; go_big_quiet_op; first | go_big_quiet_on | (refine ⟨_, fun _ _ => rfl, ?_⟩; go_big_quiet_on))
          (go_big_quiet_want; go_big_quiet_op; first | go_big_quiet_on | (refine ⟨_, fun _ _ => rfl, ?_⟩; go_big_quiet_on))
          (go_big_quiet_want; go_big_quiet_op; first | go_big_quiet_on | (refine ⟨_, fun _ _ => rfl, ?_⟩; go_big_quiet_on))
          refine wq_load rfl 23 _ rfl g (off + b * 16) 16 rfl t cs fr _ (fun _ hw => Gro.has hw k9) Try.underlying23 rfl size23 LE2 _ EY.out ?_; simp only [Act.put, List.setIfInBounds_toArray, List.set_cons_zero, List.set_cons_succ]
          refine wq_call rfl _ 32 Try.call32 rfl rfl _ rfl [.agg (idA d), .agg (idA X), .agg (idA Y)] rfl _ (fun _ hw => Calls.gro hw (Calls.boolW (nearer_any d X Y hd HX HY _) hr)) ?_; simp only [Act.put, List.setIfInBounds_toArray, List.set_cons_zero, List.set_cons_succ]
          (go_big_quiet_want; go_big_quiet_op; first | go_big_quiet_on | (refine ⟨_, fun _ _ => rfl, ?_⟩; go_big_quiet_on))
          refine wpQuiet_nil ?_
          intro wq Gq0
          have Gq : Gro _ wq := Gq0
          clear Gq0
          replace k1 := Gq.has k1
          replace k2 := Gq.has k2
          replace k9 := Gq.has k9
          replace GG := GG.trans Gq
          clear Gq
          go_wp2
          go_light
          go_roundw
          case rel => exact ⟨k + 1, by omega, by go_num, by rw [hst.out, if_neg (by omega)]; simp [hr], GG⟩
          case measure => simp [intOf]; omega
      · go_wp2_with (first | (with_reducible refine wpList_at ?_; first | (refine wpList_load_at rfl 23 _ rfl g (off + k * 16) 16 rfl t cs fr _ k9 Try.underlying23 rfl size23 LE _ EX.out ?_; (try simp only [Act.put, List.setIfInBounds_toArray, List.set_cons_zero, List.set_cons_succ])) | (refine wpList_alloc_d 7 rfl rfl 23 rfl _ zero23 ?_; intro w2 g2 G2 e2 k2; have b2 := size_base GG e2; have d12 := lt_new k1 e2; have d92 := lt_new k9 e2; replace k1 := G2.has k1; replace k9 := G2.has k9; replace GG := GG.trans G2; clear G2 e2; (try simp only [Act.put, List.setIfInBounds_toArray, List.set_cons_zero, List.set_cons_succ])) | (refine wpList_store_agg rfl rfl 23 _ _ rfl g2 rfl _ rfl 23 _ k2 (size23' _) (by simp only [idA_size]) (idA_one _) ?_; intro wN SN; replace k1 := SN.has (by omega) k1; replace k9 := SN.has (by omega) k9; replace k2 := SN.new; replace GG := GG.store SN b2; clear SN)))
        try simp only [Act.put, List.setIfInBounds_toArray, List.set_cons_zero, List.set_cons_succ]
        refine wp_region_gro follows (by kernel_rfl) ?_
        (go_big_quiet_want; go_big_quiet_op; first | go_big_quiet_on | (refine ⟨_, fun _ _ => rfl, ?_⟩; go_big_quiet_on))
        refine wq_lss_p rfl _ _ _ _ rfl _ _ _ rfl rfl _ hB ?_; simp only [Act.put, List.setIfInBounds_toArray, List.set_cons_zero, List.set_cons_succ]
        (go_big_quiet_want; go_big_quiet_op; first | go_big_quiet_on | (refine ⟨_, fun _ _ => rfl, ?_⟩; go_big_quiet_on))
        go_big_quiet_skip
        go_big_quiet_skip
        go_big_quiet_skip
        go_big_quiet_skip
        go_big_quiet_skip
        go_big_quiet_skip
        go_big_quiet_skip
        (go_big_quiet_want; go_big_quiet_op; first | go_big_quiet_on | (refine ⟨_, fun _ _ => rfl, ?_⟩; go_big_quiet_on))
        refine wpQuiet_nil ?_
        intro wq Gq0
        have Gq : Gro _ wq := Gq0
        clear Gq0
        replace k1 := Gq.has k1
        replace k2 := Gq.has k2
        replace k9 := Gq.has k9
        replace GG := GG.trans Gq
        clear Gq
        go_wp2
        go_light
        go_roundw
        case rel => exact ⟨k + 1, by omega, by go_num, by rw [hst.out, if_pos (by simpa using hB)], GG⟩
        case measure => simp [intOf]; omega
end Go.Proofs.Ytjahegiopigblaa
