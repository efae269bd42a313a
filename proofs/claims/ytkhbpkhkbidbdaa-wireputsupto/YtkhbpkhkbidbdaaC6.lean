/- Wire: numbers and texts are laid as the document says. -/
import Derived.Test.YtkhbpkhkbidbdaaC5
namespace Go.Proofs.Ytkhbpkhkbidbdaa
open Go.RowKit

theorem putNum_E2 (ao : Option Addr) (cap : Nat) (l L : List Nat) (hL : L = putN l) (w : World) (h : NC w .u64 ao cap l) (hlen : 9 * l.length ≤ 140737488355000) : Calls Try.prog 12 #[.slice ao l.length cap] w fun e w' => ∃ v, e = .returned v ∧ Gro w w' ∧ (bytesE L).p v w' :=
  (putNum_any ao cap l w h hlen).mono fun e w' ⟨ao', cap', L', he, hL', ho, hb⟩ => by
    have e1 : L' = L := hL'.out.trans hL.symm
    subst e1
    exact ⟨_, he, hb, ao', cap', rfl, ho.nc⟩
theorem putText_E2 (ao : Option Addr) (cap : Nat) (l : List (List Nat)) (L : List Nat) (hL : L = putT l) (w : World) (h : LC w ao cap l) (hlen : (putT l).length ≤ 140737488355000) (hll : l.length ≤ 140737488355000) : Calls Try.prog 13 #[.slice ao l.length cap] w fun e w' => ∃ v, e = .returned v ∧ Gro w w' ∧ (bytesE L).p v w' :=
  (putText_any ao cap l w h hlen hll).mono fun e w' ⟨ao', cap', L', he, hL', ho, hb⟩ => by
    have e1 : L' = L := hL'.out.trans hL.symm
    subst e1
    exact ⟨_, he, hb, ao', cap', rfl, ho.nc⟩
set_option maxHeartbeats 6400000 in
theorem wirePuts_any (ao0 : Option Addr) (cap0 : Nat) (l : List Nat) (ao1 : Option Addr) (cap1 : Nat) (ls : List (List Nat)) (w : World) (HC : NC w .u64 ao0 cap0 l) (HT : LC w ao1 cap1 ls) (hl : l.length ≤ 1048576) (hls : ls.length ≤ 1048576) (hpt : (putT ls).length ≤ 104857600) :
    Calls Try.prog 3 #[.slice ao0 l.length cap0, .slice ao1 ls.length cap1] w fun e w' => e = .returned (.bool true) ∧ Gro w w' := by
  have HPT : Shut ((putT ls).length ≤ 104857600) := ⟨hpt⟩
  obtain ⟨B, hB⟩ : ∃ B, w.heap.size = B := ⟨_, rfl⟩
  have HB : Shut (w.heap.size = B) := ⟨hB⟩
  have hBw : B ≤ w.heap.size := by omega
  clear hB hpt
  go_enter Try.func3, Try.ntmps3
  go_wp2
  go_loopw [5, 13] (fun v i wr => ∃ (j : Nat) (ao : Option Addr) (cap : Nat) (L : List Nat), j ≤ l.length ∧ i = .int .i64 (j : Int) ∧ v = .slice ao L.length cap ∧ Shut (L = putN (l.take j)) ∧ OB wr 5 .u8 B ao cap L ∧ Below B w wr) (fun _ i _ => l.length - (intOf i).toNat)
  case atStart => exact ⟨0, none, 0, [], by omega, rfl, rfl, ⟨by simp [putN]⟩, OB.nil _ _ _ _, Below.refl _ _⟩
  case round =>
    rename_i wr
    obtain ⟨j, aow, capw, L, hj, rfl, rfl, EL, HO, BB⟩ := hrel
    have hLl : L.length ≤ 9 * j := by have := putN_len (l.take j); rw [EL.out]; rw [List.length_take] at this; omega
    cases hlt : decide ((j : Int) < (l.length : Int))
    · have ej : j = l.length := by simp at hlt; omega
      have EF : Shut (L = putN l) := ⟨by rw [EL.out, ej, List.take_length]⟩
      clear ej EL
      go_wp2_with (first | (with_reducible refine wpList_at ?_; first | (refine wpList_value_d 14 rfl rfl (.bool false) (run_lss64 _ _ _ rfl (j : Int) (l.length : Int) rfl rfl false hlt _) ?_; (try simp only [Act.put, List.setIfInBounds_toArray, List.set_cons_zero, List.set_cons_succ]))))
      have GB : Gro w wr := by rw [← HB.out] at BB; exact BB
      obtain ⟨B2, hB2⟩ : ∃ B2, wr.heap.size = B2 := ⟨_, rfl⟩
      have HB2 : Shut (wr.heap.size = B2) := ⟨hB2⟩
      have hB2w : B2 ≤ wr.heap.size := by omega
      have hBB : w.heap.size ≤ B2 := by have := GB.size; omega
      have Nw := HO.nc
      have hwl : Shut (∀ ad, aow = some ad → 0 < L.length → ad.block < B2) := ⟨fun ad ha h => by have := Nw.lt ad ha h; omega⟩
      clear hB2 HO BB hlt
      go_loopw [6, 24] (fun v i wx => ∃ (j : Nat) (ao : Option Addr) (cap : Nat) (M : List Nat), j ≤ ls.length ∧ i = .int .i64 (j : Int) ∧ v = .slice ao M.length cap ∧ Shut (M = putT (ls.take j)) ∧ OB wx 5 .u8 B2 ao cap M ∧ Below B2 wr wx) (fun _ i _ => ls.length - (intOf i).toNat)
      case atStart => exact ⟨0, none, 0, [], by omega, rfl, rfl, ⟨by simp [putT]⟩, OB.nil _ _ _ _, Below.refl _ _⟩
      case round =>
        obtain ⟨i, aom, capm, M, hi, rfl, rfl, EM, HO, BB⟩ := hrel
        have GG := gro_app GB hBB BB
        cases hlt : decide ((i : Int) < (ls.length : Int))
        · have ei : i = ls.length := by simp at hlt; omega
          have EG : Shut (M = putT ls) := ⟨by rw [EM.out, ei, List.take_length]⟩
          have NW := Nw.below BB hwl.out
          have NM := HO.nc
          have HCr := HC.gro GG
          have HTr := HT.gro GG
          clear ei EM HO BB Nw hwl HC HT
          go_wp2_with (first | (with_reducible refine wpList_at ?_; first | (refine wpList_value_d 25 rfl rfl (.bool false) (run_lss64 _ _ _ rfl (i : Int) (ls.length : Int) rfl rfl false hlt _) ?_; (try simp only [Act.put, List.setIfInBounds_toArray, List.set_cons_zero, List.set_cons_succ]))))
          refine wp_region_exA (A := ?A) 18 [(0, 33), (1, 34), (2, 35), (3, 36), (4, 37), (5, 38), (6, 39), (7, 40), (8, 41), (9, 42), (10, 43), (11, 44), (12, 45), (13, 46), (14, 47), (15, 48), (16, 49), (17, 4)] [.val (.bool true), .val (.bool true), .val (.slice ao0 l.length cap0), bytesE L, .val (.string (bas L)), .val (.slice aow L.length capw), .val (.string (bas L)), .val (.bool true), .val (.bool true), .val (.bool true), .val (.slice ao1 ls.length cap1), bytesE M, .val (.string (bas M)), .val (.slice aom M.length capm), .val (.string (bas M)), .val (.bool true), .val (.bool true), .val (.bool true)] follows (by kernel_rfl) rfl ?hA
            (opsA_cons ?o0 (opsA_cons ?o1 (opsA_cons ?o2 (opsA_cons ?o3 (opsA_cons ?o4 (opsA_cons ?o5 (opsA_cons ?o6 (opsA_cons ?o7 (opsA_cons ?o8 (opsA_cons ?o9 (opsA_cons ?o10 (opsA_cons ?o11 (opsA_cons ?o12 (opsA_cons ?o13 (opsA_cons ?o14 (opsA_cons ?o15 (opsA_cons ?o16 (opsA_cons ?o17 opsA_nil)))))))))))))))))) ?rest
          case hA =>
            intro ptrs
            simp only [full, foldSlots, filledE, postE, List.foldl_cons, List.foldl_nil, List.getD_cons_zero, List.getD_cons_succ, PostE.fill, PostE.val, PostE.ex, bytesE, Option.getD_some, Option.getD_none, List.set_cons_zero, List.set_cons_succ]
            exact rfl
          case o0 => exact fun _ _ _ _ => opE_call (.val (.bool true)) rfl _ 11 Try.call11 rfl rfl [] rfl [] rfl (fixed_E _)
          case o1 => exact fun _ _ _ _ => opE_move (v := (.bool true)) _ rfl rfl rfl
          case o2 => exact fun _ _ _ _ => opE_move (v := (.slice ao0 l.length cap0)) _ rfl rfl rfl
          case o3 => exact fun ptrs w' hw _ => opE_call (bytesE L) rfl _ 12 Try.call12 rfl rfl [.tmp 35] rfl [.slice ao0 l.length cap0] rfl (putNum_E2 ao0 cap0 l L EF.out w' (HCr.gro ((Gro.refl _).drew.trans hw)) (by omega))
          case o4 =>
            intro ptrs w' _ hn
            obtain ⟨⟨ao9, cap9, hv, hc⟩, _⟩ := hn
            exact opE_value (v := (.string (bas L))) rfl (run_text_op bT 9 Try.underlying9 (.tmp 36) rfl hv hc)
          case o5 => exact fun _ _ _ _ => opE_move (v := (.slice aow L.length capw)) _ rfl rfl rfl
          case o6 => exact fun ptrs w' hw _ => opE_value (v := (.string (bas L))) rfl (run_text_op bT 9 Try.underlying9 _ rfl rfl (NW.gro ((Gro.refl _).drew.trans hw)))
          case o7 => exact fun _ _ hw _ => opE_value (v := (.bool true)) rfl (run_eqs_op _ _ _ rfl _ _ rfl rfl true (decide_eq_true rfl) _)
          case o8 => exact fun _ _ _ _ => opE_pick (v := (.bool true)) _ _ _ rfl rfl true rfl rfl
          case o9 => exact fun _ _ _ _ => opE_move (v := (.bool true)) _ rfl rfl rfl
          case o10 => exact fun _ _ _ _ => opE_move (v := (.slice ao1 ls.length cap1)) _ rfl rfl rfl
          case o11 => exact fun ptrs w' hw _ => opE_call (bytesE M) rfl _ 13 Try.call13 rfl rfl [.tmp 43] rfl [.slice ao1 ls.length cap1] rfl (putText_E2 ao1 cap1 ls M EG.out w' (HTr.gro ((Gro.refl _).drew.trans hw)) (Nat.le_trans HPT.out (by decide)) (by omega))
          case o12 =>
            intro ptrs w' _ hn
            obtain ⟨⟨ao9, cap9, hv, hc⟩, _⟩ := hn
            exact opE_value (v := (.string (bas M))) rfl (run_text_op bT 9 Try.underlying9 (.tmp 44) rfl hv hc)
          case o13 => exact fun _ _ _ _ => opE_move (v := (.slice aom M.length capm)) _ rfl rfl rfl
          case o14 => exact fun ptrs w' hw _ => opE_value (v := (.string (bas M))) rfl (run_text_op bT 9 Try.underlying9 _ rfl rfl (NM.gro ((Gro.refl _).drew.trans hw)))
          case o15 => exact fun _ _ hw _ => opE_value (v := (.bool true)) rfl (run_eqs_op _ _ _ rfl _ _ rfl rfl true (decide_eq_true rfl) _)
          case o16 => exact fun _ _ _ _ => opE_pick (v := (.bool true)) _ _ _ rfl rfl true rfl rfl
          case o17 => exact fun _ _ _ _ => opE_assign (v := (.bool true)) _ rfl rfl rfl
          
          intro ptrs w5 G5 _
          simp only [List.drop_succ_cons, List.drop_zero]
          replace GG : Gro w w5 := GG.drew.trans G5
          go_wp2
          go_ret
          exact ⟨rfl, GG⟩
        · have hil : i < ls.length := by simp at hlt; omega
          have HE : Shut _ := ⟨putT_step ls i hil⟩
          have hL1 := putT_len ls (i + 1)
          rw [HE.out, ← EM.out, List.length_append, List.length_append] at hL1
          have h140 := HPT.out
          obtain ⟨ad, ao2, cap2, rfl, hc, hs⟩ := HT.at hil
          have hsN := hs.gro GG
          have hc2 : Shut _ := ⟨(World.cell?_of_block (GG.block _ (World.block_lt_of_cell? w _ hc))).trans hc⟩
          clear hc hs
          obtain ⟨x, hx'⟩ : ∃ x, ls.getD i [] = x := ⟨_, rfl⟩
          rw [hx'] at HE hc2 hsN hL1
          clear hx'
          have hx : x.length ≤ 104857600 := by omega
          have hM : M.length ≤ 104857600 := by omega
          clear h140 hL1
          go_wp2_with (first | (go_at_call 10; refine (text_doc ao2 cap2 x _ hsN (by omega)).mono ?_; rintro e wN ⟨ao3, cap3, L3, rfl, E3, O3, GN⟩) | (with_reducible refine wpList_at ?_; first | (refine wpList_value_d 25 rfl rfl (.bool true) (run_lss64 _ _ _ rfl (i : Int) (ls.length : Int) rfl rfl true hlt _) ?_; (try simp only [Act.put, List.setIfInBounds_toArray, List.set_cons_zero, List.set_cons_succ])) | (refine wpList_value_d 26 rfl rfl (.pointer (some (ad.add i))) (run_idx23 _ _ rfl ad ls.length cap1 i rfl rfl hil _) ?_; (try simp only [Act.put, List.setIfInBounds_toArray, List.set_cons_zero, List.set_cons_succ])) | (refine wpList_value_d 27 rfl rfl (.slice ao2 x.length cap2) (run_ld24 _ rfl (ad.add i) rfl _ _ hc2.out) ?_; (try simp only [Act.put, List.setIfInBounds_toArray, List.set_cons_zero, List.set_cons_succ])) | (refine wpList_stop rfl ?_)))
          constructor
          have hTL := (textL_len x).1
          have hBr := Nat.le_trans hB2w BB.size
          replace BB := Below.trans BB (Below.mono GN hBr)
          replace hBr := Nat.le_trans hB2w BB.size
          have h3 : L3.length ≤ 104857609 := by rw [E3.out]; omega
          refine wpList_app bT 31 rfl rfl _ _ rfl rfl (HO.gro GN) rfl O3.nc (by omega) (by decide) hBr ?_
          intro ao4 cap4 L4 w4 E4 O4 B4
          replace BB := Below.trans BB B4
          clear HO O3 GN B4 GG
          simp only [Act.put, List.setIfInBounds_toArray, List.set_cons_zero, List.set_cons_succ]
          go_wp2
          go_light
          go_roundw
          case rel => exact ⟨i + 1, ao4, cap4, L4, by omega, by go_num, rfl, ⟨by rw [E4.out, E3.out, EM.out, HE.out]; simp [textL]⟩, O4, BB⟩
          case measure => simp [intOf]; omega
    · have hjl : j < l.length := by simp at hlt; omega
      have HE : Shut _ := ⟨putN_step l j hjl⟩
      have hx := HC.lim hjl
      obtain ⟨ad, rfl, hc⟩ := HC.at hjl
      have hc2 : Shut _ := ⟨(World.cell?_of_block (BB.block _ (by rw [← HB.out]; exact World.block_lt_of_cell? w _ hc))).trans hc⟩
      clear hc
      obtain ⟨x, hx'⟩ : ∃ x, l.getD j 0 = x := ⟨_, rfl⟩
      rw [hx'] at HE hx hc2
      clear hx'
      have HX : Shut (x < lim) := ⟨hx⟩
      clear hx
      go_wp2_with (first | (go_at_call 9; refine (num_doc x HX.out _).mono ?_; rintro e wN ⟨ao3, cap3, L3, rfl, E3, O3, GN⟩) | (with_reducible refine wpList_at ?_; first | (refine wpList_value_d 14 rfl rfl (.bool true) (run_lss64 _ _ _ rfl (j : Int) (l.length : Int) rfl rfl true hlt _) ?_; (try simp only [Act.put, List.setIfInBounds_toArray, List.set_cons_zero, List.set_cons_succ])) | (refine wpList_value_d 15 rfl rfl (.pointer (some (ad.add j))) (run_idx uT _ _ rfl ad l.length cap0 j rfl rfl hjl _) ?_; (try simp only [Act.put, List.setIfInBounds_toArray, List.set_cons_zero, List.set_cons_succ])) | (refine wpList_value_d 16 rfl rfl (.int .u64 (x : Int)) (run_ld uT _ rfl (ad.add j) rfl _ _ hc2.out) ?_; (try simp only [Act.put, List.setIfInBounds_toArray, List.set_cons_zero, List.set_cons_succ])) | (refine wpList_stop rfl ?_)))
      constructor
      have hBr := Nat.le_trans hBw BB.size
      replace BB := Below.trans BB (Below.mono GN hBr)
      replace hBr := Nat.le_trans hBw BB.size
      have h3 : L3.length ≤ 9 := by rw [E3.out]; exact numL_le x
      refine wpList_app bT 20 rfl rfl _ _ rfl rfl (HO.gro GN) rfl O3.nc (by omega) (by decide) hBr ?_
      intro ao4 cap4 L4 w4 E4 O4 B4
      replace BB := Below.trans BB B4
      clear HO O3 GN B4
      simp only [Act.put, List.setIfInBounds_toArray, List.set_cons_zero, List.set_cons_succ]
      go_wp2
      go_light
      go_roundw
      case rel => exact ⟨j + 1, ao4, cap4, L4, by omega, by go_num, rfl, ⟨by rw [E4.out, E3.out, EL.out, HE.out]⟩, O4, BB⟩
      case measure => simp [intOf]; omega
end Go.Proofs.Ytkhbpkhkbidbdaa
