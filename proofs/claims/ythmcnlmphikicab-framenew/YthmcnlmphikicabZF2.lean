/- Rows of bytes laid one behind the other (slices.Concat, slices.Grow). -/
import Derived.Test.YthmcnlmphikicabZS2
import Derived.Test.YthmcnlmphikicabZB9
namespace Go.Proofs.Ythmcnlmphikicab
open Go.RowKit
section
variable {P : Program}
theorem run_append_make (w : World) (t u ty e : TypeId) (k : IntKind) (i : TypeInfo) (z : Value) (ht : P.underlying t = some (.slice e)) (hu : P.underlying u = some (.int k)) (hi : P.info? e = some i) (hz : i.zero = some z) (hsz : i.size = 1) (hby : i.bytes = 1)
    (n : Nat) (h0 : 0 < n) (h48 : n ≤ 140737488355328) :
    (Builtin.append_ #[t, u] ty #[.slice none 0 0, .int k (n : Int)]).run P w =
      .ok (.slice (some ⟨w.heap.size, 0, none⟩) n (grownCap w n 0 e)) (w.drew.alloc (.cells (Builtin.zeroCells z.cells n ++ Builtin.zeroCells z.cells (grownCap w n 0 e - n)) e)) := by
  have hn : n ≠ 0 := by omega
  have h63' : ¬ (9223372036854775807 < (n : Int)) := by omega
  have hneg : ¬ ((n : Int) < 0) := by omega
  have h48a : ¬ (281474976710656 < (n : Int)) := by omega
  have h48' : ¬ (281474976710656 < Builtin.nextslicecap n 0) := by rw [nextslicecap_zero h0]; omega
  have hw : IntKind.i64.wrap (n : Int) = (n : Int) := by
    simp [IntKind.wrap, IntKind.bits, IntKind.signed]
    omega
  simp [Builtin.append_, run_underlying ht, run_underlying hu, sizeOf, typeInfo, zeroValue, hi, hz, hsz, hby, asInt, asIntOf, hw, hneg, h48a, Builtin.lenOf, hn, h63', h48', Question.forced, run_firstCells_none, newRow, grownCap]
theorem wpList_app_make {ops : Array Oper} {rest : List Oper} {o : Oper} {a : Act} {w : World} {Q : Exit → Act → World → Prop} {t u e : TypeId} {k kn : IntKind} (T : NumT P t e k 1) (hu : P.underlying u = some (.int kn)) (dst : Nat) (hd : o.dst = some dst) (hgd : o.guard = none) (s x : Operand)
    (ho : o.op = .call { callee := .builtin .append, args := #[s, x], argTypes := #[t, u] }) (hs : a.eval s = .slice none 0 0) (n : Nat) (hx : a.eval x = .int kn (n : Int)) (h0 : 0 < n) (h48 : n ≤ 140737488355328)
    (h : ∀ g cap w', w.heap.size = g → OB w' e k g (some ⟨g, 0, none⟩) cap [] → n ≤ cap → Gro w w' → wpList P ops Q rest (a.put (some dst) (.slice (some ⟨g, 0, none⟩) n cap)) w') : wpList P ops Q (o :: rest) a w := by
  obtain ⟨i, hi, hz, hsz, hby⟩ := T.info
  refine wpList_plain hgd fun _ hK => ?_
  have hr := run_append_make w t u o.type e kn i (.int k 0) T.und hu hi hz hsz hby n h0 h48
  unfold Oper.wp execOp
  simp only [ho, resolve, invoke, builtin, Sem.run_bind, Sem.run_pure, Result.andThen_ok, List.map_toArray, List.map_cons, List.map_nil, hs, hx, hr]
  rw [Oper.upon_value, hd]
  refine hK _ _ (h w.heap.size _ _ rfl ?_ (grownCap_ge w n 0 e) ?_)
  · refine OB.made (heap_alloc_new w.drew _) (Nat.le_refl _) (Nat.zero_le _) (grownCap_le_maxLen w n 0 e (by simp only [maxLen]; omega)) ?_ rfl (fun x hx => by cases hx)
    have := grownCap_ge w n 0 e
    simp only [Array.size_append, size_zeroCells]
    show n * 1 + (grownCap w n 0 e - n) * 1 = _
    omega
  · exact ((Gro.refl w).drew).alloc _
end
theorem flat_step (l : List (List Nat)) (k : Nat) (h : k < l.length) : (l.take (k + 1)).flatten = (l.take k).flatten ++ l.getD k [] := by
  rw [take_one l [] k h]
  simp
theorem flat_len (l : List (List Nat)) (k : Nat) : (l.take k).flatten.length ≤ l.flatten.length := by
  conv => rhs; rw [← List.take_append_drop k l]
  simp only [List.flatten_append, List.length_append]
  omega
theorem wpList_stopb {P : Program} {ops : Array Oper} {rest : List Oper} {o : Oper} {a : Act} {w : World} {Q : Exit → Act → World → Prop} {s x : Operand} {t1 t2 : TypeId} (_ho : o.op = .call { callee := .builtin .append, args := #[s, x], argTypes := #[t1, t2] }) (h : Stop (wpList P ops Q (o :: rest) a w)) : wpList P ops Q (o :: rest) a w := h.out
set_option maxHeartbeats 1600000 in
theorem grow_nil (n : Nat) (hn : n ≤ 140737488355000) (w : World) : Calls Try.prog 34 #[.slice none 0 0, .int .i64 (n : Int)] w fun e w' => ∃ ao cap, e = .returned (.slice ao 0 cap) ∧ OB w' 5 .u8 w.heap.size ao cap [] ∧ Gro w w' := by
  cases h0 : decide (0 < n)
  · have : n = 0 := by simp at h0; omega
    subst this
    go_enter Try.func34, Try.ntmps34
    go_wp2_with (first | (with_reducible refine wpList_at ?_; first | (refine wpList_value_d 6 rfl rfl (.bool false) (run_lss64 _ _ _ rfl 0 0 rfl rfl false rfl _) ?_; (try simp only [Act.put, List.setIfInBounds_toArray, List.set_cons_zero, List.set_cons_succ])) | (refine wpList_value_d 13 rfl rfl (.int .i64 0) (run_sub64 _ _ _ rfl 0 0 0 rfl rfl rfl (by decide) (by decide) _) ?_; (try simp only [Act.put, List.setIfInBounds_toArray, List.set_cons_zero, List.set_cons_succ])) | (refine wpList_value_d 14 rfl rfl (.int .i64 0) (run_sub64 _ _ _ rfl 0 0 0 rfl rfl rfl (by decide) (by decide) _) ?_; (try simp only [Act.put, List.setIfInBounds_toArray, List.set_cons_zero, List.set_cons_succ])) | (refine wpList_value_d 16 rfl rfl (.bool false) (run_gtr64 _ _ _ rfl 0 0 rfl rfl false rfl _) ?_; (try simp only [Act.put, List.setIfInBounds_toArray, List.set_cons_zero, List.set_cons_succ]))))
    go_ret
    exact ⟨none, 0, rfl, OB.nil _ _ _ _, Gro.refl _⟩
  · have hp : 0 < n := of_decide_eq_true h0
    have hl : decide ((n : Int) < 0) = false := decide_eq_false (by omega)
    have hg : decide (0 < (n : Int)) = true := decide_eq_true (by omega)
    have HP : Shut (0 < n) := ⟨hp⟩
    have HN : Shut (n ≤ 140737488355328) := ⟨by omega⟩
    go_enter Try.func34, Try.ntmps34
    go_wp2_with (first | (with_reducible refine wpList_at ?_; first | (refine wpList_value_d 6 rfl rfl (.bool false) (run_lss64 _ _ _ rfl (n : Int) 0 rfl rfl false hl _) ?_; (try simp only [Act.put, List.setIfInBounds_toArray, List.set_cons_zero, List.set_cons_succ])) | (refine wpList_value_d 13 rfl rfl (.int .i64 0) (run_sub64 _ _ _ rfl 0 0 0 rfl rfl rfl (by decide) (by decide) _) ?_; (try simp only [Act.put, List.setIfInBounds_toArray, List.set_cons_zero, List.set_cons_succ])) | (refine wpList_value_d 14 rfl rfl (.int .i64 (n : Int)) (run_sub64 _ _ _ rfl (n : Int) 0 (n : Int) rfl rfl (by omega) (by omega) (by omega) _) ?_; (try simp only [Act.put, List.setIfInBounds_toArray, List.set_cons_zero, List.set_cons_succ])) | (refine wpList_value_d 16 rfl rfl (.bool true) (run_gtr64 _ _ _ rfl (n : Int) 0 rfl rfl true hg _) ?_; (try simp only [Act.put, List.setIfInBounds_toArray, List.set_cons_zero, List.set_cons_succ])) | (refine wpList_value_d 20 rfl rfl (.slice none 0 0) (run_cut0 bT _ _ rfl none 0 0 0 rfl rfl (Nat.le_refl _) _) ?_; (try simp only [Act.put, List.setIfInBounds_toArray, List.set_cons_zero, List.set_cons_succ])) | (refine wpList_stopb rfl ?_)))
    constructor
    refine wpList_app_make bT Try.underlying3 22 rfl rfl _ _ rfl rfl n rfl HP.out HN.out ?_
    intro g cap w1 eg HO hc G
    simp only [Act.put, List.setIfInBounds_toArray, List.set_cons_zero, List.set_cons_succ]
    go_wp2_with (first | (with_reducible refine wpList_at ?_; first | (refine wpList_value_d 25 rfl rfl (.slice (some ⟨g, 0, none⟩) 0 cap) (run_cut0 bT _ _ rfl (some ⟨g, 0, none⟩) n cap 0 rfl rfl (Nat.zero_le _) _) ?_; (try simp only [Act.put, List.setIfInBounds_toArray, List.set_cons_zero, List.set_cons_succ]))))
    go_ret
    exact ⟨some ⟨g, 0, none⟩, cap, rfl, by rw [eg]; exact HO, G⟩
set_option maxHeartbeats 3200000 in
theorem concat_any (ao : Option Addr) (cap : Nat) (l : List (List Nat)) (w : World) (HC : LC w ao cap l) (hlen : l.flatten.length ≤ 140737488355000) (hll : l.length ≤ 140737488355000) : Calls Try.prog 22 #[.slice ao l.length cap] w (AppP w w.heap.size l.flatten) := by
  obtain ⟨B, hB⟩ : ∃ B, w.heap.size = B := ⟨_, rfl⟩
  have HB : Shut (w.heap.size = B) := ⟨hB⟩
  have hBw : B ≤ w.heap.size := by omega
  rw [hB]
  have HLE : Shut (l.flatten.length ≤ 140737488355000) := ⟨hlen⟩
  clear hB hlen
  go_enter Try.func22, Try.ntmps22
  go_wp2
  go_loopw [3, 11] (fun v i wr => ∃ (j : Nat), j ≤ l.length ∧ i = .int .i64 (j : Int) ∧ v = .int .i64 (((l.take j).flatten.length : Nat) : Int) ∧ wr = w) (fun _ i _ => l.length - (intOf i).toNat)
  case atStart => exact ⟨0, by omega, rfl, rfl, rfl⟩
  case round =>
    obtain ⟨j, hj, rfl, rfl, rfl⟩ := hrel
    cases hlt : decide ((j : Int) < (l.length : Int))
    · have ej : j = l.length := by simp at hlt; omega
      have ET : Shut ((l.take j).flatten.length = l.flatten.length) := ⟨by rw [ej, List.take_length]⟩
      clear ej
      obtain ⟨n, hn⟩ : ∃ n, (l.take j).flatten.length = n := ⟨_, rfl⟩
      rw [hn] at ET
      simp only [hn]
      clear hn
      have HN : Shut (n ≤ 140737488355000) := ⟨by rw [ET.out]; exact HLE.out⟩
      go_wp2_with (first | (go_at_call 34; refine (grow_nil n HN.out wr).mono ?_; rintro e wN ⟨aoG, capG, rfl, HO0, GG⟩) | (with_reducible refine wpList_at ?_; first | (refine wpList_value_d 12 rfl rfl (.bool false) (run_lss64 _ _ _ rfl (j : Int) (l.length : Int) rfl rfl false hlt _) ?_; (try simp only [Act.put, List.setIfInBounds_toArray, List.set_cons_zero, List.set_cons_succ]))))
      replace HO0 : OB wN 5 .u8 B aoG capG [] := by rw [← HB.out]; exact HO0
      have BB0 : Below B wr wN := by rw [← HB.out]; exact GG
      clear GG
      go_loopw [6, 27] (fun v i wr' => ∃ (j : Nat) (ao : Option Addr) (cap : Nat) (L : List Nat), j ≤ l.length ∧ i = .int .i64 (j : Int) ∧ v = .slice ao L.length cap ∧ Shut (L = (l.take j).flatten) ∧ OB wr' 5 .u8 B ao cap L ∧ Below B wr wr') (fun _ i _ => l.length - (intOf i).toNat)
      case atStart => exact ⟨0, aoG, capG, [], by omega, rfl, rfl, ⟨by simp⟩, HO0, BB0⟩
      case round =>
        obtain ⟨j2, ao1, cap1, L, hj2, rfl, rfl, EL, HO, BB⟩ := hrel
        cases hlt2 : decide ((j2 : Int) < (l.length : Int))
        · have ej : j2 = l.length := by simp at hlt2; omega
          have EF : Shut (L = l.flatten) := ⟨by rw [EL.out, ej, List.take_length]⟩
          clear ej
          go_wp2_with (first | (with_reducible refine wpList_at ?_; first | (refine wpList_value_d 28 rfl rfl (.bool false) (run_lss64 _ _ _ rfl (j2 : Int) (l.length : Int) rfl rfl false hlt2 _) ?_; (try simp only [Act.put, List.setIfInBounds_toArray, List.set_cons_zero, List.set_cons_succ]))))
          go_ret
          exact ⟨ao1, cap1, L, rfl, EF, HO, BB⟩
        · have hjl : j2 < l.length := by simp at hlt2; omega
          have HE : Shut _ := ⟨flat_step l j2 hjl⟩
          have hL1 := flat_len l (j2 + 1)
          rw [HE.out, ← EL.out, List.length_append] at hL1
          have h140 := HLE.out
          obtain ⟨ad, ao2, cap2, rfl, hc, hs⟩ := HC.at hjl
          replace hc : Shut _ := ⟨(World.cell?_of_block (BB.block _ (by rw [← HB.out]; exact World.block_lt_of_cell? _ _ hc))).trans hc⟩
          obtain ⟨x, hx'⟩ : ∃ x, l.getD j2 [] = x := ⟨_, rfl⟩
          rw [hx'] at HE hc hs hL1
          clear hx'
          have HD : Shut (L.length + x.length ≤ 140737488355000) := ⟨by omega⟩
          clear h140 hL1
          go_wp2_with (first | (with_reducible refine wpList_at ?_; first | (refine wpList_value_d 28 rfl rfl (.bool true) (run_lss64 _ _ _ rfl (j2 : Int) (l.length : Int) rfl rfl true hlt2 _) ?_; (try simp only [Act.put, List.setIfInBounds_toArray, List.set_cons_zero, List.set_cons_succ])) | (refine wpList_value_d 29 rfl rfl (.pointer (some (ad.add j2))) (run_idx23 _ _ rfl ad l.length cap j2 rfl rfl hjl _) ?_; (try simp only [Act.put, List.setIfInBounds_toArray, List.set_cons_zero, List.set_cons_succ])) | (refine wpList_value_d 30 rfl rfl (.slice ao2 x.length cap2) (run_ld24 _ rfl (ad.add j2) rfl _ _ hc.out) ?_; (try simp only [Act.put, List.setIfInBounds_toArray, List.set_cons_zero, List.set_cons_succ])) | (refine wpList_stop rfl ?_)))
          constructor
          have hsN := hs.gro (by rw [← HB.out] at BB; exact BB)
          refine wpList_app bT 33 rfl rfl _ _ rfl rfl HO rfl hsN (by have := HD.out; omega) (by decide) (Nat.le_trans hBw BB.size) ?_
          intro ao4 cap4 L4 w4 E4 HO4 B4
          clear HO hsN
          simp only [Act.put, List.setIfInBounds_toArray, List.set_cons_zero, List.set_cons_succ]
          go_wp2
          go_light
          go_roundw
          case rel => exact ⟨j2 + 1, ao4, cap4, L4, by omega, by go_num, rfl, ⟨by rw [E4.out, EL.out, HE.out]⟩, HO4, Below.trans BB B4⟩
          case measure => simp [intOf]; omega
    · have hjl : j < l.length := by simp at hlt; omega
      have HE : Shut _ := ⟨flat_step l j hjl⟩
      have hL1 := flat_len l (j + 1)
      rw [HE.out, List.length_append] at hL1
      have h140 := HLE.out
      obtain ⟨ad, ao2, cap2, rfl, hc, hs⟩ := HC.at hjl
      replace hc : Shut _ := ⟨hc⟩
      have HS : Shut ((l.take (j + 1)).flatten.length = (l.take j).flatten.length + (l.getD j []).length) := ⟨by rw [HE.out, List.length_append]⟩
      obtain ⟨x, hx'⟩ : ∃ x, l.getD j [] = x := ⟨_, rfl⟩
      rw [hx'] at HE hc hs hL1 HS
      clear hx'
      obtain ⟨n, hn⟩ : ∃ n, (l.take j).flatten.length = n := ⟨_, rfl⟩
      rw [hn] at hL1 HS
      simp only [hn]
      clear hn
      have hneg : decide (((n + x.length : Nat) : Int) < 0) = false := decide_eq_false (by omega)
      have HS1 : Shut (-9223372036854775808 ≤ ((n + x.length : Nat) : Int) ∧ ((n + x.length : Nat) : Int) < 9223372036854775808) := ⟨by omega⟩
      clear h140 hL1
      go_wp2_with (first | (with_reducible refine wpList_at ?_; first | (refine wpList_value_d 12 rfl rfl (.bool true) (run_lss64 _ _ _ rfl (j : Int) (l.length : Int) rfl rfl true hlt _) ?_; (try simp only [Act.put, List.setIfInBounds_toArray, List.set_cons_zero, List.set_cons_succ])) | (refine wpList_value_d 13 rfl rfl (.pointer (some (ad.add j))) (run_idx23 _ _ rfl ad l.length cap j rfl rfl hjl _) ?_; (try simp only [Act.put, List.setIfInBounds_toArray, List.set_cons_zero, List.set_cons_succ])) | (refine wpList_value_d 14 rfl rfl (.slice ao2 x.length cap2) (run_ld24 _ rfl (ad.add j) rfl _ _ hc.out) ?_; (try simp only [Act.put, List.setIfInBounds_toArray, List.set_cons_zero, List.set_cons_succ])) | (refine wpList_value_d 18 rfl rfl (.int .i64 ((n + x.length : Nat) : Int)) (run_add64 _ _ _ rfl (n : Int) (x.length : Int) _ rfl rfl (Int.natCast_add n x.length).symm HS1.out.1 HS1.out.2 _) ?_; (try simp only [Act.put, List.setIfInBounds_toArray, List.set_cons_zero, List.set_cons_succ])) | (refine wpList_value_d 20 rfl rfl (.bool false) (run_lss64 _ _ _ rfl ((n + x.length : Nat) : Int) 0 rfl rfl false hneg _) ?_; (try simp only [Act.put, List.setIfInBounds_toArray, List.set_cons_zero, List.set_cons_succ]))))
      go_light
      go_roundw
      case rel => exact ⟨j + 1, by omega, by go_num, by rw [HS.out], trivial⟩
      case measure => simp [intOf]; omega
end Go.Proofs.Ythmcnlmphikicab
