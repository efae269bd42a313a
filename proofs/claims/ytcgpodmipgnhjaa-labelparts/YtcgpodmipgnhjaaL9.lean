/- Labels: the identity of a label. -/
import Derived.Test.YtcgpodmipgnhjaaL8
namespace Go.Proofs.Ytcgpodmipgnhjaa
open Go.RowKit

theorem wrap_range (n : Int) : 0 ≤ IntKind.u64.wrap n ∧ IntKind.u64.wrap n < 18446744073709551616 := by
  simp [IntKind.wrap, IntKind.bits, IntKind.signed]
  omega
def xorN (a b : Nat) : Nat := (bits .xor .u64 (a : Int) (b : Int)).toNat
def mulN (a c : Nat) : Nat := (IntKind.u64.wrap ((a : Int) * (c : Int))).toNat
def plusN (a b : Nat) : Nat := (IntKind.u64.wrap ((a : Int) + (b : Int))).toNat
theorem xorN_spec (a b : Nat) : ((xorN a b : Nat) : Int) = bits .xor .u64 (a : Int) (b : Int) ∧ xorN a b < half := by
  have h := wf_bits .xor .u64 (a : Int) (b : Int)
  have e1 : IntKind.u64.min = 0 := rfl
  have e2 : IntKind.u64.max = 18446744073709551615 := rfl
  simp [Lit.wf, e1, e2] at h
  unfold xorN half
  omega
theorem mulN_spec (a c : Nat) : ((mulN a c : Nat) : Int) = IntKind.u64.wrap ((a : Int) * (c : Int)) ∧ mulN a c < half := by
  have h := wrap_range ((a : Int) * (c : Int))
  unfold mulN half
  omega
theorem plusN_spec (a b : Nat) : ((plusN a b : Nat) : Int) = IntKind.u64.wrap ((a : Int) + (b : Int)) ∧ plusN a b < half := by
  have h := wrap_range ((a : Int) + (b : Int))
  unfold plusN half
  omega
/-- One rune is stirred in. -/
def stir (p : Nat × Nat) (r : Nat) : Nat × Nat :=
  (xorN (mulN (xorN p.1 r) 14029467366897019727) (mulN (plusN p.2 (mulN (xorN p.1 r) 14029467366897019727)) 11400714819323198485 / 536870912), mulN (plusN p.2 (mulN (xorN p.1 r) 14029467366897019727)) 11400714819323198485)
def stirL (l : List Nat) : Nat × Nat := l.foldl stir (11400714819323198485, 14029467366897019727)
theorem stirL_step (l : List Nat) (k : Nat) (h : k < l.length) : stirL (l.take (k + 1)) = stir (stirL (l.take k)) (l.getD k 0) := by
  rw [take_one l k h]
  unfold stirL
  rw [List.foldl_append]
  rfl
theorem stirL_lt (l : List Nat) : ∀ k, k ≤ l.length → (stirL (l.take k)).1 < half ∧ (stirL (l.take k)).2 < half
  | 0, _ => by simp [stirL, half]
  | k + 1, h => by
    rw [stirL_step l k (by omega)]
    exact ⟨(xorN_spec _ _).2, (mulN_spec _ _).2⟩
def idN (s : ByteArray) : Nat := if labE s = 0 then (stirL (labL s)).1 * half + (stirL (labL s)).2 else 0
theorem run_xor {o : Oper} {A : Act} (x y : Operand) (t2 : TypeId) (ho : o.op = .binOp .xor 41 x y t2) (a b : Nat) (hx : A.eval x = .int .u64 (a : Int)) (hy : A.eval y = .int .u64 (b : Int)) (w : World) : (execOp A.eval o).run Try.prog w = .ok (.value (.int .u64 (xorN a b : Int))) w := by
  refine run_binop .xor 41 x y t2 ho _ _ _ hx hy (by simp [eqGuard]) ?_
  rw [(xorN_spec a b).1]
  simp [go_sem]
theorem run_mulc {o : Oper} {A : Act} (x y : Operand) (t2 : TypeId) (ho : o.op = .binOp .mul 41 x y t2) (a c : Nat) (hx : A.eval x = .int .u64 (a : Int)) (hy : A.eval y = .int .u64 (c : Int)) (w : World) : (execOp A.eval o).run Try.prog w = .ok (.value (.int .u64 (mulN a c : Int))) w := by
  refine run_binop .mul 41 x y t2 ho _ _ _ hx hy (by simp [eqGuard]) ?_
  rw [(mulN_spec a c).1]
  simp [go_sem]
theorem run_plus {o : Oper} {A : Act} (x y : Operand) (t2 : TypeId) (ho : o.op = .binOp .add 41 x y t2) (a b : Nat) (hx : A.eval x = .int .u64 (a : Int)) (hy : A.eval y = .int .u64 (b : Int)) (w : World) : (execOp A.eval o).run Try.prog w = .ok (.value (.int .u64 (plusN a b : Int))) w := by
  refine run_binop .add 41 x y t2 ho _ _ _ hx hy (by simp [eqGuard]) ?_
  rw [(plusN_spec a b).1]
  simp [go_sem]
theorem run_shr29 {o : Oper} {A : Act} (x y : Operand) (t2 : TypeId) (ho : o.op = .binOp .shr 41 x y t2) (n : Nat) (hx : A.eval x = .int .u64 (n : Int)) (hy : A.eval y = .int .u64 29) (w : World) : (execOp A.eval o).run Try.prog w = .ok (.value (.int .u64 ((n / 536870912 : Nat) : Int))) w := by
  refine run_binop .shr 41 x y t2 ho _ _ _ hx hy (by simp [eqGuard]) ?_
  simp [go_sem]
theorem run_conv64 {o : Oper} {A : Act} (x : Operand) (ho : o.op = .convert 21 41 x) (n : Nat) (hn : n ≤ 2147483647) (hx : A.eval x = .int .i32 (n : Int)) (w : World) : (execOp A.eval o).run Try.prog w = .ok (.value (.int .u64 (n : Int))) w := by
  refine run_conv_op x ho _ hx _ ?_
  have h := wrap_u64 n (by unfold half; omega)
  simp [go_sem, h]
theorem rl_le (s : ByteArray) : ∀ f p, ∀ r ∈ rl s f p, r ≤ 2147483647
  | 0, _, r, h => by cases h
  | f + 1, p, r, h => by
    unfold rl at h
    split at h
    · rcases List.mem_cons.1 h with h | h
      · rw [h]; exact decode_le s p
      · exact rl_le s f _ r h
    · cases h
theorem labL_le (s : ByteArray) : ∀ r ∈ labL s, r ≤ 2147483647 := by
  intro r hr
  unfold labL at hr
  split at hr
  · obtain ⟨x, hx, rfl⟩ := List.mem_map.1 hr
    have := rl_le s _ _ x hx
    unfold cntN
    split <;> omega
  · cases hr
theorem labL_ne (s : ByteArray) (h : labE s = 0) : labL s ≠ [] := by
  have h0 : s.size ≠ 0 := fun e => by rw [(lab_empty s e).1] at h; cases h
  have := rl_ne s h0
  rw [labL, if_pos h]
  intro e
  rw [List.map_eq_nil_iff] at e
  rw [e] at this
  simp at this
theorem getD_mem (l : List Nat) (k : Nat) (h : k < l.length) : l.getD k 0 ∈ l := by
  rw [List.getD_eq_getElem?_getD, List.getElem?_eq_getElem h]
  exact List.getElem_mem h
theorem run_build_0 {o : Oper} {A : Act} (ho : o.op = .build 32 #[]) (w : World) : (execOp A.eval o).run Try.prog w = .ok (.value (.agg (idA 0))) w := by
  have h1 : (Instr.build 32 #[]).run Try.prog w = .ok (.agg (idA 0)) w := by kernel_rfl
  unfold execOp
  simp only [ho, List.map_toArray, List.map_nil, Sem.run_bind, h1, Result.andThen_ok, Sem.run_pure]

set_option maxHeartbeats 1600000 in
theorem labid_any (s : ByteArray) (w : World) : Calls Try.prog 15 #[.string s] w fun e w' => e = .returned (.tuple #[idV (idN s), .int .i64 (labE s)]) ∧ Gro w w' := by
  have GG : Gro w w := Gro.refl w
  have HI : Shut (idN s = if labE s = 0 then (stirL (labL s)).1 * half + (stirL (labL s)).2 else 0) := ⟨rfl⟩
  have HN : Shut (labE s = 0 → labL s ≠ []) := ⟨labL_ne s⟩
  have HM : Shut (∀ r ∈ labL s, r ≤ 2147483647) := ⟨labL_le s⟩
  unfold idV
  go_enter Try.func15, Try.ntmps15
  go_wp2_with (first | (with_reducible refine wpList_at ?_; first | (refine wpList_alloc_d 2 rfl rfl 32 rfl _ zero23 ?_; intro w1 g1 G1 e1 k1; have b1 := size_base GG e1; replace GG := GG.trans G1; clear G1 e1; (try simp only [Act.put, List.setIfInBounds_toArray, List.set_cons_zero, List.set_cons_succ]))))
  refine (runes_any s _).mono ?_
  rintro e wN ⟨v, rfl, hR, GN⟩
  replace k1 := GN.has k1
  replace GG := GG.trans GN
  clear GN
  obtain ⟨f, hf⟩ : ∃ f, labE s = f := ⟨_, rfl⟩
  obtain ⟨l, hl⟩ : ∃ l, labL s = l := ⟨_, rfl⟩
  have hlen := labL_len s
  have HE : Shut (labE s = f) := ⟨hf⟩
  rw [hf, hl] at HI HN
  rw [hl] at HM hR hlen
  try rw [hf]
  clear hf hl
  by_cases h0 : f = 0
  · subst h0
    have hne := HN.out rfl
    have HI2 : Shut (idN s = (stirL l).1 * half + (stirL l).2) := ⟨by rw [HI.out, if_pos rfl]⟩
    clear HI HN
    rcases hR.out with ⟨_, h1⟩ | ⟨g, cap, cs, rfl, k2, hcs⟩
    · exact absurd h1 hne
    · have HC : Shut (∀ j, j < l.length → cs[j]? = some (.int .i32 (l.getD j 0 : Int))) := ⟨hcs⟩
      have dg : g1 ≠ g := fun e => by rw [e, k2] at k1; simp at k1
      clear hcs hR hne
      go_wp2
      have G0 := GG
      clear GG
      go_loopw [6, 7, 21] (fun p q i wr => ∃ k : Nat, k ≤ l.length ∧ i = .int .i64 k ∧ p = .int .u64 ((stirL (l.take k)).1 : Int) ∧ q = .int .u64 ((stirL (l.take k)).2 : Int) ∧ Gro wN wr) (fun _ _ i _ => l.length - (intOf i).toNat)
      case atStart => exact ⟨0, by omega, rfl, rfl, rfl, Gro.refl _⟩
      case round =>
        rename_i wr
        obtain ⟨k, hk, rfl, rfl, rfl, GG⟩ := hrel
        replace k1 := GG.has k1
        replace k2 := GG.has k2
        have GR := GG
        replace GG := G0.trans GG
        cases hlt : decide ((k : Int) < (l.length : Int))
        · have ek : k = l.length := by simp at hlt; omega
          have hb := stirL_lt l l.length (Nat.le_refl _)
          have et : l.take k = l := by rw [ek, List.take_length]
          rw [List.take_length] at hb
          rw [et]
          go_wp2_with fail
          refine (joined_any _ _ hb.1 hb.2 _).mono ?_
          rintro e wN ⟨rfl, GN⟩
          replace k1 := GN.has k1
          replace GG := GG.trans GN
          clear GN
          go_wp2_with (first | (with_reducible refine wpList_at ?_; first | (refine wpList_store_agg rfl rfl 32 _ _ rfl g1 rfl _ rfl 32 _ k1 (size23' _) (by simp only [idA_size]) (idA_one _) ?_; intro wN SN; replace k1 := SN.new; replace GG := GG.store SN b1; clear SN)))
          exact bodyPost_ret (v := .tuple #[.agg (idA (idN s)), .int .i64 0]) (results_cell_tmp Try.results15 _ _ g1 32 _ (0, 0) _ rfl _ rfl (by rw [HI2.out]; exact k1) Try.underlying32 rfl (size23' _)) rfl ⟨by rw [HE.out], GG⟩
        · have hkl : k < l.length := by simp at hlt; omega
          have hcl := HM.out _ (getD_mem l k hkl)
          have HS : Shut (stirL (l.take (k + 1)) = stir (stirL (l.take k)) (l.getD k 0)) := ⟨stirL_step l k hkl⟩
          have HG : Shut (cs[k]? = some (.int .i32 (l.getD k 0 : Int))) := ⟨HC.out k hkl⟩
          obtain ⟨P, hP⟩ : ∃ P, stirL (l.take k) = P := ⟨_, rfl⟩
          rw [hP] at HS ⊢
          obtain ⟨X, Y⟩ := P
          generalize l.getD k 0 = c at *
          clear hP
          go_wp2_with (first | (with_reducible refine wpList_at ?_; first | (refine wpList_value_d 23 rfl rfl (.pointer (some ⟨g, k, none⟩)) (run_runeAt _ _ rfl g _ _ k hkl rfl rfl _) ?_; (try simp only [Act.put, List.setIfInBounds_toArray, List.set_cons_zero, List.set_cons_succ])) | (refine wpList_value_d 24 rfl rfl (.int .i32 (c : Int)) (run_runeLoad _ rfl g k rfl _ _ 21 _ k2 HG.out) ?_; (try simp only [Act.put, List.setIfInBounds_toArray, List.set_cons_zero, List.set_cons_succ])) | (refine wpList_value_d 27 rfl rfl (.int .u64 (c : Int)) (run_conv64 _ rfl c hcl rfl _) ?_; (try simp only [Act.put, List.setIfInBounds_toArray, List.set_cons_zero, List.set_cons_succ])) | (refine wpList_value_d 28 rfl rfl (.int .u64 (xorN X c : Int)) (run_xor _ _ _ rfl X c rfl rfl _) ?_; (try simp only [Act.put, List.setIfInBounds_toArray, List.set_cons_zero, List.set_cons_succ])) | (refine wpList_value_d 29 rfl rfl (.int .u64 (mulN (xorN X c) 14029467366897019727 : Int)) (run_mulc _ _ _ rfl (xorN X c) 14029467366897019727 rfl rfl _) ?_; (try simp only [Act.put, List.setIfInBounds_toArray, List.set_cons_zero, List.set_cons_succ])) | (refine wpList_value_d 32 rfl rfl (.int .u64 (plusN Y (mulN (xorN X c) 14029467366897019727) : Int)) (run_plus _ _ _ rfl Y (mulN (xorN X c) 14029467366897019727) rfl rfl _) ?_; (try simp only [Act.put, List.setIfInBounds_toArray, List.set_cons_zero, List.set_cons_succ])) | (refine wpList_value_d 33 rfl rfl (.int .u64 (mulN (plusN Y (mulN (xorN X c) 14029467366897019727)) 11400714819323198485 : Int)) (run_mulc _ _ _ rfl (plusN Y (mulN (xorN X c) 14029467366897019727)) 11400714819323198485 rfl rfl _) ?_; (try simp only [Act.put, List.setIfInBounds_toArray, List.set_cons_zero, List.set_cons_succ])) | (refine wpList_value_d 36 rfl rfl (.int .u64 ((mulN (plusN Y (mulN (xorN X c) 14029467366897019727)) 11400714819323198485 / 536870912 : Nat) : Int)) (run_shr29 _ _ _ rfl (mulN (plusN Y (mulN (xorN X c) 14029467366897019727)) 11400714819323198485) rfl rfl _) ?_; (try simp only [Act.put, List.setIfInBounds_toArray, List.set_cons_zero, List.set_cons_succ])) | (refine wpList_value_d 37 rfl rfl (.int .u64 (xorN (mulN (xorN X c) 14029467366897019727) (mulN (plusN Y (mulN (xorN X c) 14029467366897019727)) 11400714819323198485 / 536870912) : Int)) (run_xor _ _ _ rfl (mulN (xorN X c) 14029467366897019727) (mulN (plusN Y (mulN (xorN X c) 14029467366897019727)) 11400714819323198485 / 536870912) rfl rfl _) ?_; (try simp only [Act.put, List.setIfInBounds_toArray, List.set_cons_zero, List.set_cons_succ]))))
          go_light
          go_roundw
          case rel =>
            exact ⟨k + 1, by omega, by go_num, by rw [HS.out]; rfl, by rw [HS.out]; rfl, GR⟩
          case measure => simp [intOf]; omega
  · have H2 : Shut (idN s = 0) := ⟨by rw [HI.out, if_neg h0]⟩
    clear HI HN
    go_wp2_with (first | (with_reducible refine wpList_at ?_; first | (refine wpList_value_d 17 rfl rfl (.agg (idA 0)) (run_build_0 rfl _) ?_; (try simp only [Act.put, List.setIfInBounds_toArray, List.set_cons_zero, List.set_cons_succ])) | (refine wpList_store_agg rfl rfl 32 _ _ rfl g1 rfl _ rfl 32 _ k1 (size23' _) (by simp only [idA_size]) (idA_one _) ?_; intro wN SN; replace k1 := SN.new; replace GG := GG.store SN b1; clear SN)))
    exact bodyPost_ret (v := .tuple #[.agg (idA 0), .int .i64 f]) (results_cell_tmp Try.results15 _ _ g1 32 _ (0, 0) _ rfl _ rfl k1 Try.underlying32 rfl (size23' _)) rfl ⟨by rw [H2.out, HE.out], GG⟩
end Go.Proofs.Ytcgpodmipgnhjaa
