/- Labels: what is folded stays. -/
import Derived.Test.YtcgpodmipgnhjaaL10
namespace Go.Proofs.Ytcgpodmipgnhjaa
open Go.RowKit

theorem enc_pos (i : Int) : 1 ≤ (Utf8.encode i).size := by
  unfold Utf8.encode
  simp only
  repeat' split
  all_goals simp [ByteArray.size]
theorem fold_app (ns : List Int) : ∀ A : ByteArray, ns.foldl (fun r n => r ++ Utf8.encode n) A = A ++ runesBytes ns := by
  induction ns with
  | nil => intro A; simp [runesBytes]
  | cons n ns ih =>
    intro A
    rw [List.foldl_cons, ih]
    have e : ByteArray.empty ++ Utf8.encode n = Utf8.encode n := by simp
    have h2 : runesBytes (n :: ns) = Utf8.encode n ++ runesBytes ns := by
      show List.foldl _ ByteArray.empty (n :: ns) = _
      rw [List.foldl_cons, ih, e]
    rw [h2, ByteArray.append_assoc]
theorem strB_cons (r : Nat) (l : List Nat) : strB (r :: l) = Utf8.encode (r : Int) ++ strB l := by
  unfold strB
  rw [List.map_cons]
  have h := fold_app (l.map fun r : Nat => (r : Int)) (ByteArray.empty ++ Utf8.encode (r : Int))
  have e : ByteArray.empty ++ Utf8.encode (r : Int) = Utf8.encode (r : Int) := by simp
  rw [e] at h
  rw [← h]
  show List.foldl _ ByteArray.empty (_ :: _) = _
  rw [List.foldl_cons, e]
theorem rl_str (l : List Nat) : ∀ (A : ByteArray) (f : Nat), (∀ r ∈ l, Utf8.valid (r : Int) = true) → (strB l).size ≤ f → rl (A ++ strB l) f A.size = l := by
  induction l with
  | nil =>
    intro A f _ _
    apply rl_end
    have e : strB [] = ByteArray.empty := rfl
    rw [e]
    simp
  | cons r l ih =>
    intro A f hv hf
    rw [strB_cons] at hf ⊢
    have hp := enc_pos (r : Int)
    rw [ByteArray.size_append] at hf
    have hd := dec_enc A (strB l) r (hv r List.mem_cons_self)
    cases f with
    | zero => omega
    | succ f =>
      rw [rl, if_pos (by rw [ByteArray.size_append, ByteArray.size_append]; omega), hd]
      have h2 := ih (A ++ Utf8.encode (r : Int)) f (fun x hx => hv x (List.mem_cons_of_mem _ hx)) (by omega)
      rw [ByteArray.append_assoc, ByteArray.size_append] at h2
      rw [h2]
theorem runeL_str (l : List Nat) (hv : ∀ r ∈ l, Utf8.valid (r : Int) = true) : runeL (strB l) = l := by
  have h := rl_str l ByteArray.empty (strB l).size hv (Nat.le_refl _)
  have e : ByteArray.empty ++ strB l = strB l := by simp
  rw [e] at h
  exact h
theorem rl_valid (s : ByteArray) : ∀ f p, ∀ r ∈ rl s f p, Utf8.valid (r : Int) = true
  | 0, _, r, h => by cases h
  | f + 1, p, r, h => by
    unfold rl at h
    split at h
    · rcases List.mem_cons.1 h with h | h
      · rw [h]; exact dec_valid s p
      · exact rl_valid s f _ r h
    · cases h
theorem lab_ok (s : ByteArray) (h : labE s = 0) : s.size ≠ 0 ∧ (runeL s).length ≤ 24 ∧ ∀ r ∈ runeL s, okR r = true := by
  unfold labE at h
  by_cases h0 : s.size = 0
  · rw [if_pos h0] at h; cases h
  · rw [if_neg h0] at h
    by_cases h1 : ((runeL s).take 25).all okR = true
    · rw [if_pos h1] at h
      by_cases h2 : 24 < (runeL s).length
      · rw [if_pos h2] at h; cases h
      · refine ⟨h0, by omega, ?_⟩
        rw [List.take_of_length_le (by omega), List.all_eq_true] at h1
        exact h1
    · rw [if_neg h1] at h; cases h
theorem cnt_ok (r : Nat) (h : okR r = true) : okR (cntN r) = true := by
  rw [okR_iff] at h ⊢
  unfold cntN
  split <;> omega
theorem cnt_cnt (r : Nat) : cntN (cntN r) = cntN r := by
  unfold cntN
  by_cases h : 65 ≤ r ∧ r ≤ 90
  · rw [if_pos h, if_neg (by omega)]
  · rw [if_neg h, if_neg h]
theorem cnt_valid (r : Nat) (h : Utf8.valid (r : Int) = true) : Utf8.valid (cntN r : Int) = true := by
  unfold cntN
  split
  · exact valid_of _ (by omega)
  · exact h
theorem fold_lab (s : ByteArray) (h : labE s = 0) : labE (foldB s) = 0 ∧ labL (foldB s) = labL s := by
  obtain ⟨h0, hl, hk⟩ := lab_ok s h
  have el : labL s = (runeL s).map cntN := by rw [labL, if_pos h]
  have hne := labL_ne s h
  have hr : runeL (foldB s) = labL s := runeL_str _ fun x hx => by
    rw [el] at hx
    obtain ⟨r, hr, rfl⟩ := List.mem_map.1 hx
    exact cnt_valid r (rl_valid s _ _ r hr)
  have hz : (foldB s).size ≠ 0 := fun e => hne (by
    rw [← hr]
    exact rl_end _ _ _ (by omega))
  obtain ⟨h1, h2⟩ := lab_done (foldB s) hz (labL s) hr (labL_len s) fun x hx => by
    rw [el] at hx
    obtain ⟨r, hr, rfl⟩ := List.mem_map.1 hx
    exact cnt_ok r (hk r hr)
  refine ⟨h1, ?_⟩
  rw [h2, el, List.map_map]
  apply List.map_congr_left
  intro r _
  exact cnt_cnt r
theorem fold_fold (s : ByteArray) (h : labE s = 0) : foldB (foldB s) = foldB s := by
  unfold foldB
  have := (fold_lab s h).2
  unfold foldB at this
  rw [this]
theorem id_fold (s : ByteArray) (h : labE s = 0) : idN (foldB s) = idN s := by
  obtain ⟨h1, h2⟩ := fold_lab s h
  unfold idN
  rw [h1, h2, h]
theorem same_fold (s : ByteArray) (h : labE s = 0) : sameP s (foldB s) = true := by
  unfold sameP
  rw [h, (fold_lab s h).1, fold_fold s h]
  simp
theorem fold_none (s : ByteArray) (h : labE s ≠ 0) : foldB s = { data := #[] } ∧ sameP s s = false := by
  have : labL s = [] := by rw [labL, if_neg h]
  refine ⟨by unfold foldB; rw [this]; rfl, ?_⟩
  unfold sameP
  simp [h]
theorem half_lt (x y : Nat) (hx : x < half) (hy : y < half) : x * half + y < top := by
  unfold half top at *
  omega
theorem idN_lt (s : ByteArray) : idN s < top := by
  unfold idN
  split
  · have h := stirL_lt (labL s) (labL s).length (Nat.le_refl _)
    rw [List.take_length] at h
    exact half_lt _ _ h.1 h.2
  · decide

section
variable {ops : Array Oper} {o : Oper} {rest : List Oper} {A : Act} {w : World} {Q : Exit → Act → World → Prop}
theorem wl_load_id (hw : Region.wanted o (yielded ops A.tmps) = true) (x : Operand) (ho : o.op = .load 32 x) (g : Nat) (hx : A.eval x = .pointer (some ⟨g, 0, none⟩)) (n : Nat) (hg : w.heap[g]? = some (.cells (idA n) 32 (0, 0)))
    (h : wpList Try.prog ops Q rest (A.put o.dst (.agg (idA n))) w) : wpList Try.prog ops Q (o :: rest) A w :=
  BigFrame.wpList_want hw fun _ hK => by
    unfold Oper.wp execOp
    simp only [ho, hx, Instr.loadAt, Instr.sureAddr, Sem.run_bind, Sem.run_pure, Result.andThen_ok, run_loadVar_at w g 0 16 32 32 (idA n) (0, 0) _ hg Try.underlying32 rfl size23 (by rw [idA_size]; omega), extract_id]
    exact hK _ _ h
theorem wl_eql_id (hw : Region.wanted o (yielded ops A.tmps) = true) (x y : Operand) (t2 : TypeId) (ho : o.op = .binOp .eql 32 x y t2) (n m : Nat) (hx : A.eval x = .agg (idA n)) (hy : A.eval y = .agg (idA m)) (hn : n < top) (hm : m < top) (p : Bool) (hp : decide (n = m) = p)
    (h : wpList Try.prog ops Q rest (A.put o.dst (.bool p)) w) : wpList Try.prog ops Q (o :: rest) A w :=
  BigFrame.wpList_want hw fun _ hK => by
    unfold Oper.wp
    rw [run_eqlop_id x y t2 ho n m hx hy (.bool p) (fun w => by rw [run_eql_id n m hn hm w, hp])]
    exact hK _ _ h
end

set_option maxHeartbeats 1600000 in
theorem twice_any (s : ByteArray) (w : World) : Calls Try.prog 7 #[.string s] w fun e w' => e = .returned (.bool true) ∧ Gro w w' := by
  have GG : Gro w w := Gro.refl w
  by_cases h0 : labE s = 0
  · have h1 := fold_lab s h0
    have h2 := fold_fold s h0
    have h3 := id_fold s h0
    have h4 := same_fold s h0
    have hid := idN_lt s
    obtain ⟨a, ha⟩ : ∃ a, foldB s = a := ⟨_, rfl⟩
    rw [ha] at h1 h2 h3 h4
    obtain ⟨n, hn⟩ : ∃ n, idN s = n := ⟨_, rfl⟩
    rw [hn] at h3 hid
    have H1 : Shut (∀ w, Calls Try.prog 11 #[.string s] w fun e w' => e = .returned (.tuple #[.string a, .int .i64 0]) ∧ Gro w w') := ⟨fun w => val_of (fold_any s w) (tup2 (congrArg _ ha) (congrArg _ h0))⟩
    have H2 : Shut (∀ w, Calls Try.prog 11 #[.string a] w fun e w' => e = .returned (.tuple #[.string a, .int .i64 0]) ∧ Gro w w') := ⟨fun w => val_of (fold_any a w) (tup2 (congrArg _ h2) (congrArg _ h1.1))⟩
    have H3 : Shut (∀ w, Calls Try.prog 15 #[.string s] w fun e w' => e = .returned (.tuple #[idV n, .int .i64 0]) ∧ Gro w w') := ⟨fun w => val_of (labid_any s w) (tup2 (congrArg _ hn) (congrArg _ h0))⟩
    have H4 : Shut (∀ w, Calls Try.prog 15 #[.string a] w fun e w' => e = .returned (.tuple #[idV n, .int .i64 0]) ∧ Gro w w') := ⟨fun w => val_of (labid_any a w) (tup2 (congrArg _ h3) (congrArg _ h1.1))⟩
    have H5 : Shut (∀ w, Calls Try.prog 17 #[.string s, .string a] w fun e w' => e = .returned (.bool true) ∧ Gro w w') := ⟨fun w => val_of (same_any s a w) (congrArg _ h4)⟩
    clear h0 h1 h2 h3 h4 ha hn
    unfold idV at H3 H4
    go_enter Try.func7, Try.ntmps7
    go_wp2_with fail
    refine (H1.out _).mono ?_
    rintro e wN ⟨rfl, GN⟩
    replace GG := GG.trans GN
    clear GN
    go_wp2_with fail
    refine (H2.out _).mono ?_
    rintro e wN ⟨rfl, GN⟩
    replace GG := GG.trans GN
    clear GN
    go_wp2_with fail
    refine (H3.out _).mono ?_
    rintro e wN ⟨rfl, GN⟩
    replace GG := GG.trans GN
    clear GN
    go_wp2_with (first | (with_reducible refine wpList_at ?_; first | (refine wpList_alloc_d 7 rfl rfl 32 rfl _ zero23 ?_; intro w1 g1 G1 e1 k1; have b1 := size_base GG e1; replace GG := GG.trans G1; clear G1 e1; (try simp only [Act.put, List.setIfInBounds_toArray, List.set_cons_zero, List.set_cons_succ])) | (refine wpList_store_agg rfl rfl 32 _ _ rfl _ rfl _ rfl 32 _ k1 (size23' _) (by simp only [idA_size]) (idA_one _) ?_; intro wN SN; replace k1 := SN.new; replace GG := GG.store SN b1; clear SN)))
    refine (H4.out _).mono ?_
    rintro e wN ⟨rfl, GN⟩
    replace k1 := GN.has k1
    replace GG := GG.trans GN
    clear GN
    go_wp2_with (first | (with_reducible refine wpList_at ?_; first | (refine wpList_alloc_d 9 rfl rfl 32 rfl _ zero23 ?_; intro w2 g2 G2 e2 k2; have b2 := size_base GG e2; (try have d12 := lt_new k1 e2); (try replace k1 := G2.has k1); replace GG := GG.trans G2; clear G2 e2; (try simp only [Act.put, List.setIfInBounds_toArray, List.set_cons_zero, List.set_cons_succ])) | (refine wpList_store_agg rfl rfl 32 _ _ rfl _ rfl _ rfl 32 _ k2 (size23' _) (by simp only [idA_size]) (idA_one _) ?_; intro wN SN; (try replace k1 := SN.has (by omega) k1); replace k2 := SN.new; replace GG := GG.store SN b2; clear SN)))
    refine (fixed_any _).mono ?_
    rintro e wN ⟨rfl, GN⟩
    replace k1 := GN.has k1
    replace k2 := GN.has k2
    replace GG := GG.trans GN
    clear GN
    go_wp2_with (first | (with_reducible refine wpList_at ?_; first | (first | (refine wl_load_id rfl _ rfl g1 rfl _ k1 ?_; (try simp only [Act.put, List.setIfInBounds_toArray, List.set_cons_zero, List.set_cons_succ])) | (refine wl_load_id rfl _ rfl g2 rfl _ k2 ?_; (try simp only [Act.put, List.setIfInBounds_toArray, List.set_cons_zero, List.set_cons_succ]))) | (refine wl_eql_id rfl _ _ _ rfl n n rfl rfl hid hid true (decide_eq_true rfl) ?_; (try simp only [Act.put, List.setIfInBounds_toArray, List.set_cons_zero, List.set_cons_succ])) | (refine wl_value_d 48 rfl rfl (.bool true) (run_eqs_op _ _ _ rfl a a rfl rfl true (decide_eq_true rfl) _) ?_; (try simp only [Act.put, List.setIfInBounds_toArray, List.set_cons_zero, List.set_cons_succ]))))
    refine (H5.out _).mono ?_
    rintro e wN ⟨rfl, GN⟩
    replace GG := GG.trans GN
    clear GN
    go_wp2
    go_ret
    exact ⟨rfl, GG⟩
  · obtain ⟨h1, h2⟩ := fold_none s h0
    obtain ⟨f, hf⟩ : ∃ f, labE s = f := ⟨_, rfl⟩
    have H1 : Shut (∀ w, Calls Try.prog 11 #[.string s] w fun e w' => e = .returned (.tuple #[.string { data := #[] }, .int .i64 f]) ∧ Gro w w') := ⟨fun w => val_of (fold_any s w) (tup2 (congrArg _ h1) (congrArg _ hf))⟩
    have H5 : Shut (∀ w, Calls Try.prog 17 #[.string s, .string s] w fun e w' => e = .returned (.bool false) ∧ Gro w w') := ⟨fun w => val_of (same_any s s w) (congrArg _ h2)⟩
    rw [hf] at h0
    clear h1 h2 hf
    go_enter Try.func7, Try.ntmps7
    go_wp2_with fail
    refine (H1.out _).mono ?_
    rintro e wN ⟨rfl, GN⟩
    replace GG := GG.trans GN
    clear GN
    go_wp2_with fail
    refine (fixed_any _).mono ?_
    rintro e wN ⟨rfl, GN⟩
    replace GG := GG.trans GN
    clear GN
    go_wp2_with fail
    refine (H5.out _).mono ?_
    rintro e wN ⟨rfl, GN⟩
    replace GG := GG.trans GN
    clear GN
    go_wp2
    go_ret
    exact ⟨rfl, GG⟩
end Go.Proofs.Ytcgpodmipgnhjaa
