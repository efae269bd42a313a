/- The program's end: what it tells, its frames, how numbers compare. -/
import Derived.Test.YtlfanecaglbomaaBH1
namespace Go.Proofs.Ytlfanecaglbomaa
open Go.RowKit
/-- A new window. -/
def nwE (M : Nat) : PostE := PostE.ex (fun v x => ∃ wp, v = .pointer (some ⟨wp, 0, none⟩) ∧ M ≤ wp ∧ WX 121 (c121 0 Sl.nil 0) x wp M none 0 []) (fun _ _ _ G ⟨g, h1, h2, h3⟩ => ⟨g, h1, h2, h3.gro G⟩)
theorem fill_nw (M : Nat) (v : Value) : (nwE M).fill v = v := rfl
theorem WX.base0 {t : TypeId} {cs : Array Value} {w : World} {p B B' : Nat} (H : WX t cs w p B none 0 []) (h : B' ≤ B) : WX t cs w p B' none 0 [] := WX.new H.box (Nat.le_trans h H.base) H.ty
section
variable {o : Oper} {A : Act}
theorem run_eqN (x y : Operand) (t2 : TypeId) (ho : o.op = .binOp .eql 29 x y t2) (a b c d : Int) (hx : A.eval x = .agg (c29 a b)) (hy : A.eval y = .agg (c29 c d)) (r : Bool) (hr : (decide (a = c) && decide (b = d)) = r) (w : World) : (execOp A.eval o).run Try.prog w = .ok (.value (.bool r)) w := by
  subst hr
  exact run_cmpA .eql 29 x y t2 ho _ _ hx hy (by kernel_rfl) _ (eq27 _ _ _ _ _)
theorem run_neqS {P : Program} (t : TypeId) (x y : Operand) (t2 : TypeId) (ho : o.op = .binOp .neq t x y t2) (hu : P.underlying t = some (.int .i64)) (a b : Int) (hx : A.eval x = .int .i64 a) (hy : A.eval y = .int .i64 b) (r : Bool) (hr : (!decide (a = b)) = r) (w : World) : (execOp A.eval o).run P w = .ok (.value (.bool r)) w :=
  run_neq_k t .i64 x y t2 ho hu a b hx hy r (by subst hr; simp) w
end
def cmpI (a b : Int) : Int := if a < b then -1 else if b < a then 1 else 0
def cmpP (ai an bi bn : Int) : Int := if cmpI ai bi = 0 then cmpI an bn else cmpI ai bi
theorem cmpI_zero {a b : Int} : cmpI a b = 0 ↔ a = b := by unfold cmpI; split <;> (try split) <;> omega
theorem cmpI_neg {a b : Int} : cmpI a b < 0 ↔ a < b := by unfold cmpI; split <;> (try split) <;> omega
theorem cmpI_pos {a b : Int} : 0 < cmpI a b ↔ b < a := by unfold cmpI; split <;> (try split) <;> omega
theorem cmpP_neg (ai an bi bn : Int) : decide (cmpP ai an bi bn < 0) = lessN ai an bi bn := by
  unfold cmpP lessN
  by_cases h : ai = bi
  · rw [if_pos (cmpI_zero.2 h), if_pos h]
    exact decide_eq_decide.2 cmpI_neg
  · rw [if_neg (fun e => h (cmpI_zero.1 e)), if_neg h]
    exact decide_eq_decide.2 cmpI_neg
theorem cmpP_pos (ai an bi bn : Int) : decide (0 < cmpP ai an bi bn) = lessN bi bn ai an := by
  unfold cmpP lessN
  by_cases h : ai = bi
  · rw [if_pos (cmpI_zero.2 h), if_pos h.symm]
    exact decide_eq_decide.2 cmpI_pos
  · rw [if_neg (fun e => h (cmpI_zero.1 e)), if_neg (fun e => h e.symm)]
    exact decide_eq_decide.2 cmpI_pos
set_option maxRecDepth 100000 in
set_option maxHeartbeats 4000000 in
theorem hnew_any (w : World) (id : Nat → Nat) : Calls Try.prog 7 #[.agg (c23 id)] w fun e w' => ∃ p wp, e = .returned (.pointer (some ⟨p, 0, none⟩)) ∧ Gro w w' ∧ w.heap.size ≤ p ∧ w.heap.size ≤ wp ∧ EW w' p wp w.heap.size id false false 0 0 0 0 zF none 0 [] 0 0 := by
  refine s_enter Try.func7 rfl Try.ntmps7 [.agg (c23 id)] [.agg (c23 id), undef, undef, undef, undef, undef, undef] rfl ?_
  have GG := Gro.refl w
  refine wp_seq ?_
  refine wp_region_lit ?_
  refine s_box 1 rfl rfl 23 _ rfl _ rfl (c23 id) rfl ?_
  intro w1 g1 G eg1 kg1
  have bg1 := size_base GG eg1
  replace GG := GG.trans G
  clear G eg1
  refine nr ?_; intro U h; simp only [z0, z1] at h; subst h
  refine s_val 2 rfl rfl (.pointer none) (rfl) ?_
  refine nr ?_; intro U h; simp only [z0, z1] at h; subst h
  refine wpList_nil ?_
  refine then_n ?_
  refine wp_seq ?_
  refine wp_region_exA (A := ?Ax1) 2 [(0, 3), (1, 4)] [.val (.agg (c23 id)), nwE w.heap.size] follows (by kernel_rfl) rfl ?hAx1 (opsA_cons ?o0x1 (opsA_cons ?o1x1 opsA_nil)) ?restx1
  case hAx1 =>
    intro ptrs
    simp only [full, foldSlots, filledE, postE, List.foldl_cons, List.foldl_nil, List.getD_cons_zero, List.getD_cons_succ, fill_val, fill_nw, List.set_cons_zero, List.set_cons_succ]
    exact rfl
  case o0x1 => exact fun _ _ hw _ => opE_value (v := .agg (c23 id)) rfl (run_lda 23 _ rfl g1 0 16 rfl 23 _ (hw.has kg1) _ Try.underlying23 rfl si23 (Nat.le_of_ble_eq_true rfl) _ (by kernel_rfl))
  case o1x1 => exact fun _ _ hw _ => opE_call (nwE w.heap.size) rfl _ 34 Try.call34 rfl rfl _ rfl [] rfl ((new_any _).mono fun e w' ⟨g, he, hg, hz, hk⟩ => ⟨_, he, hg, g, rfl, Nat.le_trans (GG.drew.trans hw).size hz, hk.base0 (GG.drew.trans hw).size⟩)
  intro ptrs w2 GD hxE
  simp only [List.drop_succ_cons, List.drop_zero]
  replace kg1 := GD.has kg1
  replace GG := GG.drew.trans GD
  obtain ⟨⟨wp, hv, hwp, HW⟩, _⟩ := hxE
  simp only [hv]
  clear hv
  clear GD
  refine s_val 5 rfl rfl (.agg (c98 id false false 0 0 0 0 zF (some ⟨wp, 0, none⟩))) (run_bd 98 _ rfl [(0, .agg (c23 id)), (6, .pointer (some ⟨wp, 0, none⟩))] rfl _ (by kernel_rfl)) ?_
  refine nr ?_; intro U h; simp only [z0, z1] at h; subst h
  refine s_box 6 rfl rfl 98 _ rfl _ rfl (c98 id false false 0 0 0 0 zF (some ⟨wp, 0, none⟩)) rfl ?_
  intro w3 g2 G eg2 kg2
  have bg2 := size_base GG eg2
  have dg1g2 := lt_new kg1 eg2
  replace kg1 := G.has kg1
  replace HW := HW.gro G
  replace GG := GG.trans G
  clear G eg2
  refine nr ?_; intro U h; simp only [z0, z1] at h; subst h
  refine s_val 2 rfl rfl (.pointer (some ⟨g2, 0, none⟩)) (rfl) ?_
  refine nr ?_; intro U h; simp only [z0, z1] at h; subst h
  refine wpList_nil ?_
  refine then_n ?_
  refine wp_ret ?_
  refine bodyPost_ret (results_tmp Try.results7 _ _ _) rfl ?_
  exact ⟨g2, wp, rfl, GG, bg2, hwp, kg2, HW⟩
set_option maxRecDepth 100000 in
set_option maxHeartbeats 4000000 in
theorem up_nil (w : World) : Calls Try.prog 28 #[.pointer none] w fun e w' => e = .returned (.bool false) ∧ Gro w w' := by
  refine s_enter Try.func28 rfl Try.ntmps28 [.pointer none] [.pointer none, undef, undef, undef, undef, undef, undef, undef, undef, undef, undef] rfl ?_
  have GG := Gro.refl w
  refine wp_seq ?_
  refine wp_region_lit ?_
  refine s_val 2 rfl rfl (.bool false) (rfl) ?_
  refine nr ?_; intro U h; simp only [z0, z1] at h; subst h
  refine wpList_nil ?_
  refine then_n ?_
  refine wp_seq ?_
  refine wp_region_opq ?_
  intro OPS hY
  have y2 := hY 2 5 rfl
  clear hY
  refine s_val 3 rfl rfl (.pointer none) (rfl) ?_
  refine nr ?_; intro U h; simp only [z0, z1] at h; subst h
  refine s_val 4 rfl rfl (.bool false) (run_nenn 25 _ _ _ rfl rfl rfl Try.underlying25 _) ?_
  refine nr ?_; intro U h; simp only [z0, z1] at h; subst h
  refine s_val 5 rfl rfl (.bool false) (rfl) ?_
  refine nr ?_; intro U h; simp only [z0, z1] at h; subst h
  refine s_skipY 6 rfl rfl y2 rfl ?_
  refine nr ?_; intro U h; simp only [z0, z1] at h; subst h
  refine s_skipY 7 rfl rfl y2 rfl ?_
  refine nr ?_; intro U h; simp only [z0, z1] at h; subst h
  refine s_skipY 8 rfl rfl y2 rfl ?_
  refine nr ?_; intro U h; simp only [z0, z1] at h; subst h
  refine s_skipY 9 rfl rfl y2 rfl ?_
  refine nr ?_; intro U h; simp only [z0, z1] at h; subst h
  refine s_val 10 rfl rfl (.bool false) (rfl) ?_
  refine nr ?_; intro U h; simp only [z0, z1] at h; subst h
  refine s_val 2 rfl rfl (.bool false) (rfl) ?_
  refine nr ?_; intro U h; simp only [z0, z1] at h; subst h
  refine wpList_nil ?_
  refine then_n ?_
  refine wp_ret ?_
  refine bodyPost_ret (results_tmp Try.results28 _ _ _) rfl ?_
  exact ⟨rfl, GG⟩
set_option maxRecDepth 100000 in
set_option maxHeartbeats 4000000 in
theorem up_any (w : World) (p wp B : Nat) (id : Nat → Nat) (up op : Bool) (mi mn pi pn : Int) (oth : Nat → Nat) (ro : Option Addr) (rc : Nat) (q : List RV) (k c : Nat) (H : EW w p wp B id up op mi mn pi pn oth ro rc q k c) : Calls Try.prog 28 #[.pointer (some ⟨p, 0, none⟩)] w fun e w' => e = .returned (.bool up) ∧ Gro w w' := by
  refine s_enter Try.func28 rfl Try.ntmps28 [.pointer (some ⟨p, 0, none⟩)] [.pointer (some ⟨p, 0, none⟩), undef, undef, undef, undef, undef, undef, undef, undef, undef, undef] rfl ?_
  have GG := Gro.refl w
  have kp := H.box
  have HW := H.win
  have hpl := lt_of_heap kp
  refine wp_seq ?_
  refine wp_region_lit ?_
  refine s_val 2 rfl rfl (.bool false) (rfl) ?_
  refine nr ?_; intro U h; simp only [z0, z1] at h; subst h
  refine wpList_nil ?_
  refine then_n ?_
  refine wp_seq ?_
  refine wp_region_opq ?_
  intro OPS hY
  have y2 := hY 2 5 rfl
  clear hY
  refine s_val 3 rfl rfl (.pointer (some ⟨p, 0, none⟩)) (rfl) ?_
  refine nr ?_; intro U h; simp only [z0, z1] at h; subst h
  refine s_val 4 rfl rfl (.bool true) (run_nenp 25 _ _ _ rfl _ rfl rfl Try.underlying25 _) ?_
  refine nr ?_; intro U h; simp only [z0, z1] at h; subst h
  refine s_val 5 rfl rfl (.bool true) (rfl) ?_
  refine nr ?_; intro U h; simp only [z0, z1] at h; subst h
  refine s_gvalY 6 rfl rfl y2 rfl (.pointer (some ⟨p, 0, none⟩)) (rfl) ?_
  refine nr ?_; intro U h; simp only [z0, z1] at h; subst h
  refine s_gvalY 7 rfl rfl y2 rfl (.pointer (some ⟨p, 0, none⟩)) (run_nc _ rfl _ rfl) ?_
  refine nr ?_; intro U h; simp only [z0, z1] at h; subst h
  refine s_gvalY 8 rfl rfl y2 rfl (.pointer (some ⟨p, 16, none⟩)) (run_fld 98 _ 1 rfl _ _ rfl _ (by kernel_rfl)) ?_
  refine nr ?_; intro U h; simp only [z0, z1] at h; subst h
  refine s_gvalY 9 rfl rfl y2 rfl (.bool up) (run_ldc 4 _ rfl p 16 rfl 98 _ kp (na4 _) _ rfl) ?_
  refine nr ?_; intro U h; simp only [z0, z1] at h; subst h
  refine s_val 10 rfl rfl (.bool up) (rfl) ?_
  refine nr ?_; intro U h; simp only [z0, z1] at h; subst h
  refine s_val 2 rfl rfl (.bool up) (rfl) ?_
  refine nr ?_; intro U h; simp only [z0, z1] at h; subst h
  refine wpList_nil ?_
  refine then_n ?_
  refine wp_ret ?_
  refine bodyPost_ret (results_tmp Try.results28 _ _ _) rfl ?_
  exact ⟨rfl, GG⟩
set_option maxRecDepth 100000 in
set_option maxHeartbeats 4000000 in
theorem open_nil (w : World) : Calls Try.prog 24 #[.pointer none] w fun e w' => e = .returned (.tuple #[.agg (c23 zF), .bool false]) ∧ Gro w w' := by
  refine s_enter Try.func24 rfl Try.ntmps24 [.pointer none] [.pointer none, undef, undef, undef, undef, undef, undef, undef, undef, undef, undef, undef, undef, undef, undef, undef, undef, undef] rfl ?_
  have GG := Gro.refl w
  refine wp_seq ?_
  refine wp_region_lit ?_
  refine s_alloc 2 rfl rfl 23 rfl _ zv23 _ rfl ?_
  intro w1 g1 G eg1 kg1
  have bg1 := size_base GG eg1
  replace GG := GG.trans G
  clear G eg1
  refine nr ?_; intro U h; simp only [z0, z1] at h; subst h
  refine s_val 3 rfl rfl (.bool false) (rfl) ?_
  refine nr ?_; intro U h; simp only [z0, z1] at h; subst h
  refine wpList_nil ?_
  refine then_n ?_
  refine wp_seq ?_
  refine wp_seq ?_
  refine wp_region_opq ?_
  intro OPS hY
  have y2 := hY 2 6 rfl
  clear hY
  refine s_val 4 rfl rfl (.pointer none) (rfl) ?_
  refine nr ?_; intro U h; simp only [z0, z1] at h; subst h
  refine s_val 5 rfl rfl (.bool true) (run_eqnn 25 _ _ _ rfl rfl rfl Try.underlying25 _) ?_
  refine nr ?_; intro U h; simp only [z0, z1] at h; subst h
  refine s_val 6 rfl rfl (.bool true) (rfl) ?_
  refine nr ?_; intro U h; simp only [z0, z1] at h; subst h
  refine s_skipY 7 rfl rfl y2 rfl ?_
  refine nr ?_; intro U h; simp only [z0, z1] at h; subst h
  refine s_skipY 8 rfl rfl y2 rfl ?_
  refine nr ?_; intro U h; simp only [z0, z1] at h; subst h
  refine s_skipY 9 rfl rfl y2 rfl ?_
  refine nr ?_; intro U h; simp only [z0, z1] at h; subst h
  refine s_skipY 10 rfl rfl y2 rfl ?_
  refine nr ?_; intro U h; simp only [z0, z1] at h; subst h
  refine s_skipY 11 rfl rfl y2 rfl ?_
  refine nr ?_; intro U h; simp only [z0, z1] at h; subst h
  refine s_val 12 rfl rfl (.bool true) (rfl) ?_
  refine nr ?_; intro U h; simp only [z0, z1] at h; subst h
  refine wpList_nil ?_
  refine then_n ?_
  refine wp_cond_true rfl ?_
  refine wp_seq ?_
  refine wp_region_lit ?_
  refine s_val 13 rfl rfl (.agg (c23 zF)) (run_bd 23 _ rfl [] rfl _ (by kernel_rfl)) ?_
  refine nr ?_; intro U h; simp only [z0, z1] at h; subst h
  refine s_store rfl rfl 23 _ _ rfl g1 0 rfl (.agg (c23 zF)) rfl 23 _ kg1 (c23 zF) rfl (by kernel_rfl) (Nat.le_of_ble_eq_true rfl) (by kernel_rfl) (c23 zF) (by kernel_rfl) ?_
  intro w3 St
  replace GG := GG.store St bg1
  replace kg1 := St.new
  clear St
  refine s_val 3 rfl rfl (.bool false) (rfl) ?_
  refine nr ?_; intro U h; simp only [z0, z1] at h; subst h
  refine wpList_nil ?_
  refine then_n ?_
  refine wp_ret ?_
  refine then_r ?_
  refine bodyPost_ret (results_cell_tmp Try.results24 _ _ g1 23 _ (0, 0) _ rfl (.bool false) rfl kg1 Try.underlying23 rfl (by kernel_rfl)) rfl ?_
  exact ⟨rfl, GG⟩
set_option maxRecDepth 100000 in
set_option maxHeartbeats 4000000 in
theorem open_no (w : World) (p wp B : Nat) (id : Nat → Nat) (up : Bool) (mi mn pi pn : Int) (oth : Nat → Nat) (ro : Option Addr) (rc : Nat) (q : List RV) (k c : Nat) (H : EW w p wp B id up false mi mn pi pn oth ro rc q k c) : Calls Try.prog 24 #[.pointer (some ⟨p, 0, none⟩)] w fun e w' => e = .returned (.tuple #[.agg (c23 zF), .bool false]) ∧ Gro w w' := by
  refine s_enter Try.func24 rfl Try.ntmps24 [.pointer (some ⟨p, 0, none⟩)] [.pointer (some ⟨p, 0, none⟩), undef, undef, undef, undef, undef, undef, undef, undef, undef, undef, undef, undef, undef, undef, undef, undef, undef] rfl ?_
  have GG := Gro.refl w
  have kp := H.box
  have HW := H.win
  have hpl := lt_of_heap kp
  refine wp_seq ?_
  refine wp_region_lit ?_
  refine s_alloc 2 rfl rfl 23 rfl _ zv23 _ rfl ?_
  intro w1 g1 G eg1 kg1
  have bg1 := size_base GG eg1
  have dpg1 := lt_new kp eg1
  replace kp := G.has kp
  replace HW := HW.gro G
  replace GG := GG.trans G
  clear G eg1
  refine nr ?_; intro U h; simp only [z0, z1] at h; subst h
  refine s_val 3 rfl rfl (.bool false) (rfl) ?_
  refine nr ?_; intro U h; simp only [z0, z1] at h; subst h
  refine wpList_nil ?_
  refine then_n ?_
  refine wp_seq ?_
  refine wp_seq ?_
  refine wp_region_opq ?_
  intro OPS hY
  have y2 := hY 2 6 rfl
  clear hY
  refine s_val 4 rfl rfl (.pointer (some ⟨p, 0, none⟩)) (rfl) ?_
  refine nr ?_; intro U h; simp only [z0, z1] at h; subst h
  refine s_val 5 rfl rfl (.bool false) (run_eqnp 25 _ _ _ rfl _ rfl rfl Try.underlying25 _) ?_
  refine nr ?_; intro U h; simp only [z0, z1] at h; subst h
  refine s_val 6 rfl rfl (.bool false) (rfl) ?_
  refine nr ?_; intro U h; simp only [z0, z1] at h; subst h
  refine s_gvalY 7 rfl rfl y2 rfl (.pointer (some ⟨p, 0, none⟩)) (rfl) ?_
  refine nr ?_; intro U h; simp only [z0, z1] at h; subst h
  refine s_gvalY 8 rfl rfl y2 rfl (.pointer (some ⟨p, 0, none⟩)) (run_nc _ rfl _ rfl) ?_
  refine nr ?_; intro U h; simp only [z0, z1] at h; subst h
  refine s_gvalY 9 rfl rfl y2 rfl (.pointer (some ⟨p, 17, none⟩)) (run_fld 98 _ 2 rfl _ _ rfl _ (by kernel_rfl)) ?_
  refine nr ?_; intro U h; simp only [z0, z1] at h; subst h
  refine s_gvalY 10 rfl rfl y2 rfl (.bool false) (run_ldc 4 _ rfl p 17 rfl 98 _ kp (na4 _) _ rfl) ?_
  refine nr ?_; intro U h; simp only [z0, z1] at h; subst h
  refine s_gvalY 11 rfl rfl y2 rfl (.bool true) (run_nt _ _ rfl false rfl) ?_
  refine nr ?_; intro U h; simp only [z0, z1] at h; subst h
  refine s_val 12 rfl rfl (.bool true) (rfl) ?_
  refine nr ?_; intro U h; simp only [z0, z1] at h; subst h
  refine wpList_nil ?_
  refine then_n ?_
  refine wp_cond_true rfl ?_
  refine wp_seq ?_
  refine wp_region_lit ?_
  refine s_val 13 rfl rfl (.agg (c23 zF)) (run_bd 23 _ rfl [] rfl _ (by kernel_rfl)) ?_
  refine nr ?_; intro U h; simp only [z0, z1] at h; subst h
  refine s_store rfl rfl 23 _ _ rfl g1 0 rfl (.agg (c23 zF)) rfl 23 _ kg1 (c23 zF) rfl (by kernel_rfl) (Nat.le_of_ble_eq_true rfl) (by kernel_rfl) (c23 zF) (by kernel_rfl) ?_
  intro w3 St
  replace kp := St.has (by omega) kp
  replace HW := HW.stT (by decide) (by decide) (by decide) kg1 St
  replace GG := GG.store St bg1
  replace kg1 := St.new
  clear St
  refine s_val 3 rfl rfl (.bool false) (rfl) ?_
  refine nr ?_; intro U h; simp only [z0, z1] at h; subst h
  refine wpList_nil ?_
  refine then_n ?_
  refine wp_ret ?_
  refine then_r ?_
  refine bodyPost_ret (results_cell_tmp Try.results24 _ _ g1 23 _ (0, 0) _ rfl (.bool false) rfl kg1 Try.underlying23 rfl (by kernel_rfl)) rfl ?_
  exact ⟨rfl, GG⟩
set_option maxRecDepth 100000 in
set_option maxHeartbeats 4000000 in
theorem open_yes (w : World) (p wp B : Nat) (id : Nat → Nat) (up : Bool) (mi mn pi pn : Int) (oth : Nat → Nat) (ro : Option Addr) (rc : Nat) (q : List RV) (k c : Nat) (H : EW w p wp B id up true mi mn pi pn oth ro rc q k c) : Calls Try.prog 24 #[.pointer (some ⟨p, 0, none⟩)] w fun e w' => e = .returned (.tuple #[.agg (c23 oth), .bool true]) ∧ Gro w w' := by
  refine s_enter Try.func24 rfl Try.ntmps24 [.pointer (some ⟨p, 0, none⟩)] [.pointer (some ⟨p, 0, none⟩), undef, undef, undef, undef, undef, undef, undef, undef, undef, undef, undef, undef, undef, undef, undef, undef, undef] rfl ?_
  have GG := Gro.refl w
  have kp := H.box
  have HW := H.win
  have hpl := lt_of_heap kp
  refine wp_seq ?_
  refine wp_region_lit ?_
  refine s_alloc 2 rfl rfl 23 rfl _ zv23 _ rfl ?_
  intro w1 g1 G eg1 kg1
  have bg1 := size_base GG eg1
  have dpg1 := lt_new kp eg1
  replace kp := G.has kp
  replace HW := HW.gro G
  replace GG := GG.trans G
  clear G eg1
  refine nr ?_; intro U h; simp only [z0, z1] at h; subst h
  refine s_val 3 rfl rfl (.bool false) (rfl) ?_
  refine nr ?_; intro U h; simp only [z0, z1] at h; subst h
  refine wpList_nil ?_
  refine then_n ?_
  refine wp_seq ?_
  refine wp_seq ?_
  refine wp_region_opq ?_
  intro OPS hY
  have y2 := hY 2 6 rfl
  clear hY
  refine s_val 4 rfl rfl (.pointer (some ⟨p, 0, none⟩)) (rfl) ?_
  refine nr ?_; intro U h; simp only [z0, z1] at h; subst h
  refine s_val 5 rfl rfl (.bool false) (run_eqnp 25 _ _ _ rfl _ rfl rfl Try.underlying25 _) ?_
  refine nr ?_; intro U h; simp only [z0, z1] at h; subst h
  refine s_val 6 rfl rfl (.bool false) (rfl) ?_
  refine nr ?_; intro U h; simp only [z0, z1] at h; subst h
  refine s_gvalY 7 rfl rfl y2 rfl (.pointer (some ⟨p, 0, none⟩)) (rfl) ?_
  refine nr ?_; intro U h; simp only [z0, z1] at h; subst h
  refine s_gvalY 8 rfl rfl y2 rfl (.pointer (some ⟨p, 0, none⟩)) (run_nc _ rfl _ rfl) ?_
  refine nr ?_; intro U h; simp only [z0, z1] at h; subst h
  refine s_gvalY 9 rfl rfl y2 rfl (.pointer (some ⟨p, 17, none⟩)) (run_fld 98 _ 2 rfl _ _ rfl _ (by kernel_rfl)) ?_
  refine nr ?_; intro U h; simp only [z0, z1] at h; subst h
  refine s_gvalY 10 rfl rfl y2 rfl (.bool true) (run_ldc 4 _ rfl p 17 rfl 98 _ kp (na4 _) _ rfl) ?_
  refine nr ?_; intro U h; simp only [z0, z1] at h; subst h
  refine s_gvalY 11 rfl rfl y2 rfl (.bool false) (run_nt _ _ rfl true rfl) ?_
  refine nr ?_; intro U h; simp only [z0, z1] at h; subst h
  refine s_val 12 rfl rfl (.bool false) (rfl) ?_
  refine nr ?_; intro U h; simp only [z0, z1] at h; subst h
  refine wpList_nil ?_
  refine then_n ?_
  refine wp_cond_false rfl ?_
  refine wp_skip ?_
  refine then_n ?_
  refine wp_seq ?_
  refine wp_region_lit ?_
  refine s_val 14 rfl rfl (.pointer (some ⟨p, 0, none⟩)) (rfl) ?_
  refine nr ?_; intro U h; simp only [z0, z1] at h; subst h
  refine s_val 15 rfl rfl (.pointer (some ⟨p, 0, none⟩)) (run_nc _ rfl _ rfl) ?_
  refine nr ?_; intro U h; simp only [z0, z1] at h; subst h
  refine s_val 16 rfl rfl (.pointer (some ⟨p, 22, none⟩)) (run_fld 98 _ 5 rfl _ _ rfl _ (by kernel_rfl)) ?_
  refine nr ?_; intro U h; simp only [z0, z1] at h; subst h
  refine s_val 17 rfl rfl (.agg (c23 oth)) (run_lda 23 _ rfl p 22 16 rfl 98 _ kp _ Try.underlying23 rfl si23 (Nat.le_of_ble_eq_true rfl) _ (by kernel_rfl)) ?_
  refine nr ?_; intro U h; simp only [z0, z1] at h; subst h
  refine s_store rfl rfl 23 _ _ rfl g1 0 rfl (.agg (c23 oth)) rfl 23 _ kg1 (c23 oth) rfl (by kernel_rfl) (Nat.le_of_ble_eq_true rfl) (by kernel_rfl) (c23 oth) (by kernel_rfl) ?_
  intro w3 St
  replace kp := St.has (by omega) kp
  replace HW := HW.stT (by decide) (by decide) (by decide) kg1 St
  replace GG := GG.store St bg1
  replace kg1 := St.new
  clear St
  refine s_val 3 rfl rfl (.bool true) (rfl) ?_
  refine nr ?_; intro U h; simp only [z0, z1] at h; subst h
  refine wpList_nil ?_
  refine then_n ?_
  refine wp_ret ?_
  refine bodyPost_ret (results_cell_tmp Try.results24 _ _ g1 23 _ (0, 0) _ rfl (.bool true) rfl kg1 Try.underlying23 rfl (by kernel_rfl)) rfl ?_
  exact ⟨rfl, GG⟩
set_option maxRecDepth 100000 in
set_option maxHeartbeats 4000000 in
theorem pair_nil (w : World) : Calls Try.prog 23 #[.pointer none] w fun e w' => e = .returned (.tuple #[.agg (c29 0 0), .agg (c29 0 0)]) ∧ Gro w w' := by
  refine s_enter Try.func23 rfl Try.ntmps23 [.pointer none] [.pointer none, undef, undef, undef, undef, undef, undef, undef, undef, undef, undef, undef, undef, undef, undef, undef] rfl ?_
  have GG := Gro.refl w
  refine wp_seq ?_
  refine wp_region_lit ?_
  refine s_alloc 2 rfl rfl 29 rfl _ zv29 _ rfl ?_
  intro w1 g1 G eg1 kg1
  have bg1 := size_base GG eg1
  replace GG := GG.trans G
  clear G eg1
  refine nr ?_; intro U h; simp only [z0, z1] at h; subst h
  refine s_alloc 3 rfl rfl 29 rfl _ zv29 _ rfl ?_
  intro w2 g2 G eg2 kg2
  have bg2 := size_base GG eg2
  have dg1g2 := lt_new kg1 eg2
  replace kg1 := G.has kg1
  replace GG := GG.trans G
  clear G eg2
  refine nr ?_; intro U h; simp only [z0, z1] at h; subst h
  refine wpList_nil ?_
  refine then_n ?_
  refine wp_seq ?_
  refine wp_seq ?_
  refine wp_region_lit ?_
  refine s_val 4 rfl rfl (.pointer none) (rfl) ?_
  refine nr ?_; intro U h; simp only [z0, z1] at h; subst h
  refine s_val 5 rfl rfl (.bool true) (run_eqnn 25 _ _ _ rfl rfl rfl Try.underlying25 _) ?_
  refine nr ?_; intro U h; simp only [z0, z1] at h; subst h
  refine wpList_nil ?_
  refine then_n ?_
  refine wp_cond_true rfl ?_
  refine wp_seq ?_
  refine wp_region_lit ?_
  refine s_val 6 rfl rfl (.agg (c29 0 0)) (run_bd 29 _ rfl [] rfl _ (by kernel_rfl)) ?_
  refine nr ?_; intro U h; simp only [z0, z1] at h; subst h
  refine s_val 7 rfl rfl (.agg (c29 0 0)) (run_bd 29 _ rfl [] rfl _ (by kernel_rfl)) ?_
  refine nr ?_; intro U h; simp only [z0, z1] at h; subst h
  refine s_store rfl rfl 29 _ _ rfl g1 0 rfl (.agg (c29 0 0)) rfl 29 _ kg1 (c29 0 0) rfl (by kernel_rfl) (Nat.le_of_ble_eq_true rfl) (by kernel_rfl) (c29 0 0) (by kernel_rfl) ?_
  intro w4 St
  replace kg2 := St.has (by omega) kg2
  replace GG := GG.store St bg1
  replace kg1 := St.new
  clear St
  refine s_store rfl rfl 29 _ _ rfl g2 0 rfl (.agg (c29 0 0)) rfl 29 _ kg2 (c29 0 0) rfl (by kernel_rfl) (Nat.le_of_ble_eq_true rfl) (by kernel_rfl) (c29 0 0) (by kernel_rfl) ?_
  intro w6 St
  replace kg1 := St.has (by omega) kg1
  replace GG := GG.store St bg2
  replace kg2 := St.new
  clear St
  refine wpList_nil ?_
  refine then_n ?_
  refine wp_ret ?_
  refine then_r ?_
  refine bodyPost_ret (results_agg2 Try.results23 _ _ g1 g2 29 29 _ _ _ _ rfl rfl kg1 kg2 Try.underlying29 rfl (by kernel_rfl) Try.underlying29 rfl (by kernel_rfl)) rfl ?_
  exact ⟨rfl, GG⟩
set_option maxRecDepth 100000 in
set_option maxHeartbeats 4000000 in
theorem opens_true (w : World) (p wp B : Nat) (id : Nat → Nat) (up : Bool) (mi mn pi pn : Int) (oth : Nat → Nat) (ro : Option Addr) (rc : Nat) (q : List RV) (k c : Nat) (H : EW w p wp B id up true mi mn pi pn oth ro rc q k c) : Calls Try.prog 56 #[.pointer (some ⟨p, 0, none⟩)] w fun e w' => e = .returned (.bool false) ∧ GroS [p] w w' ∧ EW w' p wp B id up true mi mn pi pn oth ro rc q k c := by
  refine s_enter Try.func56 rfl Try.ntmps56 [.pointer (some ⟨p, 0, none⟩)] [.pointer (some ⟨p, 0, none⟩), undef, undef, undef, undef, undef, undef, undef, undef, undef, undef, undef, undef] rfl ?_
  have GG := GroS.refl [p] w
  have kp := H.box
  have HW := H.win
  have hpl := lt_of_heap kp
  refine wp_seq ?_
  refine wp_region_lit ?_
  refine s_val 2 rfl rfl (.bool false) (rfl) ?_
  refine nr ?_; intro U h; simp only [z0, z1] at h; subst h
  refine wpList_nil ?_
  refine then_n ?_
  refine wp_seq ?_
  refine wp_region_lit ?_
  refine s_val 4 rfl rfl (.pointer (some ⟨p, 0, none⟩)) (rfl) ?_
  refine nr ?_; intro U h; simp only [z0, z1] at h; subst h
  refine s_val 5 rfl rfl (.pointer (some ⟨p, 0, none⟩)) (run_nc _ rfl _ rfl) ?_
  refine nr ?_; intro U h; simp only [z0, z1] at h; subst h
  refine s_val 6 rfl rfl (.pointer (some ⟨p, 17, none⟩)) (run_fld 98 _ 2 rfl _ _ rfl _ (by kernel_rfl)) ?_
  refine nr ?_; intro U h; simp only [z0, z1] at h; subst h
  refine s_val 7 rfl rfl (.bool true) (run_ldc 4 _ rfl p 17 rfl 98 _ kp (na4 _) _ rfl) ?_
  refine nr ?_; intro U h; simp only [z0, z1] at h; subst h
  refine s_val 3 rfl rfl (.bool true) (rfl) ?_
  refine nr ?_; intro U h; simp only [z0, z1] at h; subst h
  refine wpList_nil ?_
  refine then_n ?_
  refine wp_seq ?_
  refine wp_region_lit ?_
  refine s_val 8 rfl rfl (.pointer (some ⟨p, 0, none⟩)) (rfl) ?_
  refine nr ?_; intro U h; simp only [z0, z1] at h; subst h
  refine s_val 9 rfl rfl (.pointer (some ⟨p, 0, none⟩)) (run_nc _ rfl _ rfl) ?_
  refine nr ?_; intro U h; simp only [z0, z1] at h; subst h
  refine s_val 10 rfl rfl (.pointer (some ⟨p, 17, none⟩)) (run_fld 98 _ 2 rfl _ _ rfl _ (by kernel_rfl)) ?_
  refine nr ?_; intro U h; simp only [z0, z1] at h; subst h
  refine s_store rfl rfl 4 _ _ rfl p 17 rfl (.bool true) rfl 98 _ kp #[.bool true] rfl (by kernel_rfl) (Nat.le_of_ble_eq_true rfl) (by kernel_rfl) (c98 id up true mi mn pi pn oth (some ⟨wp, 0, none⟩)) (by kernel_rfl) ?_
  intro w2 St
  replace HW := HW.stT (by decide) (by decide) (by decide) kp St
  replace GG := GG.st St (.inr (by simp))
  replace kp := St.new
  clear St
  refine wpList_nil ?_
  refine then_n ?_
  refine wp_seq ?_
  refine wp_region_lit ?_
  refine s_val 11 rfl rfl (.bool true) (rfl) ?_
  refine nr ?_; intro U h; simp only [z0, z1] at h; subst h
  refine s_val 12 rfl rfl (.bool false) (run_nt _ _ rfl true rfl) ?_
  refine nr ?_; intro U h; simp only [z0, z1] at h; subst h
  refine s_val 2 rfl rfl (.bool false) (rfl) ?_
  refine nr ?_; intro U h; simp only [z0, z1] at h; subst h
  refine wpList_nil ?_
  refine then_n ?_
  refine wp_ret ?_
  refine bodyPost_ret (results_tmp Try.results56 _ _ _) rfl ?_
  exact ⟨rfl, GG, kp, HW⟩
set_option maxRecDepth 100000 in
set_option maxHeartbeats 4000000 in
theorem opens_false (w : World) (p wp B : Nat) (id : Nat → Nat) (up : Bool) (mi mn pi pn : Int) (oth : Nat → Nat) (ro : Option Addr) (rc : Nat) (q : List RV) (k c : Nat) (H : EW w p wp B id up false mi mn pi pn oth ro rc q k c) : Calls Try.prog 56 #[.pointer (some ⟨p, 0, none⟩)] w fun e w' => e = .returned (.bool true) ∧ GroS [p] w w' ∧ EW w' p wp B id up true mi mn pi pn oth ro rc q k c := by
  refine s_enter Try.func56 rfl Try.ntmps56 [.pointer (some ⟨p, 0, none⟩)] [.pointer (some ⟨p, 0, none⟩), undef, undef, undef, undef, undef, undef, undef, undef, undef, undef, undef, undef] rfl ?_
  have GG := GroS.refl [p] w
  have kp := H.box
  have HW := H.win
  have hpl := lt_of_heap kp
  refine wp_seq ?_
  refine wp_region_lit ?_
  refine s_val 2 rfl rfl (.bool false) (rfl) ?_
  refine nr ?_; intro U h; simp only [z0, z1] at h; subst h
  refine wpList_nil ?_
  refine then_n ?_
  refine wp_seq ?_
  refine wp_region_lit ?_
  refine s_val 4 rfl rfl (.pointer (some ⟨p, 0, none⟩)) (rfl) ?_
  refine nr ?_; intro U h; simp only [z0, z1] at h; subst h
  refine s_val 5 rfl rfl (.pointer (some ⟨p, 0, none⟩)) (run_nc _ rfl _ rfl) ?_
  refine nr ?_; intro U h; simp only [z0, z1] at h; subst h
  refine s_val 6 rfl rfl (.pointer (some ⟨p, 17, none⟩)) (run_fld 98 _ 2 rfl _ _ rfl _ (by kernel_rfl)) ?_
  refine nr ?_; intro U h; simp only [z0, z1] at h; subst h
  refine s_val 7 rfl rfl (.bool false) (run_ldc 4 _ rfl p 17 rfl 98 _ kp (na4 _) _ rfl) ?_
  refine nr ?_; intro U h; simp only [z0, z1] at h; subst h
  refine s_val 3 rfl rfl (.bool false) (rfl) ?_
  refine nr ?_; intro U h; simp only [z0, z1] at h; subst h
  refine wpList_nil ?_
  refine then_n ?_
  refine wp_seq ?_
  refine wp_region_lit ?_
  refine s_val 8 rfl rfl (.pointer (some ⟨p, 0, none⟩)) (rfl) ?_
  refine nr ?_; intro U h; simp only [z0, z1] at h; subst h
  refine s_val 9 rfl rfl (.pointer (some ⟨p, 0, none⟩)) (run_nc _ rfl _ rfl) ?_
  refine nr ?_; intro U h; simp only [z0, z1] at h; subst h
  refine s_val 10 rfl rfl (.pointer (some ⟨p, 17, none⟩)) (run_fld 98 _ 2 rfl _ _ rfl _ (by kernel_rfl)) ?_
  refine nr ?_; intro U h; simp only [z0, z1] at h; subst h
  refine s_store rfl rfl 4 _ _ rfl p 17 rfl (.bool true) rfl 98 _ kp #[.bool true] rfl (by kernel_rfl) (Nat.le_of_ble_eq_true rfl) (by kernel_rfl) (c98 id up true mi mn pi pn oth (some ⟨wp, 0, none⟩)) (by kernel_rfl) ?_
  intro w2 St
  replace HW := HW.stT (by decide) (by decide) (by decide) kp St
  replace GG := GG.st St (.inr (by simp))
  replace kp := St.new
  clear St
  refine wpList_nil ?_
  refine then_n ?_
  refine wp_seq ?_
  refine wp_region_lit ?_
  refine s_val 11 rfl rfl (.bool false) (rfl) ?_
  refine nr ?_; intro U h; simp only [z0, z1] at h; subst h
  refine s_val 12 rfl rfl (.bool true) (run_nt _ _ rfl false rfl) ?_
  refine nr ?_; intro U h; simp only [z0, z1] at h; subst h
  refine s_val 2 rfl rfl (.bool true) (rfl) ?_
  refine nr ?_; intro U h; simp only [z0, z1] at h; subst h
  refine wpList_nil ?_
  refine then_n ?_
  refine wp_ret ?_
  refine bodyPost_ret (results_tmp Try.results56 _ _ _) rfl ?_
  exact ⟨rfl, GG, kp, HW⟩
theorem opens_any (w : World) (p wp B : Nat) (id : Nat → Nat) (up op : Bool) (mi mn pi pn : Int) (oth : Nat → Nat) (ro : Option Addr) (rc : Nat) (q : List RV) (k c : Nat) (H : EW w p wp B id up op mi mn pi pn oth ro rc q k c) : Calls Try.prog 56 #[.pointer (some ⟨p, 0, none⟩)] w fun e w' => e = .returned (.bool (!op)) ∧ GroS [p] w w' ∧ EW w' p wp B id up true mi mn pi pn oth ro rc q k c := by
  cases op
  · exact opens_false w p wp B id up mi mn pi pn oth ro rc q k c H
  · exact opens_true w p wp B id up mi mn pi pn oth ro rc q k c H
set_option maxRecDepth 100000 in
set_option maxHeartbeats 4000000 in
theorem between_no (w : World) (p wp B : Nat) (id : Nat → Nat) (up op : Bool) (mi mn pi pn : Int) (oth : Nat → Nat) (ro : Option Addr) (rc : Nat) (q : List RV) (k c : Nat) (H : EW w p wp B id up op mi mn pi pn oth ro rc q k c) (fi fn ti tn : Int) (h : (decide (fi = pi) && decide (fn = pn)) = false) : Calls Try.prog 58 #[.pointer (some ⟨p, 0, none⟩), .agg (c29 fi fn), .agg (c29 ti tn)] w fun e w' => e = .returned (.bool false) ∧ Gro w w' := by
  refine s_enter Try.func58 rfl Try.ntmps58 [.pointer (some ⟨p, 0, none⟩), .agg (c29 fi fn), .agg (c29 ti tn)] [.pointer (some ⟨p, 0, none⟩), .agg (c29 fi fn), .agg (c29 ti tn), undef, undef, undef, undef, undef, undef, undef, undef, undef, undef, undef, undef, undef, undef, undef, undef, undef, undef] rfl ?_
  have GG := Gro.refl w
  have kp := H.box
  have HW := H.win
  have hpl := lt_of_heap kp
  refine wp_seq ?_
  refine wp_region_lit ?_
  refine s_box 4 rfl rfl 29 _ rfl _ rfl (c29 fi fn) rfl ?_
  intro w1 g1 G eg1 kg1
  have bg1 := size_base GG eg1
  have dpg1 := lt_new kp eg1
  replace kp := G.has kp
  replace HW := HW.gro G
  replace GG := GG.trans G
  clear G eg1
  refine nr ?_; intro U h; simp only [z0, z1] at h; subst h
  refine s_box 5 rfl rfl 29 _ rfl _ rfl (c29 ti tn) rfl ?_
  intro w2 g2 G eg2 kg2
  have bg2 := size_base GG eg2
  have dpg2 := lt_new kp eg2
  have dg1g2 := lt_new kg1 eg2
  replace kp := G.has kp
  replace kg1 := G.has kg1
  replace HW := HW.gro G
  replace GG := GG.trans G
  clear G eg2
  refine nr ?_; intro U h; simp only [z0, z1] at h; subst h
  refine s_val 6 rfl rfl (.bool false) (rfl) ?_
  refine nr ?_; intro U h; simp only [z0, z1] at h; subst h
  refine wpList_nil ?_
  refine then_n ?_
  refine wp_seq ?_
  refine wp_region_exA (A := ?Ax2) 12 [(0, 7), (1, 8), (2, 9), (3, 10), (4, 11), (5, 12), (6, 13), (7, 14), (8, 15), (9, 16), (10, 17), (11, 18)] [.val (.agg (c29 fi fn)), .val (.pointer (some ⟨p, 0, none⟩)), .val (.pointer (some ⟨p, 0, none⟩)), .val (.pointer (some ⟨p, 20, none⟩)), .val (.agg (c29 pi pn)), .val (.bool false), .val (.bool false), .val undef, .val undef, .val undef, .val undef, .val undef] follows (by kernel_rfl) rfl ?hAx2 (opsA_cons ?o0x2 (opsA_cons ?o1x2 (opsA_cons ?o2x2 (opsA_cons ?o3x2 (opsA_cons ?o4x2 (opsA_cons ?o5x2 (opsA_cons ?o6x2 (opsA_cons ?o7x2 (opsA_cons ?o8x2 (opsA_cons ?o9x2 (opsA_cons ?o10x2 (opsA_cons ?o11x2 opsA_nil)))))))))))) ?restx2
  case hAx2 =>
    intro ptrs
    simp only [full, foldSlots, filledE, postE, List.foldl_cons, List.foldl_nil, List.getD_cons_zero, List.getD_cons_succ, fill_val, List.set_cons_zero, List.set_cons_succ]
    exact rfl
  case o0x2 => exact fun _ _ hw _ => opE_value (v := .agg (c29 fi fn)) rfl (run_lda 29 _ rfl g1 0 2 rfl 29 _ (hw.has kg1) _ Try.underlying29 rfl si29 (Nat.le_of_ble_eq_true rfl) _ (by kernel_rfl))
  case o1x2 => exact fun _ _ _ _ => opE_move (v := .pointer (some ⟨p, 0, none⟩)) _ rfl rfl rfl
  case o2x2 => exact fun _ _ hw _ => opE_value (v := .pointer (some ⟨p, 0, none⟩)) rfl (run_nc _ rfl _ rfl)
  case o3x2 => exact fun _ _ hw _ => opE_value (v := .pointer (some ⟨p, 20, none⟩)) rfl (run_fld 98 _ 4 rfl _ _ rfl _ (by kernel_rfl))
  case o4x2 => exact fun _ _ hw _ => opE_value (v := .agg (c29 pi pn)) rfl (run_lda 29 _ rfl p 20 2 rfl 98 _ (hw.has kp) _ Try.underlying29 rfl si29 (Nat.le_of_ble_eq_true rfl) _ (by kernel_rfl))
  case o5x2 => exact fun _ _ hw _ => opE_value (v := .bool false) rfl (run_eqN _ _ _ rfl fi fn pi pn rfl rfl false (h) _)
  case o6x2 => exact fun _ _ _ _ => opE_move (v := .bool false) _ rfl rfl rfl
  case o7x2 => exact fun _ _ _ _ => opE_skip rfl
  case o8x2 => exact fun _ _ _ _ => opE_skip rfl
  case o9x2 => exact fun _ _ _ _ => opE_skip rfl
  case o10x2 => exact fun _ _ _ _ => opE_skip rfl
  case o11x2 => exact fun _ _ _ _ => opE_skip rfl
  intro ptrs w3 GD hxE
  simp only [List.drop_succ_cons, List.drop_zero]
  replace kp := GD.has kp
  replace kg1 := GD.has kg1
  replace kg2 := GD.has kg2
  replace HW := HW.gro ((Gro.refl _).drew.trans GD)
  replace GG := GG.drew.trans GD
  clear GD
  refine s_skip 19 rfl rfl ?_
  refine nr ?_; intro U h; simp only [z0, z1] at h; subst h
  refine s_val 20 rfl rfl (.bool false) (rfl) ?_
  refine nr ?_; intro U h; simp only [z0, z1] at h; subst h
  refine s_val 6 rfl rfl (.bool false) (rfl) ?_
  refine nr ?_; intro U h; simp only [z0, z1] at h; subst h
  refine wpList_nil ?_
  refine then_n ?_
  refine wp_ret ?_
  refine bodyPost_ret (results_tmp Try.results58 _ _ _) rfl ?_
  exact ⟨rfl, GG⟩
set_option maxRecDepth 100000 in
set_option maxHeartbeats 4000000 in
theorem between_true (w : World) (p wp B : Nat) (id : Nat → Nat) (up op : Bool) (mi mn pi pn : Int) (oth : Nat → Nat) (ro : Option Addr) (rc : Nat) (q : List RV) (k c : Nat) (H : EW w p wp B id up op mi mn pi pn oth ro rc q k c) (fi fn ti tn : Int) (h : (decide (fi = pi) && decide (fn = pn)) = true) (h2 : (decide (ti = mi) && decide (tn = mn)) = true) : Calls Try.prog 58 #[.pointer (some ⟨p, 0, none⟩), .agg (c29 fi fn), .agg (c29 ti tn)] w fun e w' => e = .returned (.bool true) ∧ Gro w w' := by
  refine s_enter Try.func58 rfl Try.ntmps58 [.pointer (some ⟨p, 0, none⟩), .agg (c29 fi fn), .agg (c29 ti tn)] [.pointer (some ⟨p, 0, none⟩), .agg (c29 fi fn), .agg (c29 ti tn), undef, undef, undef, undef, undef, undef, undef, undef, undef, undef, undef, undef, undef, undef, undef, undef, undef, undef] rfl ?_
  have GG := Gro.refl w
  have kp := H.box
  have HW := H.win
  have hpl := lt_of_heap kp
  refine wp_seq ?_
  refine wp_region_lit ?_
  refine s_box 4 rfl rfl 29 _ rfl _ rfl (c29 fi fn) rfl ?_
  intro w1 g1 G eg1 kg1
  have bg1 := size_base GG eg1
  have dpg1 := lt_new kp eg1
  replace kp := G.has kp
  replace HW := HW.gro G
  replace GG := GG.trans G
  clear G eg1
  refine nr ?_; intro U h; simp only [z0, z1] at h; subst h
  refine s_box 5 rfl rfl 29 _ rfl _ rfl (c29 ti tn) rfl ?_
  intro w2 g2 G eg2 kg2
  have bg2 := size_base GG eg2
  have dpg2 := lt_new kp eg2
  have dg1g2 := lt_new kg1 eg2
  replace kp := G.has kp
  replace kg1 := G.has kg1
  replace HW := HW.gro G
  replace GG := GG.trans G
  clear G eg2
  refine nr ?_; intro U h; simp only [z0, z1] at h; subst h
  refine s_val 6 rfl rfl (.bool false) (rfl) ?_
  refine nr ?_; intro U h; simp only [z0, z1] at h; subst h
  refine wpList_nil ?_
  refine then_n ?_
  refine wp_seq ?_
  refine wp_region_exA (A := ?Ax3) 12 [(0, 7), (1, 8), (2, 9), (3, 10), (4, 11), (5, 12), (6, 13), (7, 14), (8, 15), (9, 16), (10, 17), (11, 18)] [.val (.agg (c29 fi fn)), .val (.pointer (some ⟨p, 0, none⟩)), .val (.pointer (some ⟨p, 0, none⟩)), .val (.pointer (some ⟨p, 20, none⟩)), .val (.agg (c29 pi pn)), .val (.bool true), .val (.bool true), .val (.agg (c29 ti tn)), .val (.pointer (some ⟨p, 0, none⟩)), .val (.pointer (some ⟨p, 0, none⟩)), .val (.pointer (some ⟨p, 18, none⟩)), .val (.agg (c29 mi mn))] follows (by kernel_rfl) rfl ?hAx3 (opsA_cons ?o0x3 (opsA_cons ?o1x3 (opsA_cons ?o2x3 (opsA_cons ?o3x3 (opsA_cons ?o4x3 (opsA_cons ?o5x3 (opsA_cons ?o6x3 (opsA_cons ?o7x3 (opsA_cons ?o8x3 (opsA_cons ?o9x3 (opsA_cons ?o10x3 (opsA_cons ?o11x3 opsA_nil)))))))))))) ?restx3
  case hAx3 =>
    intro ptrs
    simp only [full, foldSlots, filledE, postE, List.foldl_cons, List.foldl_nil, List.getD_cons_zero, List.getD_cons_succ, fill_val, List.set_cons_zero, List.set_cons_succ]
    exact rfl
  case o0x3 => exact fun _ _ hw _ => opE_value (v := .agg (c29 fi fn)) rfl (run_lda 29 _ rfl g1 0 2 rfl 29 _ (hw.has kg1) _ Try.underlying29 rfl si29 (Nat.le_of_ble_eq_true rfl) _ (by kernel_rfl))
  case o1x3 => exact fun _ _ _ _ => opE_move (v := .pointer (some ⟨p, 0, none⟩)) _ rfl rfl rfl
  case o2x3 => exact fun _ _ hw _ => opE_value (v := .pointer (some ⟨p, 0, none⟩)) rfl (run_nc _ rfl _ rfl)
  case o3x3 => exact fun _ _ hw _ => opE_value (v := .pointer (some ⟨p, 20, none⟩)) rfl (run_fld 98 _ 4 rfl _ _ rfl _ (by kernel_rfl))
  case o4x3 => exact fun _ _ hw _ => opE_value (v := .agg (c29 pi pn)) rfl (run_lda 29 _ rfl p 20 2 rfl 98 _ (hw.has kp) _ Try.underlying29 rfl si29 (Nat.le_of_ble_eq_true rfl) _ (by kernel_rfl))
  case o5x3 => exact fun _ _ hw _ => opE_value (v := .bool true) rfl (run_eqN _ _ _ rfl fi fn pi pn rfl rfl true (h) _)
  case o6x3 => exact fun _ _ _ _ => opE_move (v := .bool true) _ rfl rfl rfl
  case o7x3 => exact fun _ _ hw _ => opE_value (v := .agg (c29 ti tn)) rfl (run_lda 29 _ rfl g2 0 2 rfl 29 _ (hw.has kg2) _ Try.underlying29 rfl si29 (Nat.le_of_ble_eq_true rfl) _ (by kernel_rfl))
  case o8x3 => exact fun _ _ _ _ => opE_move (v := .pointer (some ⟨p, 0, none⟩)) _ rfl rfl rfl
  case o9x3 => exact fun _ _ hw _ => opE_value (v := .pointer (some ⟨p, 0, none⟩)) rfl (run_nc _ rfl _ rfl)
  case o10x3 => exact fun _ _ hw _ => opE_value (v := .pointer (some ⟨p, 18, none⟩)) rfl (run_fld 98 _ 3 rfl _ _ rfl _ (by kernel_rfl))
  case o11x3 => exact fun _ _ hw _ => opE_value (v := .agg (c29 mi mn)) rfl (run_lda 29 _ rfl p 18 2 rfl 98 _ (hw.has kp) _ Try.underlying29 rfl si29 (Nat.le_of_ble_eq_true rfl) _ (by kernel_rfl))
  intro ptrs w3 GD hxE
  simp only [List.drop_succ_cons, List.drop_zero]
  replace kp := GD.has kp
  replace kg1 := GD.has kg1
  replace kg2 := GD.has kg2
  replace HW := HW.gro ((Gro.refl _).drew.trans GD)
  replace GG := GG.drew.trans GD
  clear GD
  refine s_gval 19 rfl rfl (.bool true) (run_eqN _ _ _ rfl ti tn mi mn rfl rfl true (h2) _) ?_
  refine nr ?_; intro U h; simp only [z0, z1] at h; subst h
  refine s_val 20 rfl rfl (.bool true) (rfl) ?_
  refine nr ?_; intro U h; simp only [z0, z1] at h; subst h
  refine s_val 6 rfl rfl (.bool true) (rfl) ?_
  refine nr ?_; intro U h; simp only [z0, z1] at h; subst h
  refine wpList_nil ?_
  refine then_n ?_
  refine wp_ret ?_
  refine bodyPost_ret (results_tmp Try.results58 _ _ _) rfl ?_
  exact ⟨rfl, GG⟩
set_option maxRecDepth 100000 in
set_option maxHeartbeats 4000000 in
theorem between_false (w : World) (p wp B : Nat) (id : Nat → Nat) (up op : Bool) (mi mn pi pn : Int) (oth : Nat → Nat) (ro : Option Addr) (rc : Nat) (q : List RV) (k c : Nat) (H : EW w p wp B id up op mi mn pi pn oth ro rc q k c) (fi fn ti tn : Int) (h : (decide (fi = pi) && decide (fn = pn)) = true) (h2 : (decide (ti = mi) && decide (tn = mn)) = false) : Calls Try.prog 58 #[.pointer (some ⟨p, 0, none⟩), .agg (c29 fi fn), .agg (c29 ti tn)] w fun e w' => e = .returned (.bool false) ∧ Gro w w' := by
  refine s_enter Try.func58 rfl Try.ntmps58 [.pointer (some ⟨p, 0, none⟩), .agg (c29 fi fn), .agg (c29 ti tn)] [.pointer (some ⟨p, 0, none⟩), .agg (c29 fi fn), .agg (c29 ti tn), undef, undef, undef, undef, undef, undef, undef, undef, undef, undef, undef, undef, undef, undef, undef, undef, undef, undef] rfl ?_
  have GG := Gro.refl w
  have kp := H.box
  have HW := H.win
  have hpl := lt_of_heap kp
  refine wp_seq ?_
  refine wp_region_lit ?_
  refine s_box 4 rfl rfl 29 _ rfl _ rfl (c29 fi fn) rfl ?_
  intro w1 g1 G eg1 kg1
  have bg1 := size_base GG eg1
  have dpg1 := lt_new kp eg1
  replace kp := G.has kp
  replace HW := HW.gro G
  replace GG := GG.trans G
  clear G eg1
  refine nr ?_; intro U h; simp only [z0, z1] at h; subst h
  refine s_box 5 rfl rfl 29 _ rfl _ rfl (c29 ti tn) rfl ?_
  intro w2 g2 G eg2 kg2
  have bg2 := size_base GG eg2
  have dpg2 := lt_new kp eg2
  have dg1g2 := lt_new kg1 eg2
  replace kp := G.has kp
  replace kg1 := G.has kg1
  replace HW := HW.gro G
  replace GG := GG.trans G
  clear G eg2
  refine nr ?_; intro U h; simp only [z0, z1] at h; subst h
  refine s_val 6 rfl rfl (.bool false) (rfl) ?_
  refine nr ?_; intro U h; simp only [z0, z1] at h; subst h
  refine wpList_nil ?_
  refine then_n ?_
  refine wp_seq ?_
  refine wp_region_exA (A := ?Ax4) 12 [(0, 7), (1, 8), (2, 9), (3, 10), (4, 11), (5, 12), (6, 13), (7, 14), (8, 15), (9, 16), (10, 17), (11, 18)] [.val (.agg (c29 fi fn)), .val (.pointer (some ⟨p, 0, none⟩)), .val (.pointer (some ⟨p, 0, none⟩)), .val (.pointer (some ⟨p, 20, none⟩)), .val (.agg (c29 pi pn)), .val (.bool true), .val (.bool true), .val (.agg (c29 ti tn)), .val (.pointer (some ⟨p, 0, none⟩)), .val (.pointer (some ⟨p, 0, none⟩)), .val (.pointer (some ⟨p, 18, none⟩)), .val (.agg (c29 mi mn))] follows (by kernel_rfl) rfl ?hAx4 (opsA_cons ?o0x4 (opsA_cons ?o1x4 (opsA_cons ?o2x4 (opsA_cons ?o3x4 (opsA_cons ?o4x4 (opsA_cons ?o5x4 (opsA_cons ?o6x4 (opsA_cons ?o7x4 (opsA_cons ?o8x4 (opsA_cons ?o9x4 (opsA_cons ?o10x4 (opsA_cons ?o11x4 opsA_nil)))))))))))) ?restx4
  case hAx4 =>
    intro ptrs
    simp only [full, foldSlots, filledE, postE, List.foldl_cons, List.foldl_nil, List.getD_cons_zero, List.getD_cons_succ, fill_val, List.set_cons_zero, List.set_cons_succ]
    exact rfl
  case o0x4 => exact fun _ _ hw _ => opE_value (v := .agg (c29 fi fn)) rfl (run_lda 29 _ rfl g1 0 2 rfl 29 _ (hw.has kg1) _ Try.underlying29 rfl si29 (Nat.le_of_ble_eq_true rfl) _ (by kernel_rfl))
  case o1x4 => exact fun _ _ _ _ => opE_move (v := .pointer (some ⟨p, 0, none⟩)) _ rfl rfl rfl
  case o2x4 => exact fun _ _ hw _ => opE_value (v := .pointer (some ⟨p, 0, none⟩)) rfl (run_nc _ rfl _ rfl)
  case o3x4 => exact fun _ _ hw _ => opE_value (v := .pointer (some ⟨p, 20, none⟩)) rfl (run_fld 98 _ 4 rfl _ _ rfl _ (by kernel_rfl))
  case o4x4 => exact fun _ _ hw _ => opE_value (v := .agg (c29 pi pn)) rfl (run_lda 29 _ rfl p 20 2 rfl 98 _ (hw.has kp) _ Try.underlying29 rfl si29 (Nat.le_of_ble_eq_true rfl) _ (by kernel_rfl))
  case o5x4 => exact fun _ _ hw _ => opE_value (v := .bool true) rfl (run_eqN _ _ _ rfl fi fn pi pn rfl rfl true (h) _)
  case o6x4 => exact fun _ _ _ _ => opE_move (v := .bool true) _ rfl rfl rfl
  case o7x4 => exact fun _ _ hw _ => opE_value (v := .agg (c29 ti tn)) rfl (run_lda 29 _ rfl g2 0 2 rfl 29 _ (hw.has kg2) _ Try.underlying29 rfl si29 (Nat.le_of_ble_eq_true rfl) _ (by kernel_rfl))
  case o8x4 => exact fun _ _ _ _ => opE_move (v := .pointer (some ⟨p, 0, none⟩)) _ rfl rfl rfl
  case o9x4 => exact fun _ _ hw _ => opE_value (v := .pointer (some ⟨p, 0, none⟩)) rfl (run_nc _ rfl _ rfl)
  case o10x4 => exact fun _ _ hw _ => opE_value (v := .pointer (some ⟨p, 18, none⟩)) rfl (run_fld 98 _ 3 rfl _ _ rfl _ (by kernel_rfl))
  case o11x4 => exact fun _ _ hw _ => opE_value (v := .agg (c29 mi mn)) rfl (run_lda 29 _ rfl p 18 2 rfl 98 _ (hw.has kp) _ Try.underlying29 rfl si29 (Nat.le_of_ble_eq_true rfl) _ (by kernel_rfl))
  intro ptrs w3 GD hxE
  simp only [List.drop_succ_cons, List.drop_zero]
  replace kp := GD.has kp
  replace kg1 := GD.has kg1
  replace kg2 := GD.has kg2
  replace HW := HW.gro ((Gro.refl _).drew.trans GD)
  replace GG := GG.drew.trans GD
  clear GD
  refine s_gval 19 rfl rfl (.bool false) (run_eqN _ _ _ rfl ti tn mi mn rfl rfl false (h2) _) ?_
  refine nr ?_; intro U h; simp only [z0, z1] at h; subst h
  refine s_val 20 rfl rfl (.bool false) (rfl) ?_
  refine nr ?_; intro U h; simp only [z0, z1] at h; subst h
  refine s_val 6 rfl rfl (.bool false) (rfl) ?_
  refine nr ?_; intro U h; simp only [z0, z1] at h; subst h
  refine wpList_nil ?_
  refine then_n ?_
  refine wp_ret ?_
  refine bodyPost_ret (results_tmp Try.results58 _ _ _) rfl ?_
  exact ⟨rfl, GG⟩
theorem between_any (w : World) (p wp B : Nat) (id : Nat → Nat) (up op : Bool) (mi mn pi pn : Int) (oth : Nat → Nat) (ro : Option Addr) (rc : Nat) (q : List RV) (k c : Nat) (H : EW w p wp B id up op mi mn pi pn oth ro rc q k c) (fi fn ti tn : Int) : Calls Try.prog 58 #[.pointer (some ⟨p, 0, none⟩), .agg (c29 fi fn), .agg (c29 ti tn)] w fun e w' => e = .returned (.bool (decide ((fi = pi ∧ fn = pn) ∧ ti = mi ∧ tn = mn))) ∧ Gro w w' := by
  have e : decide ((fi = pi ∧ fn = pn) ∧ ti = mi ∧ tn = mn) = ((decide (fi = pi) && decide (fn = pn)) && (decide (ti = mi) && decide (tn = mn))) := by simp [Bool.decide_and]
  rw [e]
  cases h : (decide (fi = pi) && decide (fn = pn))
  · exact between_no w p wp B id up op mi mn pi pn oth ro rc q k c H fi fn ti tn h
  · cases h2 : (decide (ti = mi) && decide (tn = mn))
    · exact between_false w p wp B id up op mi mn pi pn oth ro rc q k c H fi fn ti tn h h2
    · exact between_true w p wp B id up op mi mn pi pn oth ro rc q k c H fi fn ti tn h h2
set_option maxRecDepth 100000 in
set_option maxHeartbeats 4000000 in
theorem isNaN_any (w : World) (a : Int) : Calls Try.prog 67 #[.int .i64 a] w fun e w' => e = .returned (.bool false) ∧ Gro w w' := by
  refine s_enter Try.func67 rfl Try.ntmps67 [.int .i64 a] [.int .i64 a, undef, undef, undef, undef, undef] rfl ?_
  have GG := Gro.refl w
  refine wp_seq ?_
  refine wp_region_lit ?_
  refine s_val 2 rfl rfl (.bool false) (rfl) ?_
  refine nr ?_; intro U h; simp only [z0, z1] at h; subst h
  refine wpList_nil ?_
  refine then_n ?_
  refine wp_seq ?_
  refine wp_region_lit ?_
  refine s_val 3 rfl rfl (.int .i64 a) (rfl) ?_
  refine nr ?_; intro U h; simp only [z0, z1] at h; subst h
  refine s_val 4 rfl rfl (.int .i64 a) (rfl) ?_
  refine nr ?_; intro U h; simp only [z0, z1] at h; subst h
  refine s_val 5 rfl rfl (.bool false) (run_neq_k 2 .i64 _ _ _ rfl Try.underlying2 a a rfl rfl false (decide_eq_true rfl) _) ?_
  refine nr ?_; intro U h; simp only [z0, z1] at h; subst h
  refine s_val 2 rfl rfl (.bool false) (rfl) ?_
  refine nr ?_; intro U h; simp only [z0, z1] at h; subst h
  refine wpList_nil ?_
  refine then_n ?_
  refine wp_ret ?_
  refine bodyPost_ret (results_tmp Try.results67 _ _ _) rfl ?_
  exact ⟨rfl, GG⟩
set_option maxRecDepth 100000 in
set_option maxHeartbeats 4000000 in
theorem compare_lt (w : World) (a b : Int) (h : a < b) : Calls Try.prog 66 #[.int .i64 a, .int .i64 b] w fun e w' => e = .returned (.int .i64 (-1)) ∧ Gro w w' := by
  refine s_enter Try.func66 rfl Try.ntmps66 [.int .i64 a, .int .i64 b] [.int .i64 a, .int .i64 b, undef, undef, undef, undef, undef, undef, undef, undef, undef, undef, undef, undef, undef, undef, undef, undef, undef, undef] rfl ?_
  have GG := Gro.refl w
  refine wp_seq ?_
  refine wp_region_lit ?_
  refine s_val 4 rfl rfl (.int .i64 0) (rfl) ?_
  refine nr ?_; intro U h; simp only [z0, z1] at h; subst h
  refine wpList_nil ?_
  refine then_n ?_
  refine wp_seq ?_
  refine wp_region_lit ?_
  refine s_val 7 rfl rfl (.int .i64 a) (rfl) ?_
  refine nr ?_; intro U h; simp only [z0, z1] at h; subst h
  refine s_callv 8 rfl rfl _ 67 Try.call67 rfl rfl _ rfl [.int .i64 a] rfl (isNaN_any _ a) ?_
  intro w1 G
  replace GG := GG.trans G
  clear G
  refine nr ?_; intro U h; simp only [z0, z1] at h; subst h
  refine s_val 5 rfl rfl (.bool false) (rfl) ?_
  refine nr ?_; intro U h; simp only [z0, z1] at h; subst h
  refine wpList_nil ?_
  refine then_n ?_
  refine wp_seq ?_
  refine wp_region_lit ?_
  refine s_val 9 rfl rfl (.int .i64 b) (rfl) ?_
  refine nr ?_; intro U h; simp only [z0, z1] at h; subst h
  refine s_callv 10 rfl rfl _ 67 Try.call67 rfl rfl _ rfl [.int .i64 b] rfl (isNaN_any _ b) ?_
  intro w2 G
  replace GG := GG.trans G
  clear G
  refine nr ?_; intro U h; simp only [z0, z1] at h; subst h
  refine s_val 6 rfl rfl (.bool false) (rfl) ?_
  refine nr ?_; intro U h; simp only [z0, z1] at h; subst h
  refine wpList_nil ?_
  refine then_n ?_
  refine wp_seq ?_
  refine wp_seq ?_
  refine wp_region_lit ?_
  refine s_val 11 rfl rfl (.bool false) (rfl) ?_
  refine nr ?_; intro U h; simp only [z0, z1] at h; subst h
  refine wpList_nil ?_
  refine then_n ?_
  refine wp_cond_false rfl ?_
  refine wp_skip ?_
  refine then_n ?_
  refine wp_seq ?_
  refine wp_seq ?_
  refine wp_region_lit ?_
  refine s_val 13 rfl rfl (.bool false) (rfl) ?_
  refine nr ?_; intro U h; simp only [z0, z1] at h; subst h
  refine wpList_nil ?_
  refine then_n ?_
  refine wp_cond_false rfl ?_
  refine wp_skip ?_
  refine then_n ?_
  refine wp_seq ?_
  refine wp_seq ?_
  refine wp_region_lit ?_
  refine s_val 14 rfl rfl (.int .i64 a) (rfl) ?_
  refine nr ?_; intro U h; simp only [z0, z1] at h; subst h
  refine s_val 15 rfl rfl (.int .i64 b) (rfl) ?_
  refine nr ?_; intro U h; simp only [z0, z1] at h; subst h
  refine s_val 16 rfl rfl (.bool true) (run_lssT 2 _ _ _ rfl a b rfl rfl true (by first | exact decide_eq_true (by omega) | exact decide_eq_false (by omega)) _) ?_
  refine nr ?_; intro U h; simp only [z0, z1] at h; subst h
  refine wpList_nil ?_
  refine then_n ?_
  refine wp_cond_true rfl ?_
  refine wp_seq ?_
  refine wp_region_lit ?_
  refine s_val 4 rfl rfl (.int .i64 (-1)) (rfl) ?_
  refine nr ?_; intro U h; simp only [z0, z1] at h; subst h
  refine wpList_nil ?_
  refine then_n ?_
  refine wp_ret ?_
  refine then_r ?_
  refine bodyPost_ret (results_tmp Try.results66 _ _ _) rfl ?_
  exact ⟨rfl, GG⟩
set_option maxRecDepth 100000 in
set_option maxHeartbeats 4000000 in
theorem compare_gt (w : World) (a b : Int) (h : b < a) : Calls Try.prog 66 #[.int .i64 a, .int .i64 b] w fun e w' => e = .returned (.int .i64 (1)) ∧ Gro w w' := by
  refine s_enter Try.func66 rfl Try.ntmps66 [.int .i64 a, .int .i64 b] [.int .i64 a, .int .i64 b, undef, undef, undef, undef, undef, undef, undef, undef, undef, undef, undef, undef, undef, undef, undef, undef, undef, undef] rfl ?_
  have GG := Gro.refl w
  refine wp_seq ?_
  refine wp_region_lit ?_
  refine s_val 4 rfl rfl (.int .i64 0) (rfl) ?_
  refine nr ?_; intro U h; simp only [z0, z1] at h; subst h
  refine wpList_nil ?_
  refine then_n ?_
  refine wp_seq ?_
  refine wp_region_lit ?_
  refine s_val 7 rfl rfl (.int .i64 a) (rfl) ?_
  refine nr ?_; intro U h; simp only [z0, z1] at h; subst h
  refine s_callv 8 rfl rfl _ 67 Try.call67 rfl rfl _ rfl [.int .i64 a] rfl (isNaN_any _ a) ?_
  intro w1 G
  replace GG := GG.trans G
  clear G
  refine nr ?_; intro U h; simp only [z0, z1] at h; subst h
  refine s_val 5 rfl rfl (.bool false) (rfl) ?_
  refine nr ?_; intro U h; simp only [z0, z1] at h; subst h
  refine wpList_nil ?_
  refine then_n ?_
  refine wp_seq ?_
  refine wp_region_lit ?_
  refine s_val 9 rfl rfl (.int .i64 b) (rfl) ?_
  refine nr ?_; intro U h; simp only [z0, z1] at h; subst h
  refine s_callv 10 rfl rfl _ 67 Try.call67 rfl rfl _ rfl [.int .i64 b] rfl (isNaN_any _ b) ?_
  intro w2 G
  replace GG := GG.trans G
  clear G
  refine nr ?_; intro U h; simp only [z0, z1] at h; subst h
  refine s_val 6 rfl rfl (.bool false) (rfl) ?_
  refine nr ?_; intro U h; simp only [z0, z1] at h; subst h
  refine wpList_nil ?_
  refine then_n ?_
  refine wp_seq ?_
  refine wp_seq ?_
  refine wp_region_lit ?_
  refine s_val 11 rfl rfl (.bool false) (rfl) ?_
  refine nr ?_; intro U h; simp only [z0, z1] at h; subst h
  refine wpList_nil ?_
  refine then_n ?_
  refine wp_cond_false rfl ?_
  refine wp_skip ?_
  refine then_n ?_
  refine wp_seq ?_
  refine wp_seq ?_
  refine wp_region_lit ?_
  refine s_val 13 rfl rfl (.bool false) (rfl) ?_
  refine nr ?_; intro U h; simp only [z0, z1] at h; subst h
  refine wpList_nil ?_
  refine then_n ?_
  refine wp_cond_false rfl ?_
  refine wp_skip ?_
  refine then_n ?_
  refine wp_seq ?_
  refine wp_seq ?_
  refine wp_region_lit ?_
  refine s_val 14 rfl rfl (.int .i64 a) (rfl) ?_
  refine nr ?_; intro U h; simp only [z0, z1] at h; subst h
  refine s_val 15 rfl rfl (.int .i64 b) (rfl) ?_
  refine nr ?_; intro U h; simp only [z0, z1] at h; subst h
  refine s_val 16 rfl rfl (.bool false) (run_lssT 2 _ _ _ rfl a b rfl rfl false (by first | exact decide_eq_true (by omega) | exact decide_eq_false (by omega)) _) ?_
  refine nr ?_; intro U h; simp only [z0, z1] at h; subst h
  refine wpList_nil ?_
  refine then_n ?_
  refine wp_cond_false rfl ?_
  refine wp_skip ?_
  refine then_n ?_
  refine wp_seq ?_
  refine wp_seq ?_
  refine wp_region_lit ?_
  refine s_val 17 rfl rfl (.int .i64 a) (rfl) ?_
  refine nr ?_; intro U h; simp only [z0, z1] at h; subst h
  refine s_val 18 rfl rfl (.int .i64 b) (rfl) ?_
  refine nr ?_; intro U h; simp only [z0, z1] at h; subst h
  refine s_val 19 rfl rfl (.bool true) (run_gtrT 2 _ _ _ rfl a b rfl rfl true (by first | exact decide_eq_true (by omega) | exact decide_eq_false (by omega)) _) ?_
  refine nr ?_; intro U h; simp only [z0, z1] at h; subst h
  refine wpList_nil ?_
  refine then_n ?_
  refine wp_cond_true rfl ?_
  refine wp_seq ?_
  refine wp_region_lit ?_
  refine s_val 4 rfl rfl (.int .i64 1) (rfl) ?_
  refine nr ?_; intro U h; simp only [z0, z1] at h; subst h
  refine wpList_nil ?_
  refine then_n ?_
  refine wp_ret ?_
  refine then_r ?_
  refine bodyPost_ret (results_tmp Try.results66 _ _ _) rfl ?_
  exact ⟨rfl, GG⟩
set_option maxRecDepth 100000 in
set_option maxHeartbeats 4000000 in
theorem compare_eq (w : World) (a b : Int) (h : a = b) : Calls Try.prog 66 #[.int .i64 a, .int .i64 b] w fun e w' => e = .returned (.int .i64 (0)) ∧ Gro w w' := by
  refine s_enter Try.func66 rfl Try.ntmps66 [.int .i64 a, .int .i64 b] [.int .i64 a, .int .i64 b, undef, undef, undef, undef, undef, undef, undef, undef, undef, undef, undef, undef, undef, undef, undef, undef, undef, undef] rfl ?_
  have GG := Gro.refl w
  refine wp_seq ?_
  refine wp_region_lit ?_
  refine s_val 4 rfl rfl (.int .i64 0) (rfl) ?_
  refine nr ?_; intro U h; simp only [z0, z1] at h; subst h
  refine wpList_nil ?_
  refine then_n ?_
  refine wp_seq ?_
  refine wp_region_lit ?_
  refine s_val 7 rfl rfl (.int .i64 a) (rfl) ?_
  refine nr ?_; intro U h; simp only [z0, z1] at h; subst h
  refine s_callv 8 rfl rfl _ 67 Try.call67 rfl rfl _ rfl [.int .i64 a] rfl (isNaN_any _ a) ?_
  intro w1 G
  replace GG := GG.trans G
  clear G
  refine nr ?_; intro U h; simp only [z0, z1] at h; subst h
  refine s_val 5 rfl rfl (.bool false) (rfl) ?_
  refine nr ?_; intro U h; simp only [z0, z1] at h; subst h
  refine wpList_nil ?_
  refine then_n ?_
  refine wp_seq ?_
  refine wp_region_lit ?_
  refine s_val 9 rfl rfl (.int .i64 b) (rfl) ?_
  refine nr ?_; intro U h; simp only [z0, z1] at h; subst h
  refine s_callv 10 rfl rfl _ 67 Try.call67 rfl rfl _ rfl [.int .i64 b] rfl (isNaN_any _ b) ?_
  intro w2 G
  replace GG := GG.trans G
  clear G
  refine nr ?_; intro U h; simp only [z0, z1] at h; subst h
  refine s_val 6 rfl rfl (.bool false) (rfl) ?_
  refine nr ?_; intro U h; simp only [z0, z1] at h; subst h
  refine wpList_nil ?_
  refine then_n ?_
  refine wp_seq ?_
  refine wp_seq ?_
  refine wp_region_lit ?_
  refine s_val 11 rfl rfl (.bool false) (rfl) ?_
  refine nr ?_; intro U h; simp only [z0, z1] at h; subst h
  refine wpList_nil ?_
  refine then_n ?_
  refine wp_cond_false rfl ?_
  refine wp_skip ?_
  refine then_n ?_
  refine wp_seq ?_
  refine wp_seq ?_
  refine wp_region_lit ?_
  refine s_val 13 rfl rfl (.bool false) (rfl) ?_
  refine nr ?_; intro U h; simp only [z0, z1] at h; subst h
  refine wpList_nil ?_
  refine then_n ?_
  refine wp_cond_false rfl ?_
  refine wp_skip ?_
  refine then_n ?_
  refine wp_seq ?_
  refine wp_seq ?_
  refine wp_region_lit ?_
  refine s_val 14 rfl rfl (.int .i64 a) (rfl) ?_
  refine nr ?_; intro U h; simp only [z0, z1] at h; subst h
  refine s_val 15 rfl rfl (.int .i64 b) (rfl) ?_
  refine nr ?_; intro U h; simp only [z0, z1] at h; subst h
  refine s_val 16 rfl rfl (.bool false) (run_lssT 2 _ _ _ rfl a b rfl rfl false (by first | exact decide_eq_true (by omega) | exact decide_eq_false (by omega)) _) ?_
  refine nr ?_; intro U h; simp only [z0, z1] at h; subst h
  refine wpList_nil ?_
  refine then_n ?_
  refine wp_cond_false rfl ?_
  refine wp_skip ?_
  refine then_n ?_
  refine wp_seq ?_
  refine wp_seq ?_
  refine wp_region_lit ?_
  refine s_val 17 rfl rfl (.int .i64 a) (rfl) ?_
  refine nr ?_; intro U h; simp only [z0, z1] at h; subst h
  refine s_val 18 rfl rfl (.int .i64 b) (rfl) ?_
  refine nr ?_; intro U h; simp only [z0, z1] at h; subst h
  refine s_val 19 rfl rfl (.bool false) (run_gtrT 2 _ _ _ rfl a b rfl rfl false (by first | exact decide_eq_true (by omega) | exact decide_eq_false (by omega)) _) ?_
  refine nr ?_; intro U h; simp only [z0, z1] at h; subst h
  refine wpList_nil ?_
  refine then_n ?_
  refine wp_cond_false rfl ?_
  refine wp_skip ?_
  refine then_n ?_
  refine wp_seq ?_
  refine wp_region_lit ?_
  refine s_val 4 rfl rfl (.int .i64 0) (rfl) ?_
  refine nr ?_; intro U h; simp only [z0, z1] at h; subst h
  refine wpList_nil ?_
  refine then_n ?_
  refine wp_ret ?_
  refine bodyPost_ret (results_tmp Try.results66 _ _ _) rfl ?_
  exact ⟨rfl, GG⟩
theorem compareI_any (w : World) (a b : Int) : Calls Try.prog 66 #[.int .i64 a, .int .i64 b] w fun e w' => e = .returned (.int .i64 (cmpI a b)) ∧ Gro w w' := by
  unfold cmpI
  split
  · exact compare_lt w a b ‹_›
  · split
    · exact compare_gt w a b ‹_›
    · exact compare_eq w a b (by omega)
theorem ab_at (a b : Int) (j : Nat) (h : j < 2) : (#[Value.int .i64 a, Value.int .i64 b] : Array Value)[j]? = some (.int .i64 ([a, b].getD j 0)) := by
  rcases j with _ | _ | j
  · rfl
  · rfl
  · omega
theorem or_two (a b : Int) : (if a = 0 then b else a) = if [a, b].getD 0 0 = 0 then [a, b].getD 1 0 else [a, b].getD 0 0 := rfl
set_option maxRecDepth 100000 in
set_option maxHeartbeats 4000000 in
theorem or_any (w : World) (g : Nat) (a b : Int) (H : w.heap[g]? = some (.cells #[.int .i64 a, .int .i64 b] 3 (0, 0))) : Calls Try.prog 65 #[.slice (some ⟨g, 0, none⟩) 2 2] w fun e w' => e = .returned (.int .i64 (if a = 0 then b else a)) ∧ Gro w w' := by
  refine s_enter Try.func65 rfl Try.ntmps65 [.slice (some ⟨g, 0, none⟩) 2 2] [.slice (some ⟨g, 0, none⟩) 2 2, undef, undef, undef, undef, undef, undef, undef, undef, undef, undef, undef, undef, undef, undef, undef, undef, undef] rfl ?_
  have GG := Gro.refl w
  have kg := H
  refine wp_seq ?_
  refine wp_region_lit ?_
  refine s_val 2 rfl rfl (.int .i64 0) (rfl) ?_
  refine nr ?_; intro U h; simp only [z0, z1] at h; subst h
  refine wpList_nil ?_
  refine then_n ?_
  refine wp_seq ?_
  refine wp_region_lit ?_
  refine s_val 3 rfl rfl (.int .i64 0) (rfl) ?_
  refine nr ?_; intro U h; simp only [z0, z1] at h; subst h
  refine wpList_nil ?_
  refine then_n ?_
  refine wp_seq ?_
  refine wp_seq ?_
  refine wp_region_lit ?_
  refine s_val 6 rfl rfl (.slice (some ⟨g, 0, none⟩) 2 2) (rfl) ?_
  refine nr ?_; intro U h; simp only [z0, z1] at h; subst h
  refine s_val 7 rfl rfl (.int .i64 ((2 : Nat) : Int)) (run_len Try.underlying39 _ rfl _ _ _ rfl _) ?_
  refine nr ?_; intro U h; simp only [z0, z1] at h; subst h
  refine s_val 8 rfl rfl (.int .i64 0) (rfl) ?_
  refine nr ?_; intro U h; simp only [z0, z1] at h; subst h
  refine wpList_nil ?_
  refine then_n ?_
  refine wp_block ?_
  refine wp_loopN (fun mz az wv => ∃ (j : Nat) (us1 : Nat → Value), mz = 2 - j ∧ az = ⟨[.slice (some ⟨g, 0, none⟩) 2 2, undef, us1 0, .int .i64 0, undef, us1 1, .slice (some ⟨g, 0, none⟩) 2 2, .int .i64 ((2 : Nat) : Int), .int .i64 ((j : Nat) : Int), us1 2, us1 3, us1 4, us1 5, us1 6, us1 7, us1 8, us1 9, undef].toArray, []⟩ ∧ j ≤ 2 ∧ (∀ i, i < j → [a, b].getD i 0 = 0) ∧ Gro w wv ∧ wv.heap[g]? = some (.cells #[.int .i64 a, .int .i64 b] 3 (0, 0))) ?_ _ ⟨0, (fun kz => ([.int .i64 0, undef, undef, undef, undef, undef, undef, undef, undef, undef] : List Value).getD kz undef), rfl, rfl, Nat.zero_le _, (fun i hi => absurd hi (by omega)), GG, kg⟩
  clear kg GG
  rintro mz az wv ⟨j, us1, rfl, rfl, hj, hz, GG, kg⟩
  refine wp_seq ?_
  refine wp_region_lit ?_
  obtain ⟨p1, hp1⟩ : ∃ p, decide (((j : Nat) : Int) < ((2 : Nat) : Int)) = p := ⟨_, rfl⟩
  refine s_val 9 rfl rfl (.bool p1) (run_lssT 3 _ _ _ rfl ((j : Nat) : Int) ((2 : Nat) : Int) rfl rfl p1 hp1 _) ?_
  refine nr ?_; intro U h; simp only [z0, z1] at h; subst h
  cases p1
  · have hjn : j = 2 := by have := of_decide_eq_false hp1; omega
    refine wpList_nil ?_
    refine then_n ?_
    refine wp_seq ?_
    refine wp_cond_false rfl ?_
    refine wp_exit ?_
    refine then_x ?_
    refine then_x ?_
    refine blk_x ?_
    refine then_n ?_
    refine wp_seq ?_
    refine wp_region_lit ?_
    refine s_val 17 rfl rfl (.int .i64 0) (rfl) ?_
    refine nr ?_; intro U h; simp only [z0, z1] at h; subst h
    refine s_val 2 rfl rfl (.int .i64 0) (rfl) ?_
    refine nr ?_; intro U h; simp only [z0, z1] at h; subst h
    refine wpList_nil ?_
    refine then_n ?_
    refine wp_ret ?_
    refine bodyPost_ret (results_tmp Try.results65 _ _ _) rfl ?_
    refine ⟨?_, GG⟩
    rw [or_two]
    have h0 := hz 0 (by omega)
    have h1 := hz 1 (by omega)
    rw [if_pos h0, h1]
    rfl
  have hjn : j < 2 := by have := of_decide_eq_true hp1; omega
  refine wpList_nil ?_
  refine then_n ?_
  refine wp_seq ?_
  refine wp_cond_true rfl ?_
  refine wp_skip ?_
  refine then_n ?_
  refine wp_seq ?_
  refine wp_block ?_
  refine wp_seq ?_
  refine wp_region_lit ?_
  refine s_val 10 rfl rfl (.pointer (some ⟨g, j, none⟩)) ((run_idx1 iT28 _ _ rfl ⟨g, 0, none⟩ 2 2 j rfl rfl hjn _).trans (by rw [add_at, Nat.zero_add])) ?_
  refine nr ?_; intro U h; simp only [z0, z1] at h; subst h
  refine s_val 11 rfl rfl (.int .i64 ([a, b].getD j 0)) (run_ldc 3 _ rfl g j rfl 3 _ kg (na3 _) _ (ab_at a b j hjn)) ?_
  refine nr ?_; intro U h; simp only [z0, z1] at h; subst h
  refine s_val 5 rfl rfl (.int .i64 ([a, b].getD j 0)) (rfl) ?_
  refine nr ?_; intro U h; simp only [z0, z1] at h; subst h
  refine wpList_nil ?_
  refine then_n ?_
  refine wp_seq ?_
  refine wp_region_lit ?_
  refine s_val 12 rfl rfl (.int .i64 ([a, b].getD j 0)) (rfl) ?_
  refine nr ?_; intro U h; simp only [z0, z1] at h; subst h
  refine s_val 13 rfl rfl (.int .i64 0) (rfl) ?_
  refine nr ?_; intro U h; simp only [z0, z1] at h; subst h
  obtain ⟨p2, hp2⟩ : ∃ p, (!decide ([a, b].getD j 0 = 0)) = p := ⟨_, rfl⟩
  refine s_val 14 rfl rfl (.bool p2) (run_neqS 3 _ _ _ rfl Try.underlying3 ([a, b].getD j 0) 0 rfl rfl p2 hp2 _) ?_
  refine nr ?_; intro U h; simp only [z0, z1] at h; subst h
  cases p2
  · have hne : [a, b].getD j 0 = 0 := by simpa using hp2
    refine wpList_nil ?_
    refine then_n ?_
    refine wp_cond_false rfl ?_
    refine wp_skip ?_
    refine blk_n ?_
    refine then_n ?_
    refine wp_region_lit ?_
    refine s_val 16 rfl rfl (.int .i64 ((j + 1 : Nat) : Int)) (run_addI 3 _ _ _ rfl ((j : Nat) : Int) 1 ((j + 1 : Nat) : Int) rfl rfl (by omega) (by omega) (by omega) _) ?_
    refine nr ?_; intro U h; simp only [z0, z1] at h; subst h
    refine s_val 8 rfl rfl (.int .i64 ((j + 1 : Nat) : Int)) (rfl) ?_
    refine nr ?_; intro U h; simp only [z0, z1] at h; subst h
    refine wpList_nil ?_
    refine then_n ?_
    refine ⟨_, (by omega : 2 - (j + 1) < 2 - j), j + 1, (fun kz => ([us1 0, .int .i64 ([a, b].getD j 0), .bool true, .pointer (some ⟨g, j, none⟩), .int .i64 ([a, b].getD j 0), .int .i64 ([a, b].getD j 0), .int .i64 0, .bool false, us1 8, .int .i64 ((j + 1 : Nat) : Int)] : List Value).getD kz undef), rfl, rfl, hjn, fun i hi => ?_, GG, kg⟩
    rcases Nat.lt_or_eq_of_le (Nat.le_of_lt_succ hi) with h | rfl
    · exact hz i h
    · exact hne
  have hne : ¬ [a, b].getD j 0 = 0 := by simpa using hp2
  refine wpList_nil ?_
  refine then_n ?_
  refine wp_cond_true rfl ?_
  refine wp_seq ?_
  refine wp_region_lit ?_
  refine s_val 15 rfl rfl (.int .i64 ([a, b].getD j 0)) (rfl) ?_
  refine nr ?_; intro U h; simp only [z0, z1] at h; subst h
  refine s_val 2 rfl rfl (.int .i64 ([a, b].getD j 0)) (rfl) ?_
  refine nr ?_; intro U h; simp only [z0, z1] at h; subst h
  refine wpList_nil ?_
  refine then_n ?_
  refine wp_ret ?_
  refine blk_r ?_
  refine then_r ?_
  refine then_r ?_
  refine blk_r ?_
  refine then_r ?_
  refine bodyPost_ret (results_tmp Try.results65 _ _ _) rfl ?_
  refine ⟨?_, GG⟩
  rw [or_two]
  rcases j with _ | _ | j
  · rw [if_neg hne]; rfl
  · rw [if_pos (hz 0 (by omega))]; rfl
  · omega
set_option maxRecDepth 100000 in
set_option maxHeartbeats 4000000 in
theorem compare_any (w : World) (ai an bi bn : Int) : Calls Try.prog 55 #[.agg (c29 ai an), .agg (c29 bi bn)] w fun e w' => e = .returned (.int .i64 (cmpP ai an bi bn)) ∧ Gro w w' := by
  refine s_enter Try.func55 rfl Try.ntmps55 [.agg (c29 ai an), .agg (c29 bi bn)] [.agg (c29 ai an), .agg (c29 bi bn), undef, undef, undef, undef, undef, undef, undef, undef, undef, undef, undef, undef, undef, undef, undef] rfl ?_
  have GG := Gro.refl w
  refine wp_seq ?_
  refine wp_region_lit ?_
  refine s_box 2 rfl rfl 29 _ rfl _ rfl (c29 ai an) rfl ?_
  intro w1 g1 G eg1 kg1
  have bg1 := size_base GG eg1
  replace GG := GG.trans G
  clear G eg1
  refine nr ?_; intro U h; simp only [z0, z1] at h; subst h
  refine s_box 3 rfl rfl 29 _ rfl _ rfl (c29 bi bn) rfl ?_
  intro w2 g2 G eg2 kg2
  have bg2 := size_base GG eg2
  have dg1g2 := lt_new kg1 eg2
  replace kg1 := G.has kg1
  replace GG := GG.trans G
  clear G eg2
  refine nr ?_; intro U h; simp only [z0, z1] at h; subst h
  refine s_val 4 rfl rfl (.int .i64 0) (rfl) ?_
  refine nr ?_; intro U h; simp only [z0, z1] at h; subst h
  refine wpList_nil ?_
  refine then_n ?_
  refine wp_seq ?_
  refine wp_region_exA (A := ?Ax5) 9 [(0, 5), (1, 6), (2, 7), (3, 8), (4, 9), (5, 10), (6, 11), (7, 12), (8, 13)] [.val (.pointer (some ⟨g1, 0, none⟩)), .val (.int .i64 ai), .val (.pointer (some ⟨g2, 0, none⟩)), .val (.int .i64 bi), .val (.int .i64 (cmpI ai bi)), .val (.pointer (some ⟨g1, 1, none⟩)), .val (.int .i64 an), .val (.pointer (some ⟨g2, 1, none⟩)), .val (.int .i64 bn)] follows (by kernel_rfl) rfl ?hAx5 (opsA_cons ?o0x5 (opsA_cons ?o1x5 (opsA_cons ?o2x5 (opsA_cons ?o3x5 (opsA_cons ?o4x5 (opsA_cons ?o5x5 (opsA_cons ?o6x5 (opsA_cons ?o7x5 (opsA_cons ?o8x5 opsA_nil))))))))) ?restx5
  case hAx5 =>
    intro ptrs
    simp only [full, foldSlots, filledE, postE, List.foldl_cons, List.foldl_nil, List.getD_cons_zero, List.getD_cons_succ, fill_val, List.set_cons_zero, List.set_cons_succ]
    exact rfl
  case o0x5 => exact fun _ _ hw _ => opE_value (v := .pointer (some ⟨g1, 0, none⟩)) rfl (run_fld 29 _ 0 rfl _ _ rfl _ (by kernel_rfl))
  case o1x5 => exact fun _ _ hw _ => opE_value (v := .int .i64 ai) rfl (run_ldc 2 _ rfl g1 0 rfl 29 _ (hw.has kg1) (na2 _) _ rfl)
  case o2x5 => exact fun _ _ hw _ => opE_value (v := .pointer (some ⟨g2, 0, none⟩)) rfl (run_fld 29 _ 0 rfl _ _ rfl _ (by kernel_rfl))
  case o3x5 => exact fun _ _ hw _ => opE_value (v := .int .i64 bi) rfl (run_ldc 2 _ rfl g2 0 rfl 29 _ (hw.has kg2) (na2 _) _ rfl)
  case o4x5 => exact fun _ _ hw _ => opE_call (.val (.int .i64 (cmpI ai bi))) rfl _ 66 Try.call66 rfl rfl _ rfl [.int .i64 ai, .int .i64 bi] rfl ((compareI_any _ ai bi).mono fun e w' ⟨he, hg⟩ => ⟨_, he, hg, rfl⟩)
  case o5x5 => exact fun _ _ hw _ => opE_value (v := .pointer (some ⟨g1, 1, none⟩)) rfl (run_fld 29 _ 1 rfl _ _ rfl _ (by kernel_rfl))
  case o6x5 => exact fun _ _ hw _ => opE_value (v := .int .i64 an) rfl (run_ldc 2 _ rfl g1 1 rfl 29 _ (hw.has kg1) (na2 _) _ rfl)
  case o7x5 => exact fun _ _ hw _ => opE_value (v := .pointer (some ⟨g2, 1, none⟩)) rfl (run_fld 29 _ 1 rfl _ _ rfl _ (by kernel_rfl))
  case o8x5 => exact fun _ _ hw _ => opE_value (v := .int .i64 bn) rfl (run_ldc 2 _ rfl g2 1 rfl 29 _ (hw.has kg2) (na2 _) _ rfl)
  intro ptrs w3 GD hxE
  simp only [List.drop_succ_cons, List.drop_zero]
  replace kg1 := GD.has kg1
  replace kg2 := GD.has kg2
  replace GG := GG.drew.trans GD
  clear GD
  refine s_callv 14 rfl rfl _ 66 Try.call66 rfl rfl _ rfl [.int .i64 an, .int .i64 bn] rfl (compareI_any _ an bn) ?_
  intro w4 G
  replace kg1 := G.has kg1
  replace kg2 := G.has kg2
  replace GG := GG.trans G
  clear G
  refine nr ?_; intro U h; simp only [z0, z1] at h; subst h
  refine s_bsl 15 rfl rfl 39 2 _ rfl [(0, .int .i64 (cmpI ai bi)), (1, .int .i64 (cmpI an bn))] rfl #[.int .i64 (cmpI ai bi), .int .i64 (cmpI an bn)] 3 (by kernel_rfl) ?_
  intro w5 gs G egs kgs
  have bgs := size_base GG egs
  have dg1gs := lt_new kg1 egs
  have dg2gs := lt_new kg2 egs
  replace kg1 := G.has kg1
  replace kg2 := G.has kg2
  replace GG := GG.trans G
  clear G egs
  refine nr ?_; intro U h; simp only [z0, z1] at h; subst h
  refine s_callv 16 rfl rfl _ 65 Try.call65 rfl rfl _ rfl [.slice (some ⟨gs, 0, none⟩) 2 2] rfl (or_any _ gs (cmpI ai bi) (cmpI an bn) kgs) ?_
  intro w6 G
  replace kg1 := G.has kg1
  replace kg2 := G.has kg2
  replace kgs := G.has kgs
  replace GG := GG.trans G
  clear G
  refine nr ?_; intro U h; simp only [z0, z1] at h; subst h
  refine s_val 4 rfl rfl (.int .i64 (cmpP ai an bi bn)) (rfl) ?_
  refine nr ?_; intro U h; simp only [z0, z1] at h; subst h
  refine wpList_nil ?_
  refine then_n ?_
  refine wp_ret ?_
  refine bodyPost_ret (results_tmp Try.results55 _ _ _) rfl ?_
  exact ⟨rfl, GG⟩
theorem no5_one {w : World} {g : Nat} {c : Array Value} {t : TypeId} (h : w.heap[g]? = some (.cells c t (0, 0))) (ht : t ≠ 5) : No5 w [g] := fun k hk => by
  cases List.mem_singleton.1 hk
  exact ⟨_, _, h, ht⟩
set_option maxRecDepth 100000 in
set_option maxHeartbeats 4000000 in
theorem greeting_any (w : World) (p wp B : Nat) (id : Nat → Nat) (up op : Bool) (mi mn pi pn : Int) (oth : Nat → Nat) (ro : Option Addr) (rc : Nat) (q : List RV) (k c : Nat) (H : EW w p wp B id up op mi mn pi pn oth ro rc q k c) : Calls Try.prog 35 #[.pointer (some ⟨p, 0, none⟩)] w (PlP w ⟨1, id, mi, mn, pi, pn, 0, []⟩) := by
  refine s_enter Try.func35 rfl Try.ntmps35 [.pointer (some ⟨p, 0, none⟩)] [.pointer (some ⟨p, 0, none⟩), undef, undef, undef, undef, undef, undef, undef, undef, undef, undef, undef, undef, undef, undef, undef, undef, undef] rfl ?_
  have GG := Gro.refl w
  have kp := H.box
  have HW := H.win
  have hpl := lt_of_heap kp
  refine wp_seq ?_
  refine wp_region_lit ?_
  refine s_alloc 2 rfl rfl 46 rfl _ zv46 _ rfl ?_
  intro w1 g1 G eg1 kg1
  have bg1 := size_base GG eg1
  have dpg1 := lt_new kp eg1
  replace kp := G.has kp
  replace HW := HW.gro G
  replace GG := GG.trans G
  clear G eg1
  refine nr ?_; intro U h; simp only [z0, z1] at h; subst h
  refine wpList_nil ?_
  refine then_n ?_
  refine wp_seq ?_
  refine wp_region_exA (A := ?Ax6) 12 [(0, 3), (1, 4), (2, 5), (3, 6), (4, 7), (5, 8), (6, 9), (7, 10), (8, 11), (9, 12), (10, 13), (11, 14)] [.val (.pointer (some ⟨p, 0, none⟩)), .val (.pointer (some ⟨p, 0, none⟩)), .val (.pointer (some ⟨p, 18, none⟩)), .val (.agg (c29 mi mn)), .val (.pointer (some ⟨p, 0, none⟩)), .val (.pointer (some ⟨p, 0, none⟩)), .val (.pointer (some ⟨p, 20, none⟩)), .val (.agg (c29 pi pn)), .val (.pointer (some ⟨p, 0, none⟩)), .val (.pointer (some ⟨p, 0, none⟩)), .val (.pointer (some ⟨p, 0, none⟩)), .val (.agg (c23 id))] follows (by kernel_rfl) rfl ?hAx6 (opsA_cons ?o0x6 (opsA_cons ?o1x6 (opsA_cons ?o2x6 (opsA_cons ?o3x6 (opsA_cons ?o4x6 (opsA_cons ?o5x6 (opsA_cons ?o6x6 (opsA_cons ?o7x6 (opsA_cons ?o8x6 (opsA_cons ?o9x6 (opsA_cons ?o10x6 (opsA_cons ?o11x6 opsA_nil)))))))))))) ?restx6
  case hAx6 =>
    intro ptrs
    simp only [full, foldSlots, filledE, postE, List.foldl_cons, List.foldl_nil, List.getD_cons_zero, List.getD_cons_succ, fill_val, List.set_cons_zero, List.set_cons_succ]
    exact rfl
  case o0x6 => exact fun _ _ _ _ => opE_move (v := .pointer (some ⟨p, 0, none⟩)) _ rfl rfl rfl
  case o1x6 => exact fun _ _ hw _ => opE_value (v := .pointer (some ⟨p, 0, none⟩)) rfl (run_nc _ rfl _ rfl)
  case o2x6 => exact fun _ _ hw _ => opE_value (v := .pointer (some ⟨p, 18, none⟩)) rfl (run_fld 98 _ 3 rfl _ _ rfl _ (by kernel_rfl))
  case o3x6 => exact fun _ _ hw _ => opE_value (v := .agg (c29 mi mn)) rfl (run_lda 29 _ rfl p 18 2 rfl 98 _ (hw.has kp) _ Try.underlying29 rfl si29 (Nat.le_of_ble_eq_true rfl) _ (by kernel_rfl))
  case o4x6 => exact fun _ _ _ _ => opE_move (v := .pointer (some ⟨p, 0, none⟩)) _ rfl rfl rfl
  case o5x6 => exact fun _ _ hw _ => opE_value (v := .pointer (some ⟨p, 0, none⟩)) rfl (run_nc _ rfl _ rfl)
  case o6x6 => exact fun _ _ hw _ => opE_value (v := .pointer (some ⟨p, 20, none⟩)) rfl (run_fld 98 _ 4 rfl _ _ rfl _ (by kernel_rfl))
  case o7x6 => exact fun _ _ hw _ => opE_value (v := .agg (c29 pi pn)) rfl (run_lda 29 _ rfl p 20 2 rfl 98 _ (hw.has kp) _ Try.underlying29 rfl si29 (Nat.le_of_ble_eq_true rfl) _ (by kernel_rfl))
  case o8x6 => exact fun _ _ _ _ => opE_move (v := .pointer (some ⟨p, 0, none⟩)) _ rfl rfl rfl
  case o9x6 => exact fun _ _ hw _ => opE_value (v := .pointer (some ⟨p, 0, none⟩)) rfl (run_nc _ rfl _ rfl)
  case o10x6 => exact fun _ _ hw _ => opE_value (v := .pointer (some ⟨p, 0, none⟩)) rfl (run_fld 98 _ 0 rfl _ _ rfl _ (by kernel_rfl))
  case o11x6 => exact fun _ _ hw _ => opE_value (v := .agg (c23 id)) rfl (run_lda 23 _ rfl p 0 16 rfl 98 _ (hw.has kp) _ Try.underlying23 rfl si23 (Nat.le_of_ble_eq_true rfl) _ (by kernel_rfl))
  intro ptrs w2 GD hxE
  simp only [List.drop_succ_cons, List.drop_zero]
  replace kp := GD.has kp
  replace kg1 := GD.has kg1
  replace HW := HW.gro ((Gro.refl _).drew.trans GD)
  replace GG := GG.drew.trans GD
  clear GD
  refine s_val 15 rfl rfl (.agg (c110 mi mn pi pn id)) (run_bd 110 _ rfl [(0, .agg (c29 mi mn)), (1, .agg (c29 pi pn)), (2, .agg (c23 id))] rfl _ (by kernel_rfl)) ?_
  refine nr ?_; intro U h; simp only [z0, z1] at h; subst h
  refine s_val 16 rfl rfl (.iface 110 (.agg (c110 mi mn pi pn id))) (run_mk 110 _ rfl _ rfl (by kernel_rfl)) ?_
  refine nr ?_; intro U h; simp only [z0, z1] at h; subst h
  refine s_callx 17 rfl rfl _ 50 Try.call50 rfl rfl _ rfl [.iface 110 (.agg (c110 mi mn pi pn id))] rfl (plain_h _ id mi mn pi pn) (fun _ _ ⟨_, _, _, _, _, he, _⟩ => ⟨_, he⟩) ?_
  rintro v w3 ⟨s1g, s2g, s3g, aog, capg, he, HVg, G⟩
  cases he
  replace kp := G.has kp
  replace kg1 := G.has kg1
  replace HW := HW.gro G
  replace GG := GG.trans G
  clear G
  refine nr ?_; intro U h; simp only [z0, z1] at h; subst h
  refine s_store rfl rfl 46 _ _ rfl g1 0 rfl (.agg (c46 1 zF 0 false id zF 0 mi mn pi pn s1g s2g zF 0 zF s3g 0 0 ⟨aog, 0, capg⟩)) rfl 46 _ kg1 (c46 1 zF 0 false id zF 0 mi mn pi pn s1g s2g zF 0 zF s3g 0 0 ⟨aog, 0, capg⟩) rfl (by kernel_rfl) (Nat.le_of_ble_eq_true rfl) (by kernel_rfl) (c46 1 zF 0 false id zF 0 mi mn pi pn s1g s2g zF 0 zF s3g 0 0 ⟨aog, 0, capg⟩) (by kernel_rfl) ?_
  intro w5 St
  replace kp := St.has (by omega) kp
  replace HW := HW.stT (by decide) (by decide) (by decide) kg1 St
  replace HVg := HVg.no5 ((GroS.refl [g1] _).st St (.inr (by simp))) (no5_one kg1 (by decide))
  replace GG := GG.store St bg1
  replace kg1 := St.new
  clear St
  refine wpList_nil ?_
  refine then_n ?_
  refine wp_ret ?_
  refine bodyPost_ret (results_cell_row Try.results35 _ _ g1 46 _ (0, 0) _ rfl kg1 Try.underlying46 rfl (by kernel_rfl)) rfl ?_
  exact ⟨_, _, _, _, _, rfl, HVg, GG⟩
set_option maxRecDepth 100000 in
set_option maxHeartbeats 4000000 in
theorem ack_any (w : World) (p wp B : Nat) (id : Nat → Nat) (up op : Bool) (mi mn pi pn : Int) (oth : Nat → Nat) (ro : Option Addr) (rc : Nat) (q : List RV) (k c : Nat) (H : EW w p wp B id up op mi mn pi pn oth ro rc q k c) (hk : k + q.length ≤ 100000) (hc : c ≤ 100000) : Calls Try.prog 57 #[.pointer (some ⟨p, 0, none⟩)] w (PlP w ⟨3, zF, mi, mn, pi, pn, ((c : Nat) : Int), []⟩) := by
  refine s_enter Try.func57 rfl Try.ntmps57 [.pointer (some ⟨p, 0, none⟩)] [.pointer (some ⟨p, 0, none⟩), undef, undef, undef, undef, undef, undef, undef, undef, undef, undef, undef, undef, undef, undef, undef, undef, undef, undef] rfl ?_
  have GG := Gro.refl w
  have kp := H.box
  have HW := H.win
  have hpl := lt_of_heap kp
  refine wp_seq ?_
  refine wp_region_lit ?_
  refine s_alloc 2 rfl rfl 46 rfl _ zv46 _ rfl ?_
  intro w1 g1 G eg1 kg1
  have bg1 := size_base GG eg1
  have dpg1 := lt_new kp eg1
  replace kp := G.has kp
  replace HW := HW.gro G
  replace GG := GG.trans G
  clear G eg1
  refine nr ?_; intro U h; simp only [z0, z1] at h; subst h
  refine wpList_nil ?_
  refine then_n ?_
  refine wp_seq ?_
  refine wp_region_exA (A := ?Ax8) 13 [(0, 3), (1, 4), (2, 5), (3, 6), (4, 7), (5, 8), (6, 9), (7, 10), (8, 11), (9, 12), (10, 13), (11, 14), (12, 15)] [.val (.pointer (some ⟨p, 0, none⟩)), .val (.pointer (some ⟨p, 0, none⟩)), .val (.pointer (some ⟨p, 18, none⟩)), .val (.agg (c29 mi mn)), .val (.pointer (some ⟨p, 0, none⟩)), .val (.pointer (some ⟨p, 0, none⟩)), .val (.pointer (some ⟨p, 20, none⟩)), .val (.agg (c29 pi pn)), .val (.pointer (some ⟨p, 0, none⟩)), .val (.pointer (some ⟨p, 0, none⟩)), .val (.pointer (some ⟨p, 38, none⟩)), .val (.pointer (some ⟨wp, 0, none⟩)), .val (.int .i64 ((c : Nat) : Int))] follows (by kernel_rfl) rfl ?hAx8 (opsA_cons ?o0x8 (opsA_cons ?o1x8 (opsA_cons ?o2x8 (opsA_cons ?o3x8 (opsA_cons ?o4x8 (opsA_cons ?o5x8 (opsA_cons ?o6x8 (opsA_cons ?o7x8 (opsA_cons ?o8x8 (opsA_cons ?o9x8 (opsA_cons ?o10x8 (opsA_cons ?o11x8 (opsA_cons ?o12x8 opsA_nil))))))))))))) ?restx8
  case hAx8 =>
    intro ptrs
    simp only [full, foldSlots, filledE, postE, List.foldl_cons, List.foldl_nil, List.getD_cons_zero, List.getD_cons_succ, fill_val, List.set_cons_zero, List.set_cons_succ]
    exact rfl
  case o0x8 => exact fun _ _ _ _ => opE_move (v := .pointer (some ⟨p, 0, none⟩)) _ rfl rfl rfl
  case o1x8 => exact fun _ _ hw _ => opE_value (v := .pointer (some ⟨p, 0, none⟩)) rfl (run_nc _ rfl _ rfl)
  case o2x8 => exact fun _ _ hw _ => opE_value (v := .pointer (some ⟨p, 18, none⟩)) rfl (run_fld 98 _ 3 rfl _ _ rfl _ (by kernel_rfl))
  case o3x8 => exact fun _ _ hw _ => opE_value (v := .agg (c29 mi mn)) rfl (run_lda 29 _ rfl p 18 2 rfl 98 _ (hw.has kp) _ Try.underlying29 rfl si29 (Nat.le_of_ble_eq_true rfl) _ (by kernel_rfl))
  case o4x8 => exact fun _ _ _ _ => opE_move (v := .pointer (some ⟨p, 0, none⟩)) _ rfl rfl rfl
  case o5x8 => exact fun _ _ hw _ => opE_value (v := .pointer (some ⟨p, 0, none⟩)) rfl (run_nc _ rfl _ rfl)
  case o6x8 => exact fun _ _ hw _ => opE_value (v := .pointer (some ⟨p, 20, none⟩)) rfl (run_fld 98 _ 4 rfl _ _ rfl _ (by kernel_rfl))
  case o7x8 => exact fun _ _ hw _ => opE_value (v := .agg (c29 pi pn)) rfl (run_lda 29 _ rfl p 20 2 rfl 98 _ (hw.has kp) _ Try.underlying29 rfl si29 (Nat.le_of_ble_eq_true rfl) _ (by kernel_rfl))
  case o8x8 => exact fun _ _ _ _ => opE_move (v := .pointer (some ⟨p, 0, none⟩)) _ rfl rfl rfl
  case o9x8 => exact fun _ _ hw _ => opE_value (v := .pointer (some ⟨p, 0, none⟩)) rfl (run_nc _ rfl _ rfl)
  case o10x8 => exact fun _ _ hw _ => opE_value (v := .pointer (some ⟨p, 38, none⟩)) rfl (run_fld 98 _ 6 rfl _ _ rfl _ (by kernel_rfl))
  case o11x8 => exact fun _ _ hw _ => opE_value (v := .pointer (some ⟨wp, 0, none⟩)) rfl (run_ldc 95 _ rfl p 38 rfl 98 _ (hw.has kp) (na95 _) _ rfl)
  case o12x8 => exact fun _ _ hw _ => opE_call (.val (.int .i64 ((c : Nat) : Int))) rfl _ 49 Try.call49 rfl rfl _ rfl [.pointer (some ⟨wp, 0, none⟩)] rfl ((got_any _ wp B ro rc q k c (HW.gro ((Gro.refl _).drew.trans hw)) hk hc).mono fun e w' ⟨he, hg⟩ => ⟨_, he, hg, rfl⟩)
  intro ptrs w2 GD hxE
  simp only [List.drop_succ_cons, List.drop_zero]
  replace kp := GD.has kp
  replace kg1 := GD.has kg1
  replace HW := HW.gro ((Gro.refl _).drew.trans GD)
  replace GG := GG.drew.trans GD
  clear GD
  refine s_val 16 rfl rfl (.agg (c129 mi mn pi pn ((c : Nat) : Int))) (run_bd 129 _ rfl [(0, .agg (c29 mi mn)), (1, .agg (c29 pi pn)), (2, .int .i64 ((c : Nat) : Int))] rfl _ (by kernel_rfl)) ?_
  refine nr ?_; intro U h; simp only [z0, z1] at h; subst h
  refine s_val 17 rfl rfl (.iface 129 (.agg (c129 mi mn pi pn ((c : Nat) : Int)))) (run_mk 129 _ rfl _ rfl (by kernel_rfl)) ?_
  refine nr ?_; intro U h; simp only [z0, z1] at h; subst h
  refine s_callx 18 rfl rfl _ 50 Try.call50 rfl rfl _ rfl [.iface 129 (.agg (c129 mi mn pi pn ((c : Nat) : Int)))] rfl (plain_a _ mi mn pi pn ((c : Nat) : Int)) (fun _ _ ⟨_, _, _, _, _, he, _⟩ => ⟨_, he⟩) ?_
  rintro v w3 ⟨s1g, s2g, s3g, aog, capg, he, HVg, G⟩
  cases he
  replace kp := G.has kp
  replace kg1 := G.has kg1
  replace HW := HW.gro G
  replace GG := GG.trans G
  clear G
  refine nr ?_; intro U h; simp only [z0, z1] at h; subst h
  refine s_store rfl rfl 46 _ _ rfl g1 0 rfl (.agg (c46 3 zF 0 false zF zF ((c : Nat) : Int) mi mn pi pn s1g s2g zF 0 zF s3g 0 0 ⟨aog, 0, capg⟩)) rfl 46 _ kg1 (c46 3 zF 0 false zF zF ((c : Nat) : Int) mi mn pi pn s1g s2g zF 0 zF s3g 0 0 ⟨aog, 0, capg⟩) rfl (by kernel_rfl) (Nat.le_of_ble_eq_true rfl) (by kernel_rfl) (c46 3 zF 0 false zF zF ((c : Nat) : Int) mi mn pi pn s1g s2g zF 0 zF s3g 0 0 ⟨aog, 0, capg⟩) (by kernel_rfl) ?_
  intro w5 St
  replace kp := St.has (by omega) kp
  replace HW := HW.stT (by decide) (by decide) (by decide) kg1 St
  replace HVg := HVg.no5 ((GroS.refl [g1] _).st St (.inr (by simp))) (no5_one kg1 (by decide))
  replace GG := GG.store St bg1
  replace kg1 := St.new
  clear St
  refine wpList_nil ?_
  refine then_n ?_
  refine wp_ret ?_
  refine bodyPost_ret (results_cell_row Try.results57 _ _ g1 46 _ (0, 0) _ rfl kg1 Try.underlying46 rfl (by kernel_rfl)) rfl ?_
  exact ⟨_, _, _, _, _, rfl, HVg, GG⟩
end Go.Proofs.Ytlfanecaglbomaa
