/- A path begins, a Setup comes: the program's. -/
import Derived.Test.YtkjnefgenffhcaaGZ2
namespace Go.Proofs.Ytkjnefgenffhcaa
open Go.RowKit Go.Maps
/-- A call that may write the table at b, and answers what came of it. -/
def TakP (w : World) (b : Nat) (E : Ed) (L : List En) (e : Ending) (w' : World) : Prop := ∃ ao n, e = .returned (.agg (edA ao n E.mine E.full)) ∧ OutP w' w.heap.size E.out ao n ∧ TM w' b L ∧ GroS [b] w w'
def StaP (w : World) (b : Nat) (E : Ed) (c : Int) (L : List En) (e : Ending) (w' : World) : Prop := ∃ ao n, e = .returned (.tuple #[.agg (edA ao n E.mine E.full), .int .i64 c]) ∧ OutP w' w.heap.size E.out ao n ∧ TM w' b L ∧ GroS [b] w w'
section
variable {room : Nat} {L : List En} {fr nx N : Int} {M : Msg} {o : List Bool} {ID b : Nat} {p : Pa} {way : List Int}
theorem psE_no (h : isO o nx = false) : psE room L fr M nx o = edNo M.p fr false := if_neg (by rw [h]; decide)
theorem psL_no (h : isO o nx = false) : psL room L fr M nx o = L := if_neg (by rw [h]; decide)
theorem psE_add (h : isO o nx = true) (hc : addC room L (xT fr M nx) = 0) : psE room L fr M nx o = ⟨some (nx, mSet M.p M.a M.b M.l), false, false⟩ := (if_pos h).trans (if_pos hc)
theorem psE_full (h : isO o nx = true) (hc : ¬ addC room L (xT fr M nx) = 0) : psE room L fr M nx o = edNo M.p fr (decide (addC room L (xT fr M nx) = 5)) := (if_pos h).trans (if_neg hc)
theorem psL_yes (h : isO o nx = true) : psL room L fr M nx o = addL room L (xT fr M nx) := if_pos h
theorem enE_no (h : ¬ M.b = ID) : enE room L fr M ID = edNo M.p fr false := if_neg h
theorem enL_no (h : ¬ M.b = ID) : enL' room L fr M ID = L := if_neg h
theorem enE_add (h : M.b = ID) (hc : addC room L (xT fr M (-1)) = 0) : enE room L fr M ID = ⟨none, true, false⟩ := (if_pos h).trans (if_pos hc)
theorem enE_full (h : M.b = ID) (hc : ¬ addC room L (xT fr M (-1)) = 0) : enE room L fr M ID = edNo M.p fr (decide (addC room L (xT fr M (-1)) = 5)) := (if_pos h).trans (if_neg hc)
theorem enL_yes (h : M.b = ID) : enL' room L fr M ID = addL room L (xT fr M (-1)) := if_pos h
theorem st_no (h : ¬ (lead N way = true ∧ b ≠ ID)) : stE room L N ID p b way o = ed0 ∧ stC room L N ID p b way o = 1 ∧ stL room L N ID p b way o = L := ⟨if_neg h, if_neg h, if_neg h⟩
theorem st_shut (h : lead N way = true ∧ b ≠ ID) (ho : isO o (way.getD 1 0) = false) : stE room L N ID p b way o = ed0 ∧ stC room L N ID p b way o = 10 ∧ stL room L N ID p b way o = L :=
  ⟨(if_pos h).trans (if_neg (by rw [ho]; decide)), (if_pos h).trans (if_neg (by rw [ho]; decide)), (if_pos h).trans (if_neg (by rw [ho]; decide))⟩
theorem st_add (h : lead N way = true ∧ b ≠ ID) (ho : isO o (way.getD 1 0) = true) (hc : addC room L (xS ID p b way) = 0) : stE room L N ID p b way o = ⟨some (way.getD 1 0, mSet p ID b way), true, false⟩ ∧ stC room L N ID p b way o = 0 ∧ stL room L N ID p b way o = addL room L (xS ID p b way) :=
  ⟨(if_pos h).trans ((if_pos ho).trans (if_pos hc)), (if_pos h).trans ((if_pos ho).trans hc), (if_pos h).trans (if_pos ho)⟩
theorem st_full (h : lead N way = true ∧ b ≠ ID) (ho : isO o (way.getD 1 0) = true) (hc : ¬ addC room L (xS ID p b way) = 0) : stE room L N ID p b way o = ⟨none, false, decide (addC room L (xS ID p b way) = 5)⟩ ∧ stC room L N ID p b way o = addC room L (xS ID p b way) ∧ stL room L N ID p b way o = addL room L (xS ID p b way) :=
  ⟨(if_pos h).trans ((if_pos ho).trans (if_neg hc)), (if_pos h).trans (if_pos ho), (if_pos h).trans (if_pos ho)⟩
theorem plc_in {l : List Int} {x : Int} (h : 1 ≤ plc l x) : ∃ q : Nat, plc l x = (q : Int) ∧ 1 ≤ q ∧ q < l.length := by
  unfold plc at *
  split at h
  · rename_i hm
    rw [if_pos hm]
    exact ⟨l.idxOf x, rfl, by omega, List.idxOf_lt_length_iff.2 hm⟩
  · omega
theorem tk_for {q : Nat} (hk : M.kind = 4) (hs : M.l.Nodup) (hq : plc M.l N = (q : Int)) (h1 : 1 ≤ q) (hf : M.l.getD (q - 1) 0 = fr) : forMe N fr M = true := by
  unfold forMe
  rw [hq, decide_eq_true hk, decide_eq_true hs, decide_eq_true (show 1 ≤ (q : Int) by omega), Int.toNat_natCast, decide_eq_true hf]
  rfl
theorem tk_not (h : ¬ (M.kind = 4 ∧ M.l.Nodup ∧ 1 ≤ plc M.l N ∧ M.l.getD ((plc M.l N).toNat - 1) 0 = fr)) : tkE room L N ID fr M o = ed0 ∧ tkL room L N ID fr M o = L := by
  have : forMe N fr M = false := by
    rw [Bool.eq_false_iff]
    intro hh
    exact h (by simpa only [forMe, Bool.and_eq_true, decide_eq_true_eq] using hh)
  exact ⟨if_neg (by rw [this]; decide), if_neg (by rw [this]; decide)⟩
theorem tk_mid {q : Nat} (hm : forMe N fr M = true) (hq : plc M.l N = (q : Int)) (h : q + 1 < M.l.length) : tkE room L N ID fr M o = psE room L fr M ((M.l.drop (q + 1)).getD 0 0) o ∧ tkL room L N ID fr M o = psL room L fr M ((M.l.drop (q + 1)).getD 0 0) o := by
  have e : nxt N M = (M.l.drop (q + 1)).getD 0 0 := by
    unfold nxt
    rw [hq, Int.toNat_natCast]
    simp [List.getD_eq_getElem?_getD]
  have hmid : mid N M = true := by unfold mid; rw [hq, Int.toNat_natCast]; exact decide_eq_true h
  rw [← e]
  exact ⟨(if_pos hm).trans (if_pos hmid), (if_pos hm).trans (if_pos hmid)⟩
theorem tk_end {q : Nat} (hm : forMe N fr M = true) (hq : plc M.l N = (q : Int)) (h : ¬ q + 1 < M.l.length) : tkE room L N ID fr M o = enE room L fr M ID ∧ tkL room L N ID fr M o = enL' room L fr M ID := by
  have hmid : ¬ mid N M = true := by unfold mid; rw [hq, Int.toNat_natCast]; simpa using h
  exact ⟨(if_pos hm).trans (if_neg hmid), (if_pos hm).trans (if_neg hmid)⟩
theorem xT_ok (hM : M.ok) (h1 : I64 fr) (h2 : I64 nx) : (xT fr M nx).ok := ⟨hM.p, hM.a, hM.b, h1, h2⟩
end
theorem run_dropX {w : World} {ao : Option Addr} {cap : Nat} {l : List Int} (h : RC w ao cap l) (i : Nat) (hi : i ≤ l.length) :
    ∃ a2 c2, RC w a2 c2 (l.drop i) ∧ ∀ {o : Oper} {A : Act} (x y : Operand), o.op = .slice 32 x (some y) none none → A.eval x = .slice ao l.length cap → A.eval y = .int .i64 (i : Int) → ∀ w, (execOp A.eval o).run Try.prog w = .ok (.value (.slice a2 (l.drop i).length c2)) w :=
  ⟨_, _, h.drop i hi, fun x y ho hx hy w => by rw [run_cutX rI x y ho ao l.length cap i hx hy hi w, List.length_drop]⟩
set_option maxRecDepth 100000 in
set_option maxHeartbeats 4000000 in
theorem pass_any (w : World) (t b room : Nat) (L : List En) (kt : w.heap[t]? = some (.cells (tbA room b) 99 (0, 0))) (HT : TM w b L) (M : Msg) (hM : M.ok) (ao : Option Addr) (cap : Nat) (HI : RC w ao cap M.l) (hl : M.l.length ≤ 17592186044416) (fr nx : Int) (hfr : I64 fr) (hnx : I64 nx) (ap : Option Addr) (cq : Nat) (o : List Bool) (HB : RK kB w ap cq o) : Calls Try.prog 37 #[.pointer (some ⟨t, 0, none⟩), .agg (suA M.p M.a M.b ao M.l.length cap), .int .i64 fr, .int .i64 nx, .slice ap o.length cq] w (TakP w b (psE room L fr M nx o) (psL room L fr M nx o)) := by
  refine s_enter Try.func37 rfl Try.ntmps37 [.pointer (some ⟨t, 0, none⟩), .agg (suA M.p M.a M.b ao M.l.length cap), .int .i64 fr, .int .i64 nx, .slice ap o.length cq] [.pointer (some ⟨t, 0, none⟩), .agg (suA M.p M.a M.b ao M.l.length cap), .int .i64 fr, .int .i64 nx, .slice ap o.length cq, undef, undef, undef, undef, undef, undef, undef, undef, undef, undef, undef, undef, undef, undef, undef, undef, undef, undef, undef, undef, undef, undef, undef, undef, undef, undef, undef, undef, undef, undef, undef, undef, undef] rfl ?_
  have GG := GroS.refl [b] w
  refine wp_seq ?_
  refine wp_region_lit ?_
  refine s_box 6 rfl rfl 88 _ rfl _ rfl (suA M.p M.a M.b ao M.l.length cap) rfl ?_
  intro w1 g1 G eg1 kg1
  have bg1 := size_basS GG eg1
  have dtg1 := lt_new kt eg1
  have dHTg1 := HT.ne eg1
  have dHIg1 := HI.ne eg1
  have dHBg1 := HB.ne eg1
  replace kt := G.has kt
  replace HT := HT.gro G
  replace HI := HI.gro G
  replace HB := HB.gro G
  replace GG := GG.tg G
  clear G
  clear eg1
  refine nr ?_; intro U h; simp only [z0, z1] at h; subst h
  refine s_alloc 10 rfl rfl 41 rfl _ zvD (edA none 0 false false) rfl ?_
  intro w2 g2 G eg2 kg2
  have bg2 := size_basS GG eg2
  have dtg2 := lt_new kt eg2
  have dg1g2 := lt_new kg1 eg2
  have dHTg2 := HT.ne eg2
  have dHIg2 := HI.ne eg2
  have dHBg2 := HB.ne eg2
  replace kt := G.has kt
  replace kg1 := G.has kg1
  replace HT := HT.gro G
  replace HI := HI.gro G
  replace HB := HB.gro G
  replace GG := GG.tg G
  clear G
  clear eg2
  refine nr ?_; intro U h; simp only [z0, z1] at h; subst h
  refine wpList_nil ?_
  refine then_n ?_
  refine wp_seq ?_
  refine wp_seq ?_
  cases ho : decide (isO o nx = true)
  · refine wp_region_lit ?_
    refine s_val 12 rfl rfl (.slice ap o.length cq) (rfl) ?_
    refine nr ?_; intro U h; simp only [z0, z1] at h; subst h
    refine s_val 13 rfl rfl (.int .i64 nx) (rfl) ?_
    refine nr ?_; intro U h; simp only [z0, z1] at h; subst h
    refine s_callv 14 rfl rfl _ 28 Try.call28 rfl rfl _ rfl [.slice ap o.length cq, .int .i64 nx] rfl (Calls.bool (isOpen_any _ ap cq o (HB) nx) (Bool.eq_false_iff.2 (of_decide_eq_false ho))) ?_
    intro w3 G
    replace kt := G.has kt
    replace kg1 := G.has kg1
    replace kg2 := G.has kg2
    replace HT := HT.gro G
    replace HI := HI.gro G
    replace HB := HB.gro G
    replace GG := GG.tg G
    clear G
    refine nr ?_; intro U h; simp only [z0, z1] at h; subst h
    refine s_val 15 rfl rfl (.bool true) (run_nt _ _ rfl false rfl) ?_
    refine nr ?_; intro U h; simp only [z0, z1] at h; subst h
    refine wpList_nil ?_
    refine then_n ?_
    refine wp_cond_true rfl ?_
    refine wp_seq ?_
    refine wp_region_lit ?_
    refine s_val 16 rfl rfl (.pointer (some ⟨g1, 0, none⟩)) (run_fld 88 _ 0 rfl g1 0 rfl 0 (by kernel_rfl)) ?_
    refine nr ?_; intro U h; simp only [z0, z1] at h; subst h
    refine s_val 17 rfl rfl (.agg (paA M.p)) (ldU_p _ rfl g1 rfl (kg1)) ?_
    refine nr ?_; intro U h; simp only [z0, z1] at h; subst h
    refine s_val 18 rfl rfl (.int .i64 fr) (rfl) ?_
    refine nr ?_; intro U h; simp only [z0, z1] at h; subst h
    refine s_callx 19 rfl rfl _ 51 Try.call51 rfl rfl _ rfl [.agg (paA M.p), .int .i64 fr] rfl (refused_any _ M.p fr) (by rintro _ _ ⟨_, _, he, _⟩; exact ⟨_, he⟩) ?_
    rintro v w4 ⟨ao1, n1, he, G, HO1⟩
    cases he
    replace HO1 := HO1.mono GG.size
    replace kt := G.has kt
    replace kg1 := G.has kg1
    replace kg2 := G.has kg2
    replace HT := HT.gro G
    replace HI := HI.gro G
    replace HB := HB.gro G
    replace GG := GG.tg G
    clear G
    refine nr ?_; intro U h; simp only [z0, z1] at h; subst h
    refine s_store rfl rfl 41 _ _ rfl g2 0 rfl (.agg (edA ao1 n1 false false)) rfl 41 _ kg2 (edA ao1 n1 false false) rfl (siD' _ _ _ _) (Nat.le_refl _) (oneD _ _ _ _) (edA ao1 n1 false false) (splice_whole _ _ (rfl)) ?_
    intro w5 St
    have kS := kg2
    replace kt := St.has (by omega) kt
    replace kg1 := St.has (by omega) kg1
    replace HT := HT.st St dHTg2
    replace HI := HI.st St dHIg2
    replace HB := HB.st St dHBg2
    replace HO1 := HO1.st St kS (by decide)
    replace GG := GG.st St (.inl bg2)
    replace kg2 := St.new
    clear St
    refine wpList_nil ?_
    refine then_n ?_
    refine wp_ret ?_
    refine then_r ?_
    refine bodyPost_ret (results_cell_row Try.results37 _ _ g2 41 _ (0, 0) _ rfl kg2 Try.underlying41 rfl (siD' _ _ _ _)) rfl ?_
    rw [psE_no (Bool.eq_false_iff.2 (of_decide_eq_false ho)), psL_no (Bool.eq_false_iff.2 (of_decide_eq_false ho))]
    exact ⟨_, _, rfl, HO1, HT, GG⟩
  · refine wp_region_lit ?_
    refine s_val 12 rfl rfl (.slice ap o.length cq) (rfl) ?_
    refine nr ?_; intro U h; simp only [z0, z1] at h; subst h
    refine s_val 13 rfl rfl (.int .i64 nx) (rfl) ?_
    refine nr ?_; intro U h; simp only [z0, z1] at h; subst h
    refine s_callv 14 rfl rfl _ 28 Try.call28 rfl rfl _ rfl [.slice ap o.length cq, .int .i64 nx] rfl (Calls.bool (isOpen_any _ ap cq o (HB) nx) (of_decide_eq_true ho)) ?_
    intro w3 G
    replace kt := G.has kt
    replace kg1 := G.has kg1
    replace kg2 := G.has kg2
    replace HT := HT.gro G
    replace HI := HI.gro G
    replace HB := HB.gro G
    replace GG := GG.tg G
    clear G
    refine nr ?_; intro U h; simp only [z0, z1] at h; subst h
    refine s_val 15 rfl rfl (.bool false) (run_nt _ _ rfl true rfl) ?_
    refine nr ?_; intro U h; simp only [z0, z1] at h; subst h
    refine wpList_nil ?_
    refine then_n ?_
    refine wp_cond_false rfl ?_
    refine wp_skip ?_
    refine then_n ?_
    refine wp_seq ?_
    refine wp_seq ?_
    refine wp_region_lit ?_
    refine s_val 20 rfl rfl (.pointer (some ⟨t, 0, none⟩)) (rfl) ?_
    refine nr ?_; intro U h; simp only [z0, z1] at h; subst h
    refine s_val 21 rfl rfl (.agg (suA M.p M.a M.b ao M.l.length cap)) (ldU_0 _ rfl g1 rfl (kg1)) ?_
    refine nr ?_; intro U h; simp only [z0, z1] at h; subst h
    refine s_val 22 rfl rfl (.int .i64 fr) (rfl) ?_
    refine nr ?_; intro U h; simp only [z0, z1] at h; subst h
    refine s_val 23 rfl rfl (.int .i64 nx) (rfl) ?_
    refine nr ?_; intro U h; simp only [z0, z1] at h; subst h
    refine s_callv 24 rfl rfl _ 52 Try.call52 rfl rfl _ rfl [.agg (suA M.p M.a M.b ao M.l.length cap), .int .i64 fr, .int .i64 nx] rfl (entry_any _ M.p M.a M.b ao M.l.length cap fr nx) ?_
    intro w4 G
    replace kt := G.has kt
    replace kg1 := G.has kg1
    replace kg2 := G.has kg2
    replace HT := HT.gro G
    replace HI := HI.gro G
    replace HB := HB.gro G
    replace GG := GG.tg G
    clear G
    refine nr ?_; intro U h; simp only [z0, z1] at h; subst h
    refine s_callx 25 rfl rfl _ 24 Try.call24 rfl rfl _ rfl [.pointer (some ⟨t, 0, none⟩), .agg (enA (xT fr M nx))] rfl (add_any _ t b room L (kt) (HT) (xT fr M nx) (xT_ok hM hfr hnx)) (by rintro _ _ ⟨he, _⟩; exact ⟨_, he⟩) ?_
    rintro v w5 ⟨he, HT2, G2⟩
    cases he
    replace kt := G2.has kt (by simpa using HT.nec kt)
    replace kg1 := G2.has kg1 (by simpa using HT.nec kg1)
    replace kg2 := G2.has kg2 (by simpa using HT.nec kg2)
    replace HI := HI.mapw HT G2
    replace HB := HB.mapw HT G2
    replace GG := GG.trans G2
    clear HT G2
    have HT := HT2
    clear HT2
    refine nr ?_; intro U h; simp only [z0, z1] at h; subst h
    refine s_val 11 rfl rfl (.int .i64 (addC room L (xT fr M nx))) (rfl) ?_
    refine nr ?_; intro U h; simp only [z0, z1] at h; subst h
    refine wpList_nil ?_
    refine then_n ?_
    refine wp_seq ?_
    refine wp_region_lit ?_
    refine s_val 26 rfl rfl (.int .i64 (addC room L (xT fr M nx))) (rfl) ?_
    refine nr ?_; intro U h; simp only [z0, z1] at h; subst h
    cases hc : decide (addC room L (xT fr M nx) = 0)
    · refine s_val 27 rfl rfl (.bool true) (run_neq_k 42 .i64 _ _ _ rfl Try.underlying42 (addC room L (xT fr M nx)) 0 rfl rfl true hc _) ?_
      refine nr ?_; intro U h; simp only [z0, z1] at h; subst h
      refine wpList_nil ?_
      refine then_n ?_
      refine wp_cond_true rfl ?_
      refine wp_seq ?_
      refine wp_region_lit ?_
      refine s_val 28 rfl rfl (.pointer (some ⟨g1, 0, none⟩)) (run_fld 88 _ 0 rfl g1 0 rfl 0 (by kernel_rfl)) ?_
      refine nr ?_; intro U h; simp only [z0, z1] at h; subst h
      refine s_val 29 rfl rfl (.agg (paA M.p)) (ldU_p _ rfl g1 rfl (kg1)) ?_
      refine nr ?_; intro U h; simp only [z0, z1] at h; subst h
      refine s_val 30 rfl rfl (.int .i64 fr) (rfl) ?_
      refine nr ?_; intro U h; simp only [z0, z1] at h; subst h
      refine s_val 31 rfl rfl (.int .i64 (addC room L (xT fr M nx))) (rfl) ?_
      refine nr ?_; intro U h; simp only [z0, z1] at h; subst h
      refine s_callx 32 rfl rfl _ 53 Try.call53 rfl rfl _ rfl [.agg (paA M.p), .int .i64 fr, .int .i64 (addC room L (xT fr M nx))] rfl (notAdded_any _ M.p fr (addC room L (xT fr M nx))) (by rintro _ _ ⟨_, _, he, _⟩; exact ⟨_, he⟩) ?_
      rintro v w6 ⟨ao2, n2, he, G, HO2⟩
      cases he
      replace HO2 := HO2.mono GG.size
      replace kt := G.has kt
      replace kg1 := G.has kg1
      replace kg2 := G.has kg2
      replace HT := HT.gro G
      replace HI := HI.gro G
      replace HB := HB.gro G
      replace GG := GG.tg G
      clear G
      refine nr ?_; intro U h; simp only [z0, z1] at h; subst h
      refine s_store rfl rfl 41 _ _ rfl g2 0 rfl (.agg (edA ao2 n2 false (decide (addC room L (xT fr M nx) = 5)))) rfl 41 _ kg2 (edA ao2 n2 false (decide (addC room L (xT fr M nx) = 5))) rfl (siD' _ _ _ _) (Nat.le_refl _) (oneD _ _ _ _) (edA ao2 n2 false (decide (addC room L (xT fr M nx) = 5))) (splice_whole _ _ (rfl)) ?_
      intro w7 St
      have kS := kg2
      replace kt := St.has (by omega) kt
      replace kg1 := St.has (by omega) kg1
      replace HT := HT.st St dHTg2
      replace HI := HI.st St dHIg2
      replace HB := HB.st St dHBg2
      replace HO2 := HO2.st St kS (by decide)
      replace GG := GG.st St (.inl bg2)
      replace kg2 := St.new
      clear St
      refine wpList_nil ?_
      refine then_n ?_
      refine wp_ret ?_
      refine then_r ?_
      refine bodyPost_ret (results_cell_row Try.results37 _ _ g2 41 _ (0, 0) _ rfl kg2 Try.underlying41 rfl (siD' _ _ _ _)) rfl ?_
      rw [psE_full (of_decide_eq_true ho) (of_decide_eq_false hc), psL_yes (of_decide_eq_true ho)]
      exact ⟨_, _, rfl, HO2, HT, GG⟩
    · refine s_val 27 rfl rfl (.bool false) (run_neq_k 42 .i64 _ _ _ rfl Try.underlying42 (addC room L (xT fr M nx)) 0 rfl rfl false hc _) ?_
      refine nr ?_; intro U h; simp only [z0, z1] at h; subst h
      refine wpList_nil ?_
      refine then_n ?_
      refine wp_cond_false rfl ?_
      refine wp_skip ?_
      refine then_n ?_
      refine wp_seq ?_
      refine wp_region_lit ?_
      refine s_val 33 rfl rfl (.int .i64 nx) (rfl) ?_
      refine nr ?_; intro U h; simp only [z0, z1] at h; subst h
      refine s_val 34 rfl rfl (.agg (suA M.p M.a M.b ao M.l.length cap)) (ldU_0 _ rfl g1 rfl (kg1)) ?_
      refine nr ?_; intro U h; simp only [z0, z1] at h; subst h
      refine s_val 35 rfl rfl (.iface 88 (.agg (suA M.p M.a M.b ao M.l.length cap))) (run_mk 88 _ rfl _ rfl (by kernel_rfl)) ?_
      refine nr ?_; intro U h; simp only [z0, z1] at h; subst h
      refine s_callx 36 rfl rfl _ 29 Try.call29 rfl rfl _ rfl [.int .i64 nx, .iface 88 (.agg (suA M.p M.a M.b ao M.l.length cap))] rfl (only4 _ nx (mSet M.p M.a M.b M.l) rfl ao cap HI (by show M.l.length ≤ _; omega)) (by rintro _ _ ⟨_, _, he, _⟩; exact ⟨_, he⟩) ?_
      rintro v w6 ⟨ao2, n2, he, G, HO2⟩
      cases he
      replace HO2 := HO2.mono GG.size
      replace kt := G.has kt
      replace kg1 := G.has kg1
      replace kg2 := G.has kg2
      replace HT := HT.gro G
      replace HI := HI.gro G
      replace HB := HB.gro G
      replace GG := GG.tg G
      clear G
      refine nr ?_; intro U h; simp only [z0, z1] at h; subst h
      refine s_val 37 rfl rfl (.agg (edA ao2 n2 false false)) (run_bd 41 _ rfl [(0, .slice ao2 n2 n2)] rfl _ (bdD0 _ _ _)) ?_
      refine nr ?_; intro U h; simp only [z0, z1] at h; subst h
      refine s_store rfl rfl 41 _ _ rfl g2 0 rfl (.agg (edA ao2 n2 false false)) rfl 41 _ kg2 (edA ao2 n2 false false) rfl (siD' _ _ _ _) (Nat.le_refl _) (oneD _ _ _ _) (edA ao2 n2 false false) (splice_whole _ _ (rfl)) ?_
      intro w7 St
      have kS := kg2
      replace kt := St.has (by omega) kt
      replace kg1 := St.has (by omega) kg1
      replace HT := HT.st St dHTg2
      replace HI := HI.st St dHIg2
      replace HB := HB.st St dHBg2
      replace HO2 := HO2.st St kS (by decide)
      replace GG := GG.st St (.inl bg2)
      replace kg2 := St.new
      clear St
      refine wpList_nil ?_
      refine then_n ?_
      refine wp_ret ?_
      refine bodyPost_ret (results_cell_row Try.results37 _ _ g2 41 _ (0, 0) _ rfl kg2 Try.underlying41 rfl (siD' _ _ _ _)) rfl ?_
      rw [psE_add (of_decide_eq_true ho) (of_decide_eq_true hc), psL_yes (of_decide_eq_true ho)]
      exact ⟨_, _, rfl, HO2, HT, GG⟩
theorem m1i : I64 (-1) := ⟨by decide, by decide⟩
set_option maxRecDepth 100000 in
set_option maxHeartbeats 4000000 in
theorem end_any (w : World) (t b room : Nat) (L : List En) (kt : w.heap[t]? = some (.cells (tbA room b) 99 (0, 0))) (HT : TM w b L) (M : Msg) (hM : M.ok) (ao : Option Addr) (cap : Nat) (HI : RC w ao cap M.l) (fr : Int) (hfr : I64 fr) (i : Nat) (hi : i < top) : Calls Try.prog 38 #[.pointer (some ⟨t, 0, none⟩), .agg (suA M.p M.a M.b ao M.l.length cap), .int .i64 fr, .agg (idA i)] w (TakP w b (enE room L fr M i) (enL' room L fr M i)) := by
  refine s_enter Try.func38 rfl Try.ntmps38 [.pointer (some ⟨t, 0, none⟩), .agg (suA M.p M.a M.b ao M.l.length cap), .int .i64 fr, .agg (idA i)] [.pointer (some ⟨t, 0, none⟩), .agg (suA M.p M.a M.b ao M.l.length cap), .int .i64 fr, .agg (idA i), undef, undef, undef, undef, undef, undef, undef, undef, undef, undef, undef, undef, undef, undef, undef, undef, undef, undef, undef, undef, undef, undef, undef, undef, undef, undef, undef] rfl ?_
  have GG := GroS.refl [b] w
  refine wp_seq ?_
  refine wp_region_lit ?_
  refine s_box 5 rfl rfl 88 _ rfl _ rfl (suA M.p M.a M.b ao M.l.length cap) rfl ?_
  intro w1 g1 G eg1 kg1
  have bg1 := size_basS GG eg1
  have dtg1 := lt_new kt eg1
  have dHTg1 := HT.ne eg1
  have dHIg1 := HI.ne eg1
  replace kt := G.has kt
  replace HT := HT.gro G
  replace HI := HI.gro G
  replace GG := GG.tg G
  clear G
  clear eg1
  refine nr ?_; intro U h; simp only [z0, z1] at h; subst h
  refine s_box 7 rfl rfl 24 _ rfl _ rfl (idA i) rfl ?_
  intro w2 g2 G eg2 kg2
  have bg2 := size_basS GG eg2
  have dtg2 := lt_new kt eg2
  have dg1g2 := lt_new kg1 eg2
  have dHTg2 := HT.ne eg2
  have dHIg2 := HI.ne eg2
  replace kt := G.has kt
  replace kg1 := G.has kg1
  replace HT := HT.gro G
  replace HI := HI.gro G
  replace GG := GG.tg G
  clear G
  clear eg2
  refine nr ?_; intro U h; simp only [z0, z1] at h; subst h
  refine s_alloc 8 rfl rfl 41 rfl _ zvD (edA none 0 false false) rfl ?_
  intro w3 g3 G eg3 kg3
  have bg3 := size_basS GG eg3
  have dtg3 := lt_new kt eg3
  have dg1g3 := lt_new kg1 eg3
  have dg2g3 := lt_new kg2 eg3
  have dHTg3 := HT.ne eg3
  have dHIg3 := HI.ne eg3
  replace kt := G.has kt
  replace kg1 := G.has kg1
  replace kg2 := G.has kg2
  replace HT := HT.gro G
  replace HI := HI.gro G
  replace GG := GG.tg G
  clear G
  clear eg3
  refine nr ?_; intro U h; simp only [z0, z1] at h; subst h
  refine wpList_nil ?_
  refine then_n ?_
  refine wp_seq ?_
  refine wp_seq ?_
  refine wp_region_lit ?_
  refine s_val 10 rfl rfl (.pointer (some ⟨g1, 33, none⟩)) (run_fld 88 _ 2 rfl g1 0 rfl 33 (by kernel_rfl)) ?_
  refine nr ?_; intro U h; simp only [z0, z1] at h; subst h
  refine s_val 11 rfl rfl (.agg (idA M.b)) (ldU_b _ rfl g1 rfl (kg1)) ?_
  refine nr ?_; intro U h; simp only [z0, z1] at h; subst h
  refine s_val 12 rfl rfl (.agg (idA i)) (ldI0 _ rfl g2 rfl (kg2)) ?_
  refine nr ?_; intro U h; simp only [z0, z1] at h; subst h
  cases hb : decide (M.b = i)
  · refine s_val 13 rfl rfl (.bool true) (run_neI _ _ _ rfl _ _ rfl rfl hM.b hi true hb) ?_
    refine nr ?_; intro U h; simp only [z0, z1] at h; subst h
    refine wpList_nil ?_
    refine then_n ?_
    refine wp_cond_true rfl ?_
    refine wp_seq ?_
    refine wp_region_lit ?_
    refine s_val 14 rfl rfl (.pointer (some ⟨g1, 0, none⟩)) (run_fld 88 _ 0 rfl g1 0 rfl 0 (by kernel_rfl)) ?_
    refine nr ?_; intro U h; simp only [z0, z1] at h; subst h
    refine s_val 15 rfl rfl (.agg (paA M.p)) (ldU_p _ rfl g1 rfl (kg1)) ?_
    refine nr ?_; intro U h; simp only [z0, z1] at h; subst h
    refine s_val 16 rfl rfl (.int .i64 fr) (rfl) ?_
    refine nr ?_; intro U h; simp only [z0, z1] at h; subst h
    refine s_callx 17 rfl rfl _ 51 Try.call51 rfl rfl _ rfl [.agg (paA M.p), .int .i64 fr] rfl (refused_any _ M.p fr) (by rintro _ _ ⟨_, _, he, _⟩; exact ⟨_, he⟩) ?_
    rintro v w4 ⟨ao1, n1, he, G, HO1⟩
    cases he
    replace HO1 := HO1.mono GG.size
    replace kt := G.has kt
    replace kg1 := G.has kg1
    replace kg2 := G.has kg2
    replace kg3 := G.has kg3
    replace HT := HT.gro G
    replace HI := HI.gro G
    replace GG := GG.tg G
    clear G
    refine nr ?_; intro U h; simp only [z0, z1] at h; subst h
    refine s_store rfl rfl 41 _ _ rfl g3 0 rfl (.agg (edA ao1 n1 false false)) rfl 41 _ kg3 (edA ao1 n1 false false) rfl (siD' _ _ _ _) (Nat.le_refl _) (oneD _ _ _ _) (edA ao1 n1 false false) (splice_whole _ _ (rfl)) ?_
    intro w5 St
    have kS := kg3
    replace kt := St.has (by omega) kt
    replace kg1 := St.has (by omega) kg1
    replace kg2 := St.has (by omega) kg2
    replace HT := HT.st St dHTg3
    replace HI := HI.st St dHIg3
    replace HO1 := HO1.st St kS (by decide)
    replace GG := GG.st St (.inl bg3)
    replace kg3 := St.new
    clear St
    refine wpList_nil ?_
    refine then_n ?_
    refine wp_ret ?_
    refine then_r ?_
    refine bodyPost_ret (results_cell_row Try.results38 _ _ g3 41 _ (0, 0) _ rfl kg3 Try.underlying41 rfl (siD' _ _ _ _)) rfl ?_
    rw [enE_no (of_decide_eq_false hb), enL_no (of_decide_eq_false hb)]
    exact ⟨_, _, rfl, HO1, HT, GG⟩
  · refine s_val 13 rfl rfl (.bool false) (run_neI _ _ _ rfl _ _ rfl rfl hM.b hi false hb) ?_
    refine nr ?_; intro U h; simp only [z0, z1] at h; subst h
    refine wpList_nil ?_
    refine then_n ?_
    refine wp_cond_false rfl ?_
    refine wp_skip ?_
    refine then_n ?_
    refine wp_seq ?_
    refine wp_seq ?_
    refine wp_region_lit ?_
    refine s_val 18 rfl rfl (.pointer (some ⟨t, 0, none⟩)) (rfl) ?_
    refine nr ?_; intro U h; simp only [z0, z1] at h; subst h
    refine s_val 19 rfl rfl (.agg (suA M.p M.a M.b ao M.l.length cap)) (ldU_0 _ rfl g1 rfl (kg1)) ?_
    refine nr ?_; intro U h; simp only [z0, z1] at h; subst h
    refine s_val 20 rfl rfl (.int .i64 fr) (rfl) ?_
    refine nr ?_; intro U h; simp only [z0, z1] at h; subst h
    refine s_callv 21 rfl rfl _ 52 Try.call52 rfl rfl _ rfl [.agg (suA M.p M.a M.b ao M.l.length cap), .int .i64 fr, .int .i64 (-1)] rfl (entry_any _ M.p M.a M.b ao M.l.length cap fr (-1)) ?_
    intro w4 G
    replace kt := G.has kt
    replace kg1 := G.has kg1
    replace kg2 := G.has kg2
    replace kg3 := G.has kg3
    replace HT := HT.gro G
    replace HI := HI.gro G
    replace GG := GG.tg G
    clear G
    refine nr ?_; intro U h; simp only [z0, z1] at h; subst h
    refine s_callx 22 rfl rfl _ 24 Try.call24 rfl rfl _ rfl [.pointer (some ⟨t, 0, none⟩), .agg (enA (xT fr M (-1)))] rfl (add_any _ t b room L (kt) (HT) (xT fr M (-1)) (xT_ok hM hfr m1i)) (by rintro _ _ ⟨he, _⟩; exact ⟨_, he⟩) ?_
    rintro v w5 ⟨he, HT2, G2⟩
    cases he
    replace kt := G2.has kt (by simpa using HT.nec kt)
    replace kg1 := G2.has kg1 (by simpa using HT.nec kg1)
    replace kg2 := G2.has kg2 (by simpa using HT.nec kg2)
    replace kg3 := G2.has kg3 (by simpa using HT.nec kg3)
    replace HI := HI.mapw HT G2
    replace GG := GG.trans G2
    clear HT G2
    have HT := HT2
    clear HT2
    refine nr ?_; intro U h; simp only [z0, z1] at h; subst h
    refine s_val 9 rfl rfl (.int .i64 (addC room L (xT fr M (-1)))) (rfl) ?_
    refine nr ?_; intro U h; simp only [z0, z1] at h; subst h
    refine wpList_nil ?_
    refine then_n ?_
    refine wp_seq ?_
    refine wp_region_lit ?_
    refine s_val 23 rfl rfl (.int .i64 (addC room L (xT fr M (-1)))) (rfl) ?_
    refine nr ?_; intro U h; simp only [z0, z1] at h; subst h
    cases hc : decide (addC room L (xT fr M (-1)) = 0)
    · refine s_val 24 rfl rfl (.bool true) (run_neq_k 42 .i64 _ _ _ rfl Try.underlying42 (addC room L (xT fr M (-1))) 0 rfl rfl true hc _) ?_
      refine nr ?_; intro U h; simp only [z0, z1] at h; subst h
      refine wpList_nil ?_
      refine then_n ?_
      refine wp_cond_true rfl ?_
      refine wp_seq ?_
      refine wp_region_lit ?_
      refine s_val 25 rfl rfl (.pointer (some ⟨g1, 0, none⟩)) (run_fld 88 _ 0 rfl g1 0 rfl 0 (by kernel_rfl)) ?_
      refine nr ?_; intro U h; simp only [z0, z1] at h; subst h
      refine s_val 26 rfl rfl (.agg (paA M.p)) (ldU_p _ rfl g1 rfl (kg1)) ?_
      refine nr ?_; intro U h; simp only [z0, z1] at h; subst h
      refine s_val 27 rfl rfl (.int .i64 fr) (rfl) ?_
      refine nr ?_; intro U h; simp only [z0, z1] at h; subst h
      refine s_val 28 rfl rfl (.int .i64 (addC room L (xT fr M (-1)))) (rfl) ?_
      refine nr ?_; intro U h; simp only [z0, z1] at h; subst h
      refine s_callx 29 rfl rfl _ 53 Try.call53 rfl rfl _ rfl [.agg (paA M.p), .int .i64 fr, .int .i64 (addC room L (xT fr M (-1)))] rfl (notAdded_any _ M.p fr (addC room L (xT fr M (-1)))) (by rintro _ _ ⟨_, _, he, _⟩; exact ⟨_, he⟩) ?_
      rintro v w6 ⟨ao2, n2, he, G, HO2⟩
      cases he
      replace HO2 := HO2.mono GG.size
      replace kt := G.has kt
      replace kg1 := G.has kg1
      replace kg2 := G.has kg2
      replace kg3 := G.has kg3
      replace HT := HT.gro G
      replace HI := HI.gro G
      replace GG := GG.tg G
      clear G
      refine nr ?_; intro U h; simp only [z0, z1] at h; subst h
      refine s_store rfl rfl 41 _ _ rfl g3 0 rfl (.agg (edA ao2 n2 false (decide (addC room L (xT fr M (-1)) = 5)))) rfl 41 _ kg3 (edA ao2 n2 false (decide (addC room L (xT fr M (-1)) = 5))) rfl (siD' _ _ _ _) (Nat.le_refl _) (oneD _ _ _ _) (edA ao2 n2 false (decide (addC room L (xT fr M (-1)) = 5))) (splice_whole _ _ (rfl)) ?_
      intro w7 St
      have kS := kg3
      replace kt := St.has (by omega) kt
      replace kg1 := St.has (by omega) kg1
      replace kg2 := St.has (by omega) kg2
      replace HT := HT.st St dHTg3
      replace HI := HI.st St dHIg3
      replace HO2 := HO2.st St kS (by decide)
      replace GG := GG.st St (.inl bg3)
      replace kg3 := St.new
      clear St
      refine wpList_nil ?_
      refine then_n ?_
      refine wp_ret ?_
      refine then_r ?_
      refine bodyPost_ret (results_cell_row Try.results38 _ _ g3 41 _ (0, 0) _ rfl kg3 Try.underlying41 rfl (siD' _ _ _ _)) rfl ?_
      rw [enE_full (of_decide_eq_true hb) (of_decide_eq_false hc), enL_yes (of_decide_eq_true hb)]
      exact ⟨_, _, rfl, HO2, HT, GG⟩
    · refine s_val 24 rfl rfl (.bool false) (run_neq_k 42 .i64 _ _ _ rfl Try.underlying42 (addC room L (xT fr M (-1))) 0 rfl rfl false hc _) ?_
      refine nr ?_; intro U h; simp only [z0, z1] at h; subst h
      refine wpList_nil ?_
      refine then_n ?_
      refine wp_cond_false rfl ?_
      refine wp_skip ?_
      refine then_n ?_
      refine wp_seq ?_
      refine wp_region_lit ?_
      refine s_val 30 rfl rfl (.agg (edA none 0 true false)) (run_bd 41 _ rfl [(1, .bool true)] rfl _ (bdD1 _ _)) ?_
      refine nr ?_; intro U h; simp only [z0, z1] at h; subst h
      refine s_store rfl rfl 41 _ _ rfl g3 0 rfl (.agg (edA none 0 true false)) rfl 41 _ kg3 (edA none 0 true false) rfl (siD' _ _ _ _) (Nat.le_refl _) (oneD _ _ _ _) (edA none 0 true false) (splice_whole _ _ (rfl)) ?_
      intro w6 St
      have kS := kg3
      replace kt := St.has (by omega) kt
      replace kg1 := St.has (by omega) kg1
      replace kg2 := St.has (by omega) kg2
      replace HT := HT.st St dHTg3
      replace HI := HI.st St dHIg3
      replace GG := GG.st St (.inl bg3)
      replace kg3 := St.new
      clear St
      refine wpList_nil ?_
      refine then_n ?_
      refine wp_ret ?_
      refine bodyPost_ret (results_cell_row Try.results38 _ _ g3 41 _ (0, 0) _ rfl kg3 Try.underlying41 rfl (siD' _ _ _ _)) rfl ?_
      rw [enE_add (of_decide_eq_true hb) (of_decide_eq_true hc), enL_yes (of_decide_eq_true hb)]
      exact ⟨_, _, rfl, ⟨rfl, rfl⟩, HT, GG⟩
set_option maxRecDepth 100000 in
set_option maxHeartbeats 4000000 in
theorem start_any (w : World) (t b room : Nat) (L : List En) (kt : w.heap[t]? = some (.cells (tbA room b) 99 (0, 0))) (HT : TM w b L) (N : Int) (i : Nat) (hi : i < top) (p : Pa) (hp : p.ok) (c : Nat) (hcc : c < top) (ao : Option Addr) (cap : Nat) (way : List Int) (HI : RC w ao cap way) (ap : Option Addr) (cq : Nat) (o : List Bool) (HB : RK kB w ap cq o) : Calls Try.prog 9 #[.pointer (some ⟨t, 0, none⟩), .agg (seA N i), .agg (paA p), .agg (idA c), .slice ao way.length cap, .slice ap o.length cq] w (StaP w b (stE room L N i p c way o) (stC room L N i p c way o) (stL room L N i p c way o)) := by
  refine s_enter Try.func9 rfl Try.ntmps9 [.pointer (some ⟨t, 0, none⟩), .agg (seA N i), .agg (paA p), .agg (idA c), .slice ao way.length cap, .slice ap o.length cq] [.pointer (some ⟨t, 0, none⟩), .agg (seA N i), .agg (paA p), .agg (idA c), .slice ao way.length cap, .slice ap o.length cq, undef, undef, undef, undef, undef, undef, undef, undef, undef, undef, undef, undef, undef, undef, undef, undef, undef, undef, undef, undef, undef, undef, undef, undef, undef, undef, undef, undef, undef, undef, undef, undef, undef, undef, undef, undef, undef, undef, undef, undef, undef, undef, undef, undef, undef, undef, undef, undef, undef, undef, undef, undef, undef, undef, undef, undef, undef, undef] rfl ?_
  have GG := GroS.refl [b] w
  refine wp_seq ?_
  refine wp_region_lit ?_
  refine s_box 7 rfl rfl 26 _ rfl _ rfl (seA N i) rfl ?_
  intro w1 g1 G eg1 kg1
  have bg1 := size_basS GG eg1
  have dtg1 := lt_new kt eg1
  have dHTg1 := HT.ne eg1
  have dHIg1 := HI.ne eg1
  have dHBg1 := HB.ne eg1
  replace kt := G.has kt
  replace HT := HT.gro G
  replace HI := HI.gro G
  replace HB := HB.gro G
  replace GG := GG.tg G
  clear G
  clear eg1
  refine nr ?_; intro U h; simp only [z0, z1] at h; subst h
  refine s_box 8 rfl rfl 31 _ rfl _ rfl (paA p) rfl ?_
  intro w2 g2 G eg2 kg2
  have bg2 := size_basS GG eg2
  have dtg2 := lt_new kt eg2
  have dg1g2 := lt_new kg1 eg2
  have dHTg2 := HT.ne eg2
  have dHIg2 := HI.ne eg2
  have dHBg2 := HB.ne eg2
  replace kt := G.has kt
  replace kg1 := G.has kg1
  replace HT := HT.gro G
  replace HI := HI.gro G
  replace HB := HB.gro G
  replace GG := GG.tg G
  clear G
  clear eg2
  refine nr ?_; intro U h; simp only [z0, z1] at h; subst h
  refine s_box 9 rfl rfl 24 _ rfl _ rfl (idA c) rfl ?_
  intro w3 g3 G eg3 kg3
  have bg3 := size_basS GG eg3
  have dtg3 := lt_new kt eg3
  have dg1g3 := lt_new kg1 eg3
  have dg2g3 := lt_new kg2 eg3
  have dHTg3 := HT.ne eg3
  have dHIg3 := HI.ne eg3
  have dHBg3 := HB.ne eg3
  replace kt := G.has kt
  replace kg1 := G.has kg1
  replace kg2 := G.has kg2
  replace HT := HT.gro G
  replace HI := HI.gro G
  replace HB := HB.gro G
  replace GG := GG.tg G
  clear G
  clear eg3
  refine nr ?_; intro U h; simp only [z0, z1] at h; subst h
  refine s_alloc 12 rfl rfl 41 rfl _ zvD (edA none 0 false false) rfl ?_
  intro w4 g4 G eg4 kg4
  have bg4 := size_basS GG eg4
  have dtg4 := lt_new kt eg4
  have dg1g4 := lt_new kg1 eg4
  have dg2g4 := lt_new kg2 eg4
  have dg3g4 := lt_new kg3 eg4
  have dHTg4 := HT.ne eg4
  have dHIg4 := HI.ne eg4
  have dHBg4 := HB.ne eg4
  replace kt := G.has kt
  replace kg1 := G.has kg1
  replace kg2 := G.has kg2
  replace kg3 := G.has kg3
  replace HT := HT.gro G
  replace HI := HI.gro G
  replace HB := HB.gro G
  replace GG := GG.tg G
  clear G
  clear eg4
  refine nr ?_; intro U h; simp only [z0, z1] at h; subst h
  refine s_val 13 rfl rfl (.int .i64 0) (rfl) ?_
  refine nr ?_; intro U h; simp only [z0, z1] at h; subst h
  refine wpList_nil ?_
  refine then_n ?_
  refine wp_seq ?_
  refine wp_seq ?_
  cases hld : decide (lead N way = true)
  · refine wp_region_opq ?_
    intro OPS hY
    have y2 := hY 2 18 rfl
    have y9 := hY 9 25 rfl
    clear hY
    refine s_val 16 rfl rfl (.pointer (some ⟨t, 0, none⟩)) (rfl) ?_
    refine nr ?_; intro U h; simp only [z0, z1] at h; subst h
    refine s_val 17 rfl rfl (.bool false) (run_eqnp 35 _ _ _ rfl _ rfl rfl Try.underlying35 _) ?_
    refine nr ?_; intro U h; simp only [z0, z1] at h; subst h
    refine s_val 18 rfl rfl (.bool false) (rfl) ?_
    refine nr ?_; intro U h; simp only [z0, z1] at h; subst h
    refine s_gvalY 19 rfl rfl y2 rfl (.pointer (some ⟨g1, 0, none⟩)) (run_fld 26 _ 0 rfl g1 0 rfl 0 (by kernel_rfl)) ?_
    refine nr ?_; intro U h; simp only [z0, z1] at h; subst h
    refine s_gvalY 20 rfl rfl y2 rfl (.int .i64 N) (ldS_n _ rfl g1 rfl (kg1)) ?_
    refine nr ?_; intro U h; simp only [z0, z1] at h; subst h
    refine s_gvalY 21 rfl rfl y2 rfl (.slice ao way.length cap) (rfl) ?_
    refine nr ?_; intro U h; simp only [z0, z1] at h; subst h
    refine s_gcallvY 22 rfl rfl y2 rfl _ 27 Try.call27 rfl rfl _ rfl [.int .i64 N, .slice ao way.length cap] rfl (Calls.bool (leads_any _ N ao cap way (HI)) (Bool.eq_false_iff.2 (of_decide_eq_false hld))) ?_
    intro w5 G
    replace kt := G.has kt
    replace kg1 := G.has kg1
    replace kg2 := G.has kg2
    replace kg3 := G.has kg3
    replace kg4 := G.has kg4
    replace HT := HT.gro G
    replace HI := HI.gro G
    replace HB := HB.gro G
    replace GG := GG.tg G
    clear G
    refine nr ?_; intro U h; simp only [z0, z1] at h; subst h
    refine s_gvalY 23 rfl rfl y2 rfl (.bool true) (run_nt _ _ rfl false rfl) ?_
    refine nr ?_; intro U h; simp only [z0, z1] at h; subst h
    refine s_val 24 rfl rfl (.bool true) (rfl) ?_
    refine nr ?_; intro U h; simp only [z0, z1] at h; subst h
    refine s_val 25 rfl rfl (.bool true) (rfl) ?_
    refine nr ?_; intro U h; simp only [z0, z1] at h; subst h
    refine s_skipY 26 rfl rfl y9 rfl ?_
    refine nr ?_; intro U h; simp only [z0, z1] at h; subst h
    refine s_skipY 27 rfl rfl y9 rfl ?_
    refine nr ?_; intro U h; simp only [z0, z1] at h; subst h
    refine s_skipY 28 rfl rfl y9 rfl ?_
    refine nr ?_; intro U h; simp only [z0, z1] at h; subst h
    refine s_skipY 29 rfl rfl y9 rfl ?_
    refine nr ?_; intro U h; simp only [z0, z1] at h; subst h
    refine s_val 30 rfl rfl (.bool true) (rfl) ?_
    refine nr ?_; intro U h; simp only [z0, z1] at h; subst h
    refine wpList_nil ?_
    refine then_n ?_
    refine wp_cond_true rfl ?_
    refine wp_seq ?_
    refine wp_region_lit ?_
    refine s_val 31 rfl rfl (.agg (edA none 0 false false)) (run_bd 41 _ rfl [] rfl _ (bdD_ _)) ?_
    refine nr ?_; intro U h; simp only [z0, z1] at h; subst h
    refine s_store rfl rfl 41 _ _ rfl g4 0 rfl (.agg (edA none 0 false false)) rfl 41 _ kg4 (edA none 0 false false) rfl (siD' _ _ _ _) (Nat.le_refl _) (oneD _ _ _ _) (edA none 0 false false) (splice_whole _ _ (rfl)) ?_
    intro w6 St
    have kS := kg4
    replace kt := St.has (by omega) kt
    replace kg1 := St.has (by omega) kg1
    replace kg2 := St.has (by omega) kg2
    replace kg3 := St.has (by omega) kg3
    replace HT := HT.st St dHTg4
    replace HI := HI.st St dHIg4
    replace HB := HB.st St dHBg4
    replace GG := GG.st St (.inl bg4)
    replace kg4 := St.new
    clear St
    refine s_val 13 rfl rfl (.int .i64 1) (rfl) ?_
    refine nr ?_; intro U h; simp only [z0, z1] at h; subst h
    refine wpList_nil ?_
    refine then_n ?_
    refine wp_ret ?_
    refine then_r ?_
    refine bodyPost_ret (results_cell_tmp Try.results9 _ _ g4 41 _ (0, 0) _ rfl (.int .i64 1) rfl kg4 Try.underlying41 rfl (siD' _ _ _ _)) rfl ?_
    have hst := st_no (room := room) (L := L) (p := p) (o := o) (fun h => of_decide_eq_false hld h.1 : ¬ (lead N way = true ∧ c ≠ i))
    rw [hst.1, hst.2.1, hst.2.2]
    exact ⟨_, _, rfl, ⟨rfl, rfl⟩, HT, GG⟩
  · have hld2 := of_decide_eq_true hld
    have hln : 2 ≤ way.length ∧ way.length ≤ 64 := by simp only [lead, Bool.and_eq_true, decide_eq_true_eq] at hld2; exact ⟨hld2.1, hld2.2.1⟩
    have hl2 := hln.1
    have hl64 := hln.2
    have xok : (xS i p c way).ok := ⟨hp, hi, hcc, m1i, HI.at (by omega)⟩
    refine wp_region_opq ?_
    intro OPS hY
    have y2 := hY 2 18 rfl
    have y9 := hY 9 25 rfl
    clear hY
    refine s_val 16 rfl rfl (.pointer (some ⟨t, 0, none⟩)) (rfl) ?_
    refine nr ?_; intro U h; simp only [z0, z1] at h; subst h
    refine s_val 17 rfl rfl (.bool false) (run_eqnp 35 _ _ _ rfl _ rfl rfl Try.underlying35 _) ?_
    refine nr ?_; intro U h; simp only [z0, z1] at h; subst h
    refine s_val 18 rfl rfl (.bool false) (rfl) ?_
    refine nr ?_; intro U h; simp only [z0, z1] at h; subst h
    refine s_gvalY 19 rfl rfl y2 rfl (.pointer (some ⟨g1, 0, none⟩)) (run_fld 26 _ 0 rfl g1 0 rfl 0 (by kernel_rfl)) ?_
    refine nr ?_; intro U h; simp only [z0, z1] at h; subst h
    refine s_gvalY 20 rfl rfl y2 rfl (.int .i64 N) (ldS_n _ rfl g1 rfl (kg1)) ?_
    refine nr ?_; intro U h; simp only [z0, z1] at h; subst h
    refine s_gvalY 21 rfl rfl y2 rfl (.slice ao way.length cap) (rfl) ?_
    refine nr ?_; intro U h; simp only [z0, z1] at h; subst h
    refine s_gcallvY 22 rfl rfl y2 rfl _ 27 Try.call27 rfl rfl _ rfl [.int .i64 N, .slice ao way.length cap] rfl (Calls.bool (leads_any _ N ao cap way (HI)) (of_decide_eq_true hld)) ?_
    intro w5 G
    replace kt := G.has kt
    replace kg1 := G.has kg1
    replace kg2 := G.has kg2
    replace kg3 := G.has kg3
    replace kg4 := G.has kg4
    replace HT := HT.gro G
    replace HI := HI.gro G
    replace HB := HB.gro G
    replace GG := GG.tg G
    clear G
    refine nr ?_; intro U h; simp only [z0, z1] at h; subst h
    refine s_gvalY 23 rfl rfl y2 rfl (.bool false) (run_nt _ _ rfl true rfl) ?_
    refine nr ?_; intro U h; simp only [z0, z1] at h; subst h
    refine s_val 24 rfl rfl (.bool false) (rfl) ?_
    refine nr ?_; intro U h; simp only [z0, z1] at h; subst h
    refine s_val 25 rfl rfl (.bool false) (rfl) ?_
    refine nr ?_; intro U h; simp only [z0, z1] at h; subst h
    refine s_gvalY 26 rfl rfl y9 rfl (.agg (idA c)) (ldI0 _ rfl g3 rfl (kg3)) ?_
    refine nr ?_; intro U h; simp only [z0, z1] at h; subst h
    refine s_gvalY 27 rfl rfl y9 rfl (.pointer (some ⟨g1, 1, none⟩)) (run_fld 26 _ 1 rfl g1 0 rfl 1 (by kernel_rfl)) ?_
    refine nr ?_; intro U h; simp only [z0, z1] at h; subst h
    refine s_gvalY 28 rfl rfl y9 rfl (.agg (idA i)) (ldS_i _ rfl g1 rfl (kg1)) ?_
    refine nr ?_; intro U h; simp only [z0, z1] at h; subst h
    cases hbi : decide (c = i)
    · refine s_gvalY 29 rfl rfl y9 rfl (.bool false) (run_eqI _ _ _ rfl _ _ rfl rfl hcc hi false hbi) ?_
      refine nr ?_; intro U h; simp only [z0, z1] at h; subst h
      refine s_val 30 rfl rfl (.bool false) (rfl) ?_
      refine nr ?_; intro U h; simp only [z0, z1] at h; subst h
      refine wpList_nil ?_
      refine then_n ?_
      refine wp_cond_false rfl ?_
      refine wp_skip ?_
      refine then_n ?_
      refine wp_seq ?_
      refine wp_region_lit ?_
      refine s_val 32 rfl rfl (.slice ao way.length cap) (rfl) ?_
      refine nr ?_; intro U h; simp only [z0, z1] at h; subst h
      refine s_val 33 rfl rfl (.pointer (pA ao 1)) (run_ixI (HI) _ _ rfl rfl 1 rfl (by omega)) ?_
      refine nr ?_; intro U h; simp only [z0, z1] at h; subst h
      refine s_val 34 rfl rfl (.int .i64 (way.getD 1 0)) (run_ldI (HI) _ rfl 1 rfl (by omega)) ?_
      refine nr ?_; intro U h; simp only [z0, z1] at h; subst h
      refine s_val 14 rfl rfl (.int .i64 (way.getD 1 0)) (rfl) ?_
      refine nr ?_; intro U h; simp only [z0, z1] at h; subst h
      refine wpList_nil ?_
      refine then_n ?_
      refine wp_seq ?_
      refine wp_seq ?_
      cases ho : decide (isO o (way.getD 1 0) = true)
      · refine wp_region_lit ?_
        refine s_val 35 rfl rfl (.slice ap o.length cq) (rfl) ?_
        refine nr ?_; intro U h; simp only [z0, z1] at h; subst h
        refine s_val 36 rfl rfl (.int .i64 (way.getD 1 0)) (rfl) ?_
        refine nr ?_; intro U h; simp only [z0, z1] at h; subst h
        refine s_callv 37 rfl rfl _ 28 Try.call28 rfl rfl _ rfl [.slice ap o.length cq, .int .i64 (way.getD 1 0)] rfl (Calls.bool (isOpen_any _ ap cq o (HB) (way.getD 1 0)) (Bool.eq_false_iff.2 (of_decide_eq_false ho))) ?_
        intro w6 G
        replace kt := G.has kt
        replace kg1 := G.has kg1
        replace kg2 := G.has kg2
        replace kg3 := G.has kg3
        replace kg4 := G.has kg4
        replace HT := HT.gro G
        replace HI := HI.gro G
        replace HB := HB.gro G
        replace GG := GG.tg G
        clear G
        refine nr ?_; intro U h; simp only [z0, z1] at h; subst h
        refine s_val 38 rfl rfl (.bool true) (run_nt _ _ rfl false rfl) ?_
        refine nr ?_; intro U h; simp only [z0, z1] at h; subst h
        refine wpList_nil ?_
        refine then_n ?_
        refine wp_cond_true rfl ?_
        refine wp_seq ?_
        refine wp_region_lit ?_
        refine s_val 39 rfl rfl (.agg (edA none 0 false false)) (run_bd 41 _ rfl [] rfl _ (bdD_ _)) ?_
        refine nr ?_; intro U h; simp only [z0, z1] at h; subst h
        refine s_store rfl rfl 41 _ _ rfl g4 0 rfl (.agg (edA none 0 false false)) rfl 41 _ kg4 (edA none 0 false false) rfl (siD' _ _ _ _) (Nat.le_refl _) (oneD _ _ _ _) (edA none 0 false false) (splice_whole _ _ (rfl)) ?_
        intro w7 St
        have kS := kg4
        replace kt := St.has (by omega) kt
        replace kg1 := St.has (by omega) kg1
        replace kg2 := St.has (by omega) kg2
        replace kg3 := St.has (by omega) kg3
        replace HT := HT.st St dHTg4
        replace HI := HI.st St dHIg4
        replace HB := HB.st St dHBg4
        replace GG := GG.st St (.inl bg4)
        replace kg4 := St.new
        clear St
        refine s_val 13 rfl rfl (.int .i64 10) (rfl) ?_
        refine nr ?_; intro U h; simp only [z0, z1] at h; subst h
        refine wpList_nil ?_
        refine then_n ?_
        refine wp_ret ?_
        refine then_r ?_
        refine bodyPost_ret (results_cell_tmp Try.results9 _ _ g4 41 _ (0, 0) _ rfl (.int .i64 10) rfl kg4 Try.underlying41 rfl (siD' _ _ _ _)) rfl ?_
        have hst := st_shut (room := room) (L := L) (p := p) (o := o) ⟨hld2, of_decide_eq_false hbi⟩ (Bool.eq_false_iff.2 (of_decide_eq_false ho))
        rw [hst.1, hst.2.1, hst.2.2]
        exact ⟨_, _, rfl, ⟨rfl, rfl⟩, HT, GG⟩
      · refine wp_region_lit ?_
        refine s_val 35 rfl rfl (.slice ap o.length cq) (rfl) ?_
        refine nr ?_; intro U h; simp only [z0, z1] at h; subst h
        refine s_val 36 rfl rfl (.int .i64 (way.getD 1 0)) (rfl) ?_
        refine nr ?_; intro U h; simp only [z0, z1] at h; subst h
        refine s_callv 37 rfl rfl _ 28 Try.call28 rfl rfl _ rfl [.slice ap o.length cq, .int .i64 (way.getD 1 0)] rfl (Calls.bool (isOpen_any _ ap cq o (HB) (way.getD 1 0)) (of_decide_eq_true ho)) ?_
        intro w6 G
        replace kt := G.has kt
        replace kg1 := G.has kg1
        replace kg2 := G.has kg2
        replace kg3 := G.has kg3
        replace kg4 := G.has kg4
        replace HT := HT.gro G
        replace HI := HI.gro G
        replace HB := HB.gro G
        replace GG := GG.tg G
        clear G
        refine nr ?_; intro U h; simp only [z0, z1] at h; subst h
        refine s_val 38 rfl rfl (.bool false) (run_nt _ _ rfl true rfl) ?_
        refine nr ?_; intro U h; simp only [z0, z1] at h; subst h
        refine wpList_nil ?_
        refine then_n ?_
        refine wp_cond_false rfl ?_
        refine wp_skip ?_
        refine then_n ?_
        refine wp_seq ?_
        refine wp_seq ?_
        refine wp_region_lit ?_
        refine s_val 40 rfl rfl (.pointer (some ⟨t, 0, none⟩)) (rfl) ?_
        refine nr ?_; intro U h; simp only [z0, z1] at h; subst h
        refine s_val 41 rfl rfl (.agg (paA p)) (ldP0 _ rfl g2 rfl (kg2)) ?_
        refine nr ?_; intro U h; simp only [z0, z1] at h; subst h
        refine s_val 42 rfl rfl (.pointer (some ⟨g1, 1, none⟩)) (run_fld 26 _ 1 rfl g1 0 rfl 1 (by kernel_rfl)) ?_
        refine nr ?_; intro U h; simp only [z0, z1] at h; subst h
        refine s_val 43 rfl rfl (.agg (idA i)) (ldS_i _ rfl g1 rfl (kg1)) ?_
        refine nr ?_; intro U h; simp only [z0, z1] at h; subst h
        refine s_val 44 rfl rfl (.agg (idA c)) (ldI0 _ rfl g3 rfl (kg3)) ?_
        refine nr ?_; intro U h; simp only [z0, z1] at h; subst h
        refine s_val 45 rfl rfl (.int .i64 (way.getD 1 0)) (rfl) ?_
        refine nr ?_; intro U h; simp only [z0, z1] at h; subst h
        refine s_val 46 rfl rfl (.agg (enA (xS i p c way))) (run_bd 73 _ rfl [(0, .agg (paA p)), (1, .agg (idA i)), (2, .agg (idA c)), (3, .int .i64 (-1)), (4, .int .i64 (way.getD 1 0))] rfl _ (bdE5 _ _ _ _ _ _)) ?_
        refine nr ?_; intro U h; simp only [z0, z1] at h; subst h
        refine s_callx 47 rfl rfl _ 24 Try.call24 rfl rfl _ rfl [.pointer (some ⟨t, 0, none⟩), .agg (enA (xS i p c way))] rfl (add_any _ t b room L (kt) (HT) (xS i p c way) xok) (by rintro _ _ ⟨he, _⟩; exact ⟨_, he⟩) ?_
        rintro v w7 ⟨he, HT2, G2⟩
        cases he
        replace kt := G2.has kt (by simpa using HT.nec kt)
        replace kg1 := G2.has kg1 (by simpa using HT.nec kg1)
        replace kg2 := G2.has kg2 (by simpa using HT.nec kg2)
        replace kg3 := G2.has kg3 (by simpa using HT.nec kg3)
        replace kg4 := G2.has kg4 (by simpa using HT.nec kg4)
        replace HI := HI.mapw HT G2
        replace HB := HB.mapw HT G2
        replace GG := GG.trans G2
        clear HT G2
        have HT := HT2
        clear HT2
        refine nr ?_; intro U h; simp only [z0, z1] at h; subst h
        refine s_val 15 rfl rfl (.int .i64 (addC room L (xS i p c way))) (rfl) ?_
        refine nr ?_; intro U h; simp only [z0, z1] at h; subst h
        refine wpList_nil ?_
        refine then_n ?_
        refine wp_seq ?_
        refine wp_region_lit ?_
        refine s_val 48 rfl rfl (.int .i64 (addC room L (xS i p c way))) (rfl) ?_
        refine nr ?_; intro U h; simp only [z0, z1] at h; subst h
        cases hc : decide (addC room L (xS i p c way) = 0)
        · refine s_val 49 rfl rfl (.bool true) (run_neq_k 42 .i64 _ _ _ rfl Try.underlying42 (addC room L (xS i p c way)) 0 rfl rfl true hc _) ?_
          refine nr ?_; intro U h; simp only [z0, z1] at h; subst h
          refine wpList_nil ?_
          refine then_n ?_
          refine wp_cond_true rfl ?_
          refine wp_seq ?_
          refine wp_region_lit ?_
          refine s_val 50 rfl rfl (.int .i64 (addC room L (xS i p c way))) (rfl) ?_
          refine nr ?_; intro U h; simp only [z0, z1] at h; subst h
          refine s_val 51 rfl rfl (.bool (decide (addC room L (xS i p c way) = 5))) (run_eq_k 42 .i64 _ _ _ rfl Try.underlying42 (addC room L (xS i p c way)) 5 rfl rfl (decide (addC room L (xS i p c way) = 5)) rfl _) ?_
          refine nr ?_; intro U h; simp only [z0, z1] at h; subst h
          refine s_val 52 rfl rfl (.agg (edA none 0 false (decide (addC room L (xS i p c way) = 5)))) (run_bd 41 _ rfl [(2, .bool (decide (addC room L (xS i p c way) = 5)))] rfl _ (bdD2 _ _)) ?_
          refine nr ?_; intro U h; simp only [z0, z1] at h; subst h
          refine s_val 53 rfl rfl (.int .i64 (addC room L (xS i p c way))) (rfl) ?_
          refine nr ?_; intro U h; simp only [z0, z1] at h; subst h
          refine s_store rfl rfl 41 _ _ rfl g4 0 rfl (.agg (edA none 0 false (decide (addC room L (xS i p c way) = 5)))) rfl 41 _ kg4 (edA none 0 false (decide (addC room L (xS i p c way) = 5))) rfl (siD' _ _ _ _) (Nat.le_refl _) (oneD _ _ _ _) (edA none 0 false (decide (addC room L (xS i p c way) = 5))) (splice_whole _ _ (rfl)) ?_
          intro w8 St
          have kS := kg4
          replace kt := St.has (by omega) kt
          replace kg1 := St.has (by omega) kg1
          replace kg2 := St.has (by omega) kg2
          replace kg3 := St.has (by omega) kg3
          replace HT := HT.st St dHTg4
          replace HI := HI.st St dHIg4
          replace HB := HB.st St dHBg4
          replace GG := GG.st St (.inl bg4)
          replace kg4 := St.new
          clear St
          refine s_val 13 rfl rfl (.int .i64 (addC room L (xS i p c way))) (rfl) ?_
          refine nr ?_; intro U h; simp only [z0, z1] at h; subst h
          refine wpList_nil ?_
          refine then_n ?_
          refine wp_ret ?_
          refine then_r ?_
          refine bodyPost_ret (results_cell_tmp Try.results9 _ _ g4 41 _ (0, 0) _ rfl (.int .i64 (addC room L (xS i p c way))) rfl kg4 Try.underlying41 rfl (siD' _ _ _ _)) rfl ?_
          have hst := st_full (room := room) (L := L) (p := p) (o := o) ⟨hld2, of_decide_eq_false hbi⟩ (of_decide_eq_true ho) (of_decide_eq_false hc)
          rw [hst.1, hst.2.1, hst.2.2]
          exact ⟨_, _, rfl, ⟨rfl, rfl⟩, HT, GG⟩
        · refine s_val 49 rfl rfl (.bool false) (run_neq_k 42 .i64 _ _ _ rfl Try.underlying42 (addC room L (xS i p c way)) 0 rfl rfl false hc _) ?_
          refine nr ?_; intro U h; simp only [z0, z1] at h; subst h
          refine wpList_nil ?_
          refine then_n ?_
          refine wp_cond_false rfl ?_
          refine wp_skip ?_
          refine then_n ?_
          refine wp_seq ?_
          refine wp_region_lit ?_
          refine s_val 54 rfl rfl (.int .i64 (way.getD 1 0)) (rfl) ?_
          refine nr ?_; intro U h; simp only [z0, z1] at h; subst h
          refine s_val 55 rfl rfl (.agg (paA p)) (ldP0 _ rfl g2 rfl (kg2)) ?_
          refine nr ?_; intro U h; simp only [z0, z1] at h; subst h
          refine s_val 56 rfl rfl (.pointer (some ⟨g1, 1, none⟩)) (run_fld 26 _ 1 rfl g1 0 rfl 1 (by kernel_rfl)) ?_
          refine nr ?_; intro U h; simp only [z0, z1] at h; subst h
          refine s_val 57 rfl rfl (.agg (idA i)) (ldS_i _ rfl g1 rfl (kg1)) ?_
          refine nr ?_; intro U h; simp only [z0, z1] at h; subst h
          refine s_val 58 rfl rfl (.agg (idA c)) (ldI0 _ rfl g3 rfl (kg3)) ?_
          refine nr ?_; intro U h; simp only [z0, z1] at h; subst h
          refine s_val 59 rfl rfl (.slice ao way.length cap) (rfl) ?_
          refine nr ?_; intro U h; simp only [z0, z1] at h; subst h
          refine s_val 60 rfl rfl (.agg (suA p i c ao way.length cap)) (run_bd 88 _ rfl [(0, .agg (paA p)), (1, .agg (idA i)), (2, .agg (idA c)), (3, .slice ao way.length cap)] rfl _ (bdU4 _ _ _ _ _ _ _)) ?_
          refine nr ?_; intro U h; simp only [z0, z1] at h; subst h
          refine s_val 61 rfl rfl (.iface 88 (.agg (suA p i c ao way.length cap))) (run_mk 88 _ rfl _ rfl (by kernel_rfl)) ?_
          refine nr ?_; intro U h; simp only [z0, z1] at h; subst h
          refine s_callx 62 rfl rfl _ 29 Try.call29 rfl rfl _ rfl [.int .i64 (way.getD 1 0), .iface 88 (.agg (suA p i c ao way.length cap))] rfl (only4 _ (way.getD 1 0) (mSet p i c way) rfl ao cap HI (by show way.length ≤ _; omega)) (by rintro _ _ ⟨_, _, he, _⟩; exact ⟨_, he⟩) ?_
          rintro v w8 ⟨ao2, n2, he, G, HO2⟩
          cases he
          replace HO2 := HO2.mono GG.size
          replace kt := G.has kt
          replace kg1 := G.has kg1
          replace kg2 := G.has kg2
          replace kg3 := G.has kg3
          replace kg4 := G.has kg4
          replace HT := HT.gro G
          replace HI := HI.gro G
          replace HB := HB.gro G
          replace GG := GG.tg G
          clear G
          refine nr ?_; intro U h; simp only [z0, z1] at h; subst h
          refine s_val 63 rfl rfl (.agg (edA ao2 n2 true false)) (run_bd 41 _ rfl [(0, .slice ao2 n2 n2), (1, .bool true)] rfl _ (bdD01 _ _ _ _)) ?_
          refine nr ?_; intro U h; simp only [z0, z1] at h; subst h
          refine s_store rfl rfl 41 _ _ rfl g4 0 rfl (.agg (edA ao2 n2 true false)) rfl 41 _ kg4 (edA ao2 n2 true false) rfl (siD' _ _ _ _) (Nat.le_refl _) (oneD _ _ _ _) (edA ao2 n2 true false) (splice_whole _ _ (rfl)) ?_
          intro w9 St
          have kS := kg4
          replace kt := St.has (by omega) kt
          replace kg1 := St.has (by omega) kg1
          replace kg2 := St.has (by omega) kg2
          replace kg3 := St.has (by omega) kg3
          replace HT := HT.st St dHTg4
          replace HI := HI.st St dHIg4
          replace HB := HB.st St dHBg4
          replace HO2 := HO2.st St kS (by decide)
          replace GG := GG.st St (.inl bg4)
          replace kg4 := St.new
          clear St
          refine s_val 13 rfl rfl (.int .i64 0) (rfl) ?_
          refine nr ?_; intro U h; simp only [z0, z1] at h; subst h
          refine wpList_nil ?_
          refine then_n ?_
          refine wp_ret ?_
          refine bodyPost_ret (results_cell_tmp Try.results9 _ _ g4 41 _ (0, 0) _ rfl (.int .i64 0) rfl kg4 Try.underlying41 rfl (siD' _ _ _ _)) rfl ?_
          have hst := st_add (room := room) (L := L) (p := p) (o := o) ⟨hld2, of_decide_eq_false hbi⟩ (of_decide_eq_true ho) (of_decide_eq_true hc)
          rw [hst.1, hst.2.1, hst.2.2]
          exact ⟨_, _, rfl, HO2, HT, GG⟩
    · refine s_gvalY 29 rfl rfl y9 rfl (.bool true) (run_eqI _ _ _ rfl _ _ rfl rfl hcc hi true hbi) ?_
      refine nr ?_; intro U h; simp only [z0, z1] at h; subst h
      refine s_val 30 rfl rfl (.bool true) (rfl) ?_
      refine nr ?_; intro U h; simp only [z0, z1] at h; subst h
      refine wpList_nil ?_
      refine then_n ?_
      refine wp_cond_true rfl ?_
      refine wp_seq ?_
      refine wp_region_lit ?_
      refine s_val 31 rfl rfl (.agg (edA none 0 false false)) (run_bd 41 _ rfl [] rfl _ (bdD_ _)) ?_
      refine nr ?_; intro U h; simp only [z0, z1] at h; subst h
      refine s_store rfl rfl 41 _ _ rfl g4 0 rfl (.agg (edA none 0 false false)) rfl 41 _ kg4 (edA none 0 false false) rfl (siD' _ _ _ _) (Nat.le_refl _) (oneD _ _ _ _) (edA none 0 false false) (splice_whole _ _ (rfl)) ?_
      intro w6 St
      have kS := kg4
      replace kt := St.has (by omega) kt
      replace kg1 := St.has (by omega) kg1
      replace kg2 := St.has (by omega) kg2
      replace kg3 := St.has (by omega) kg3
      replace HT := HT.st St dHTg4
      replace HI := HI.st St dHIg4
      replace HB := HB.st St dHBg4
      replace GG := GG.st St (.inl bg4)
      replace kg4 := St.new
      clear St
      refine s_val 13 rfl rfl (.int .i64 1) (rfl) ?_
      refine nr ?_; intro U h; simp only [z0, z1] at h; subst h
      refine wpList_nil ?_
      refine then_n ?_
      refine wp_ret ?_
      refine then_r ?_
      refine bodyPost_ret (results_cell_tmp Try.results9 _ _ g4 41 _ (0, 0) _ rfl (.int .i64 1) rfl kg4 Try.underlying41 rfl (siD' _ _ _ _)) rfl ?_
      have hst := st_no (room := room) (L := L) (p := p) (o := o) (fun h => h.2 (of_decide_eq_true hbi) : ¬ (lead N way = true ∧ c ≠ i))
      rw [hst.1, hst.2.1, hst.2.2]
      exact ⟨_, _, rfl, ⟨rfl, rfl⟩, HT, GG⟩
set_option maxRecDepth 100000 in
set_option maxHeartbeats 4000000 in
theorem take_any (w : World) (t b room : Nat) (L : List En) (kt : w.heap[t]? = some (.cells (tbA room b) 99 (0, 0))) (HT : TM w b L) (N : Int) (i : Nat) (hi : i < top) (fr : Int) (hfr : I64 fr) (M : Msg) (hM : M.ok) (ao : Option Addr) (cap : Nat) (g : Fr) (d : FD) (HW : FrW w (frY M ao cap g) d) (hd : d.tr = M.l) (hI : ∀ x ∈ M.l, I64t x) (hl : M.l.length ≤ 17592186044416) (HS : FrS (frY M ao cap g)) (ap : Option Addr) (cq : Nat) (o : List Bool) (HB : RK kB w ap cq o) : Calls Try.prog 16 #[.pointer (some ⟨t, 0, none⟩), .agg (seA N i), .int .i64 fr, .agg (frA (frY M ao cap g)), .slice ap o.length cq] w (TakP w b (tkE room L N i fr M o) (tkL room L N i fr M o)) := by
  refine s_enter Try.func16 rfl Try.ntmps16 [.pointer (some ⟨t, 0, none⟩), .agg (seA N i), .int .i64 fr, .agg (frA (frY M ao cap g)), .slice ap o.length cq] [.pointer (some ⟨t, 0, none⟩), .agg (seA N i), .int .i64 fr, .agg (frA (frY M ao cap g)), .slice ap o.length cq, undef, undef, undef, undef, undef, undef, undef, undef, undef, undef, undef, undef, undef, undef, undef, undef, undef, undef, undef, undef, undef, undef, undef, undef, undef, undef, undef, undef, undef, undef, undef, undef, undef, undef, undef, undef, undef, undef, undef, undef, undef, undef, undef, undef, undef, undef, undef, undef, undef, undef, undef, undef, undef, undef, undef, undef, undef, undef, undef, undef, undef, undef, undef, undef, undef, undef, undef, undef] rfl ?_
  have GG := GroS.refl [b] w
  refine wp_seq ?_
  refine wp_region_lit ?_
  refine s_box 6 rfl rfl 26 _ rfl _ rfl (seA N i) rfl ?_
  intro w1 g1 G eg1 kg1
  have bg1 := size_basS GG eg1
  have dtg1 := lt_new kt eg1
  have dHTg1 := HT.ne eg1
  have dHBg1 := HB.ne eg1
  replace kt := G.has kt
  replace HT := HT.gro G
  replace HB := HB.gro G
  replace HW := HW.gro G
  replace GG := GG.tg G
  clear G
  clear eg1
  refine nr ?_; intro U h; simp only [z0, z1] at h; subst h
  refine s_box 8 rfl rfl 64 _ rfl _ rfl (frA (frY M ao cap g)) rfl ?_
  intro w2 g2 G eg2 kg2
  have bg2 := size_basS GG eg2
  have dtg2 := lt_new kt eg2
  have dg1g2 := lt_new kg1 eg2
  have dHTg2 := HT.ne eg2
  have dHBg2 := HB.ne eg2
  replace kt := G.has kt
  replace kg1 := G.has kg1
  replace HT := HT.gro G
  replace HB := HB.gro G
  replace HW := HW.gro G
  replace GG := GG.tg G
  clear G
  clear eg2
  refine nr ?_; intro U h; simp only [z0, z1] at h; subst h
  refine s_alloc 10 rfl rfl 41 rfl _ zvD (edA none 0 false false) rfl ?_
  intro w3 g3 G eg3 kg3
  have bg3 := size_basS GG eg3
  have dtg3 := lt_new kt eg3
  have dg1g3 := lt_new kg1 eg3
  have dg2g3 := lt_new kg2 eg3
  have dHTg3 := HT.ne eg3
  have dHBg3 := HB.ne eg3
  replace kt := G.has kt
  replace kg1 := G.has kg1
  replace kg2 := G.has kg2
  replace HT := HT.gro G
  replace HB := HB.gro G
  replace HW := HW.gro G
  replace GG := GG.tg G
  clear G
  clear eg3
  refine nr ?_; intro U h; simp only [z0, z1] at h; subst h
  refine wpList_nil ?_
  refine then_n ?_
  refine wp_seq ?_
  cases hk : decide (M.kind = 4)
  · refine wp_region_lit ?_
    refine s_val 16 rfl rfl (.agg (frA (frY M ao cap g))) (ldF_0 _ rfl g2 rfl (kg2)) ?_
    refine nr ?_; intro U h; simp only [z0, z1] at h; subst h
    refine s_callv 17 rfl rfl _ 34 Try.call34 rfl rfl _ rfl [.agg (frA (frY M ao cap g))] rfl (setupOf_no _ M ao cap g d HW HS (of_decide_eq_false hk)) ?_
    intro w4 G
    replace kt := G.has kt
    replace kg1 := G.has kg1
    replace kg2 := G.has kg2
    replace kg3 := G.has kg3
    replace HT := HT.gro G
    replace HB := HB.gro G
    replace GG := GG.tg G
    clear G
    refine nr ?_; intro U h; simp only [z0, z1] at h; subst h
    refine s_val 15 rfl rfl (.tuple #[.agg (suA zP 0 0 none 0 0), .bool false]) (rfl) ?_
    refine nr ?_; intro U h; simp only [z0, z1] at h; subst h
    refine s_val 18 rfl rfl (.agg (suA zP 0 0 none 0 0)) (rfl) ?_
    refine nr ?_; intro U h; simp only [z0, z1] at h; subst h
    refine s_val 19 rfl rfl (.bool false) (rfl) ?_
    refine nr ?_; intro U h; simp only [z0, z1] at h; subst h
    refine s_alloc 11 rfl rfl 88 rfl _ zvU (suA zP 0 0 none 0 0) rfl ?_
    intro w5 g4 G eg4 kg4
    have bg4 := size_basS GG eg4
    have dtg4 := lt_new kt eg4
    have dg1g4 := lt_new kg1 eg4
    have dg2g4 := lt_new kg2 eg4
    have dg3g4 := lt_new kg3 eg4
    have dHTg4 := HT.ne eg4
    have dHBg4 := HB.ne eg4
    replace kt := G.has kt
    replace kg1 := G.has kg1
    replace kg2 := G.has kg2
    replace kg3 := G.has kg3
    replace HT := HT.gro G
    replace HB := HB.gro G
    replace GG := GG.tg G
    clear G
    clear eg4
    refine nr ?_; intro U h; simp only [z0, z1] at h; subst h
    refine s_store rfl rfl 88 _ _ rfl g4 0 rfl (.agg (suA zP 0 0 none 0 0)) rfl 88 _ kg4 (suA zP 0 0 none 0 0) rfl (siU' _ _ _ _ _ _) (Nat.le_refl _) (oneU _ _ _ _ _ _) (suA zP 0 0 none 0 0) (splice_whole _ _ (rfl)) ?_
    intro w6 St
    have kS := kg4
    replace kt := St.has (by omega) kt
    replace kg1 := St.has (by omega) kg1
    replace kg2 := St.has (by omega) kg2
    replace kg3 := St.has (by omega) kg3
    replace HT := HT.st St dHTg4
    replace HB := HB.st St dHBg4
    replace GG := GG.st St (.inl bg4)
    replace kg4 := St.new
    clear St
    refine s_val 12 rfl rfl (.bool false) (rfl) ?_
    refine nr ?_; intro U h; simp only [z0, z1] at h; subst h
    refine wpList_nil ?_
    refine then_n ?_
    refine wp_seq ?_
    refine wp_seq ?_
    refine wp_region_opq ?_
    intro OPS hY
    have y2 := hY 2 22 rfl
    have y6 := hY 6 26 rfl
    clear hY
    refine s_val 20 rfl rfl (.pointer (some ⟨t, 0, none⟩)) (rfl) ?_
    refine nr ?_; intro U h; simp only [z0, z1] at h; subst h
    refine s_val 21 rfl rfl (.bool false) (run_eqnp 35 _ _ _ rfl _ rfl rfl Try.underlying35 _) ?_
    refine nr ?_; intro U h; simp only [z0, z1] at h; subst h
    refine s_val 22 rfl rfl (.bool false) (rfl) ?_
    refine nr ?_; intro U h; simp only [z0, z1] at h; subst h
    refine s_gvalY 23 rfl rfl y2 rfl (.bool false) (rfl) ?_
    refine nr ?_; intro U h; simp only [z0, z1] at h; subst h
    refine s_gvalY 24 rfl rfl y2 rfl (.bool true) (run_nt _ _ rfl false rfl) ?_
    refine nr ?_; intro U h; simp only [z0, z1] at h; subst h
    refine s_val 25 rfl rfl (.bool true) (rfl) ?_
    refine nr ?_; intro U h; simp only [z0, z1] at h; subst h
    refine s_val 26 rfl rfl (.bool true) (rfl) ?_
    refine nr ?_; intro U h; simp only [z0, z1] at h; subst h
    refine s_skipY 27 rfl rfl y6 rfl ?_
    refine nr ?_; intro U h; simp only [z0, z1] at h; subst h
    refine s_skipY 28 rfl rfl y6 rfl ?_
    refine nr ?_; intro U h; simp only [z0, z1] at h; subst h
    refine s_skipY 29 rfl rfl y6 rfl ?_
    refine nr ?_; intro U h; simp only [z0, z1] at h; subst h
    refine s_skipY 30 rfl rfl y6 rfl ?_
    refine nr ?_; intro U h; simp only [z0, z1] at h; subst h
    refine s_val 31 rfl rfl (.bool true) (rfl) ?_
    refine nr ?_; intro U h; simp only [z0, z1] at h; subst h
    refine wpList_nil ?_
    refine then_n ?_
    refine wp_cond_true rfl ?_
    refine wp_seq ?_
    refine wp_region_lit ?_
    refine s_val 32 rfl rfl (.agg (edA none 0 false false)) (run_bd 41 _ rfl [] rfl _ (bdD_ _)) ?_
    refine nr ?_; intro U h; simp only [z0, z1] at h; subst h
    refine s_store rfl rfl 41 _ _ rfl g3 0 rfl (.agg (edA none 0 false false)) rfl 41 _ kg3 (edA none 0 false false) rfl (siD' _ _ _ _) (Nat.le_refl _) (oneD _ _ _ _) (edA none 0 false false) (splice_whole _ _ (rfl)) ?_
    intro w7 St
    have kS := kg3
    replace kt := St.has (by omega) kt
    replace kg1 := St.has (by omega) kg1
    replace kg2 := St.has (by omega) kg2
    replace kg4 := St.has (by omega) kg4
    replace HT := HT.st St dHTg3
    replace HB := HB.st St dHBg3
    replace GG := GG.st St (.inl bg3)
    replace kg3 := St.new
    clear St
    refine wpList_nil ?_
    refine then_n ?_
    refine wp_ret ?_
    refine then_r ?_
    refine bodyPost_ret (results_cell_row Try.results16 _ _ g3 41 _ (0, 0) _ rfl kg3 Try.underlying41 rfl (siD' _ _ _ _)) rfl ?_
    have htk := tk_not (room := room) (L := L) (ID := i) (o := o) (M := M) (N := N) (fr := fr) (fun h => of_decide_eq_false hk h.1)
    rw [htk.1, htk.2]
    exact ⟨_, _, rfl, ⟨rfl, rfl⟩, HT, GG⟩
  · refine wp_region_lit ?_
    refine s_val 16 rfl rfl (.agg (frA (frY M ao cap g))) (ldF_0 _ rfl g2 rfl (kg2)) ?_
    refine nr ?_; intro U h; simp only [z0, z1] at h; subst h
    refine s_callx 17 rfl rfl _ 34 Try.call34 rfl rfl _ rfl [.agg (frA (frY M ao cap g))] rfl (setupOf_yes _ M (of_decide_eq_true hk) ao cap g d HW hd hI HS) (by rintro _ _ ⟨_, _, he, _⟩; exact ⟨_, he⟩) ?_
    rintro v w4 ⟨ao1, cap1, he, G, HI1⟩
    cases he
    have dHI1t := HI1.neL (lt_of_heap kt)
    have dHI1g1 := HI1.neL (lt_of_heap kg1)
    have dHI1g2 := HI1.neL (lt_of_heap kg2)
    have dHI1g3 := HI1.neL (lt_of_heap kg3)
    replace HI1 := HI1.mono GG.size
    replace kt := G.has kt
    replace kg1 := G.has kg1
    replace kg2 := G.has kg2
    replace kg3 := G.has kg3
    replace HT := HT.gro G
    replace HB := HB.gro G
    replace GG := GG.tg G
    clear G
    refine nr ?_; intro U h; simp only [z0, z1] at h; subst h
    refine s_val 15 rfl rfl (.tuple #[.agg (suA M.p M.a M.b ao1 M.l.length cap1), .bool true]) (rfl) ?_
    refine nr ?_; intro U h; simp only [z0, z1] at h; subst h
    refine s_val 18 rfl rfl (.agg (suA M.p M.a M.b ao1 M.l.length cap1)) (rfl) ?_
    refine nr ?_; intro U h; simp only [z0, z1] at h; subst h
    refine s_val 19 rfl rfl (.bool true) (rfl) ?_
    refine nr ?_; intro U h; simp only [z0, z1] at h; subst h
    refine s_alloc 11 rfl rfl 88 rfl _ zvU (suA zP 0 0 none 0 0) rfl ?_
    intro w5 g4 G eg4 kg4
    have bg4 := size_basS GG eg4
    have dtg4 := lt_new kt eg4
    have dg1g4 := lt_new kg1 eg4
    have dg2g4 := lt_new kg2 eg4
    have dg3g4 := lt_new kg3 eg4
    have dHTg4 := HT.ne eg4
    have dHBg4 := HB.ne eg4
    have dHI1g4 := HI1.ne eg4
    replace kt := G.has kt
    replace kg1 := G.has kg1
    replace kg2 := G.has kg2
    replace kg3 := G.has kg3
    replace HT := HT.gro G
    replace HB := HB.gro G
    replace HI1 := HI1.gro G
    replace GG := GG.tg G
    clear G
    clear eg4
    refine nr ?_; intro U h; simp only [z0, z1] at h; subst h
    refine s_store rfl rfl 88 _ _ rfl g4 0 rfl (.agg (suA M.p M.a M.b ao1 M.l.length cap1)) rfl 88 _ kg4 (suA M.p M.a M.b ao1 M.l.length cap1) rfl (siU' _ _ _ _ _ _) (Nat.le_refl _) (oneU _ _ _ _ _ _) (suA M.p M.a M.b ao1 M.l.length cap1) (splice_whole _ _ (rfl)) ?_
    intro w6 St
    have kS := kg4
    replace kt := St.has (by omega) kt
    replace kg1 := St.has (by omega) kg1
    replace kg2 := St.has (by omega) kg2
    replace kg3 := St.has (by omega) kg3
    replace HT := HT.st St dHTg4
    replace HB := HB.st St dHBg4
    replace HI1 := HI1.st St dHI1g4
    replace GG := GG.st St (.inl bg4)
    replace kg4 := St.new
    clear St
    refine s_val 12 rfl rfl (.bool true) (rfl) ?_
    refine nr ?_; intro U h; simp only [z0, z1] at h; subst h
    refine wpList_nil ?_
    refine then_n ?_
    refine wp_seq ?_
    refine wp_seq ?_
    cases hs : decide (M.l.Nodup)
    · refine wp_region_opq ?_
      intro OPS hY
      have y2 := hY 2 22 rfl
      have y6 := hY 6 26 rfl
      clear hY
      refine s_val 20 rfl rfl (.pointer (some ⟨t, 0, none⟩)) (rfl) ?_
      refine nr ?_; intro U h; simp only [z0, z1] at h; subst h
      refine s_val 21 rfl rfl (.bool false) (run_eqnp 35 _ _ _ rfl _ rfl rfl Try.underlying35 _) ?_
      refine nr ?_; intro U h; simp only [z0, z1] at h; subst h
      refine s_val 22 rfl rfl (.bool false) (rfl) ?_
      refine nr ?_; intro U h; simp only [z0, z1] at h; subst h
      refine s_gvalY 23 rfl rfl y2 rfl (.bool true) (rfl) ?_
      refine nr ?_; intro U h; simp only [z0, z1] at h; subst h
      refine s_gvalY 24 rfl rfl y2 rfl (.bool false) (run_nt _ _ rfl true rfl) ?_
      refine nr ?_; intro U h; simp only [z0, z1] at h; subst h
      refine s_val 25 rfl rfl (.bool false) (rfl) ?_
      refine nr ?_; intro U h; simp only [z0, z1] at h; subst h
      refine s_val 26 rfl rfl (.bool false) (rfl) ?_
      refine nr ?_; intro U h; simp only [z0, z1] at h; subst h
      refine s_gvalY 27 rfl rfl y6 rfl (.pointer (some ⟨g4, 49, none⟩)) (run_fld 88 _ 3 rfl g4 0 rfl 49 (by kernel_rfl)) ?_
      refine nr ?_; intro U h; simp only [z0, z1] at h; subst h
      refine s_gvalY 28 rfl rfl y6 rfl (.slice ao1 M.l.length cap1) (ldU_t _ rfl g4 rfl (kg4)) ?_
      refine nr ?_; intro U h; simp only [z0, z1] at h; subst h
      refine s_gcallvY 29 rfl rfl y6 rfl _ 35 Try.call35 rfl rfl _ rfl [.slice ao1 M.l.length cap1] rfl (Calls.boolt (simple_any _ ao1 cap1 M.l (HI1.rc) hl) hs) ?_
      intro w7 G
      replace kt := G.has kt
      replace kg1 := G.has kg1
      replace kg2 := G.has kg2
      replace kg3 := G.has kg3
      replace kg4 := G.has kg4
      replace HT := HT.gro G
      replace HB := HB.gro G
      replace HI1 := HI1.gro G
      replace GG := GG.tg G
      clear G
      refine nr ?_; intro U h; simp only [z0, z1] at h; subst h
      refine s_gvalY 30 rfl rfl y6 rfl (.bool true) (run_nt _ _ rfl false rfl) ?_
      refine nr ?_; intro U h; simp only [z0, z1] at h; subst h
      refine s_val 31 rfl rfl (.bool true) (rfl) ?_
      refine nr ?_; intro U h; simp only [z0, z1] at h; subst h
      refine wpList_nil ?_
      refine then_n ?_
      refine wp_cond_true rfl ?_
      refine wp_seq ?_
      refine wp_region_lit ?_
      refine s_val 32 rfl rfl (.agg (edA none 0 false false)) (run_bd 41 _ rfl [] rfl _ (bdD_ _)) ?_
      refine nr ?_; intro U h; simp only [z0, z1] at h; subst h
      refine s_store rfl rfl 41 _ _ rfl g3 0 rfl (.agg (edA none 0 false false)) rfl 41 _ kg3 (edA none 0 false false) rfl (siD' _ _ _ _) (Nat.le_refl _) (oneD _ _ _ _) (edA none 0 false false) (splice_whole _ _ (rfl)) ?_
      intro w8 St
      have kS := kg3
      replace kt := St.has (by omega) kt
      replace kg1 := St.has (by omega) kg1
      replace kg2 := St.has (by omega) kg2
      replace kg4 := St.has (by omega) kg4
      replace HT := HT.st St dHTg3
      replace HB := HB.st St dHBg3
      replace HI1 := HI1.st St dHI1g3
      replace GG := GG.st St (.inl bg3)
      replace kg3 := St.new
      clear St
      refine wpList_nil ?_
      refine then_n ?_
      refine wp_ret ?_
      refine then_r ?_
      refine bodyPost_ret (results_cell_row Try.results16 _ _ g3 41 _ (0, 0) _ rfl kg3 Try.underlying41 rfl (siD' _ _ _ _)) rfl ?_
      have htk := tk_not (room := room) (L := L) (ID := i) (o := o) (M := M) (N := N) (fr := fr) (fun h => of_decide_eq_false hs h.2.1)
      rw [htk.1, htk.2]
      exact ⟨_, _, rfl, ⟨rfl, rfl⟩, HT, GG⟩
    · refine wp_region_opq ?_
      intro OPS hY
      have y2 := hY 2 22 rfl
      have y6 := hY 6 26 rfl
      clear hY
      refine s_val 20 rfl rfl (.pointer (some ⟨t, 0, none⟩)) (rfl) ?_
      refine nr ?_; intro U h; simp only [z0, z1] at h; subst h
      refine s_val 21 rfl rfl (.bool false) (run_eqnp 35 _ _ _ rfl _ rfl rfl Try.underlying35 _) ?_
      refine nr ?_; intro U h; simp only [z0, z1] at h; subst h
      refine s_val 22 rfl rfl (.bool false) (rfl) ?_
      refine nr ?_; intro U h; simp only [z0, z1] at h; subst h
      refine s_gvalY 23 rfl rfl y2 rfl (.bool true) (rfl) ?_
      refine nr ?_; intro U h; simp only [z0, z1] at h; subst h
      refine s_gvalY 24 rfl rfl y2 rfl (.bool false) (run_nt _ _ rfl true rfl) ?_
      refine nr ?_; intro U h; simp only [z0, z1] at h; subst h
      refine s_val 25 rfl rfl (.bool false) (rfl) ?_
      refine nr ?_; intro U h; simp only [z0, z1] at h; subst h
      refine s_val 26 rfl rfl (.bool false) (rfl) ?_
      refine nr ?_; intro U h; simp only [z0, z1] at h; subst h
      refine s_gvalY 27 rfl rfl y6 rfl (.pointer (some ⟨g4, 49, none⟩)) (run_fld 88 _ 3 rfl g4 0 rfl 49 (by kernel_rfl)) ?_
      refine nr ?_; intro U h; simp only [z0, z1] at h; subst h
      refine s_gvalY 28 rfl rfl y6 rfl (.slice ao1 M.l.length cap1) (ldU_t _ rfl g4 rfl (kg4)) ?_
      refine nr ?_; intro U h; simp only [z0, z1] at h; subst h
      refine s_gcallvY 29 rfl rfl y6 rfl _ 35 Try.call35 rfl rfl _ rfl [.slice ao1 M.l.length cap1] rfl (Calls.boolt (simple_any _ ao1 cap1 M.l (HI1.rc) hl) hs) ?_
      intro w7 G
      replace kt := G.has kt
      replace kg1 := G.has kg1
      replace kg2 := G.has kg2
      replace kg3 := G.has kg3
      replace kg4 := G.has kg4
      replace HT := HT.gro G
      replace HB := HB.gro G
      replace HI1 := HI1.gro G
      replace GG := GG.tg G
      clear G
      refine nr ?_; intro U h; simp only [z0, z1] at h; subst h
      refine s_gvalY 30 rfl rfl y6 rfl (.bool false) (run_nt _ _ rfl true rfl) ?_
      refine nr ?_; intro U h; simp only [z0, z1] at h; subst h
      refine s_val 31 rfl rfl (.bool false) (rfl) ?_
      refine nr ?_; intro U h; simp only [z0, z1] at h; subst h
      refine wpList_nil ?_
      refine then_n ?_
      refine wp_cond_false rfl ?_
      refine wp_skip ?_
      refine then_n ?_
      refine wp_seq ?_
      cases hp : decide (1 ≤ plc M.l N)
      · refine wp_region_lit ?_
        refine s_val 33 rfl rfl (.pointer (some ⟨g4, 49, none⟩)) (run_fld 88 _ 3 rfl g4 0 rfl 49 (by kernel_rfl)) ?_
        refine nr ?_; intro U h; simp only [z0, z1] at h; subst h
        refine s_val 34 rfl rfl (.slice ao1 M.l.length cap1) (ldU_t _ rfl g4 rfl (kg4)) ?_
        refine nr ?_; intro U h; simp only [z0, z1] at h; subst h
        refine s_val 35 rfl rfl (.pointer (some ⟨g1, 0, none⟩)) (run_fld 26 _ 0 rfl g1 0 rfl 0 (by kernel_rfl)) ?_
        refine nr ?_; intro U h; simp only [z0, z1] at h; subst h
        refine s_val 36 rfl rfl (.int .i64 N) (ldS_n _ rfl g1 rfl (kg1)) ?_
        refine nr ?_; intro U h; simp only [z0, z1] at h; subst h
        refine s_callv 37 rfl rfl _ 36 Try.call36 rfl rfl _ rfl [.slice ao1 M.l.length cap1, .int .i64 N] rfl (place_any _ ao1 cap1 M.l (HI1.rc) hl N) ?_
        intro w8 G
        replace kt := G.has kt
        replace kg1 := G.has kg1
        replace kg2 := G.has kg2
        replace kg3 := G.has kg3
        replace kg4 := G.has kg4
        replace HT := HT.gro G
        replace HB := HB.gro G
        replace HI1 := HI1.gro G
        replace GG := GG.tg G
        clear G
        refine nr ?_; intro U h; simp only [z0, z1] at h; subst h
        refine s_val 13 rfl rfl (.int .i64 (plc M.l N)) (rfl) ?_
        refine nr ?_; intro U h; simp only [z0, z1] at h; subst h
        refine wpList_nil ?_
        refine then_n ?_
        refine wp_seq ?_
        refine wp_seq ?_
        refine wp_region_opq ?_
        intro OPS hY
        have y2 := hY 2 40 rfl
        clear hY
        refine s_val 38 rfl rfl (.int .i64 (plc M.l N)) (rfl) ?_
        refine nr ?_; intro U h; simp only [z0, z1] at h; subst h
        refine s_val 39 rfl rfl (.bool true) (run_lssT 3 _ _ _ rfl (plc M.l N) 1 rfl rfl true (decide_eq_true (by have := of_decide_eq_false hp; omega)) _) ?_
        refine nr ?_; intro U h; simp only [z0, z1] at h; subst h
        refine s_val 40 rfl rfl (.bool true) (rfl) ?_
        refine nr ?_; intro U h; simp only [z0, z1] at h; subst h
        refine s_skipY 41 rfl rfl y2 rfl ?_
        refine nr ?_; intro U h; simp only [z0, z1] at h; subst h
        refine s_skipY 42 rfl rfl y2 rfl ?_
        refine nr ?_; intro U h; simp only [z0, z1] at h; subst h
        refine s_skipY 43 rfl rfl y2 rfl ?_
        refine nr ?_; intro U h; simp only [z0, z1] at h; subst h
        refine s_skipY 44 rfl rfl y2 rfl ?_
        refine nr ?_; intro U h; simp only [z0, z1] at h; subst h
        refine s_skipY 45 rfl rfl y2 rfl ?_
        refine nr ?_; intro U h; simp only [z0, z1] at h; subst h
        refine s_skipY 46 rfl rfl y2 rfl ?_
        refine nr ?_; intro U h; simp only [z0, z1] at h; subst h
        refine s_skipY 47 rfl rfl y2 rfl ?_
        refine nr ?_; intro U h; simp only [z0, z1] at h; subst h
        refine s_skipY 48 rfl rfl y2 rfl ?_
        refine nr ?_; intro U h; simp only [z0, z1] at h; subst h
        refine s_val 49 rfl rfl (.bool true) (rfl) ?_
        refine nr ?_; intro U h; simp only [z0, z1] at h; subst h
        refine wpList_nil ?_
        refine then_n ?_
        refine wp_cond_true rfl ?_
        refine wp_seq ?_
        refine wp_region_lit ?_
        refine s_val 50 rfl rfl (.agg (edA none 0 false false)) (run_bd 41 _ rfl [] rfl _ (bdD_ _)) ?_
        refine nr ?_; intro U h; simp only [z0, z1] at h; subst h
        refine s_store rfl rfl 41 _ _ rfl g3 0 rfl (.agg (edA none 0 false false)) rfl 41 _ kg3 (edA none 0 false false) rfl (siD' _ _ _ _) (Nat.le_refl _) (oneD _ _ _ _) (edA none 0 false false) (splice_whole _ _ (rfl)) ?_
        intro w9 St
        have kS := kg3
        replace kt := St.has (by omega) kt
        replace kg1 := St.has (by omega) kg1
        replace kg2 := St.has (by omega) kg2
        replace kg4 := St.has (by omega) kg4
        replace HT := HT.st St dHTg3
        replace HB := HB.st St dHBg3
        replace HI1 := HI1.st St dHI1g3
        replace GG := GG.st St (.inl bg3)
        replace kg3 := St.new
        clear St
        refine wpList_nil ?_
        refine then_n ?_
        refine wp_ret ?_
        refine then_r ?_
        refine bodyPost_ret (results_cell_row Try.results16 _ _ g3 41 _ (0, 0) _ rfl kg3 Try.underlying41 rfl (siD' _ _ _ _)) rfl ?_
        have htk := tk_not (room := room) (L := L) (ID := i) (o := o) (M := M) (N := N) (fr := fr) (fun h => of_decide_eq_false hp h.2.2.1)
        rw [htk.1, htk.2]
        exact ⟨_, _, rfl, ⟨rfl, rfl⟩, HT, GG⟩
      · obtain ⟨q, hq, hq1, hql⟩ := plc_in (of_decide_eq_true hp)
        refine wp_region_lit ?_
        refine s_val 33 rfl rfl (.pointer (some ⟨g4, 49, none⟩)) (run_fld 88 _ 3 rfl g4 0 rfl 49 (by kernel_rfl)) ?_
        refine nr ?_; intro U h; simp only [z0, z1] at h; subst h
        refine s_val 34 rfl rfl (.slice ao1 M.l.length cap1) (ldU_t _ rfl g4 rfl (kg4)) ?_
        refine nr ?_; intro U h; simp only [z0, z1] at h; subst h
        refine s_val 35 rfl rfl (.pointer (some ⟨g1, 0, none⟩)) (run_fld 26 _ 0 rfl g1 0 rfl 0 (by kernel_rfl)) ?_
        refine nr ?_; intro U h; simp only [z0, z1] at h; subst h
        refine s_val 36 rfl rfl (.int .i64 N) (ldS_n _ rfl g1 rfl (kg1)) ?_
        refine nr ?_; intro U h; simp only [z0, z1] at h; subst h
        refine s_callv 37 rfl rfl _ 36 Try.call36 rfl rfl _ rfl [.slice ao1 M.l.length cap1, .int .i64 N] rfl (Calls.valVt (place_any _ ao1 cap1 M.l (HI1.rc) hl N) (by rw [hq])) ?_
        intro w8 G
        replace kt := G.has kt
        replace kg1 := G.has kg1
        replace kg2 := G.has kg2
        replace kg3 := G.has kg3
        replace kg4 := G.has kg4
        replace HT := HT.gro G
        replace HB := HB.gro G
        replace HI1 := HI1.gro G
        replace GG := GG.tg G
        clear G
        refine nr ?_; intro U h; simp only [z0, z1] at h; subst h
        refine s_val 13 rfl rfl (.int .i64 ((q : Nat) : Int)) (rfl) ?_
        refine nr ?_; intro U h; simp only [z0, z1] at h; subst h
        refine wpList_nil ?_
        refine then_n ?_
        refine wp_seq ?_
        refine wp_seq ?_
        refine wp_region_opq ?_
        intro OPS hY
        have y2 := hY 2 40 rfl
        clear hY
        refine s_val 38 rfl rfl (.int .i64 ((q : Nat) : Int)) (rfl) ?_
        refine nr ?_; intro U h; simp only [z0, z1] at h; subst h
        refine s_val 39 rfl rfl (.bool false) (run_lssT 3 _ _ _ rfl ((q : Nat) : Int) 1 rfl rfl false (decide_eq_false (by omega)) _) ?_
        refine nr ?_; intro U h; simp only [z0, z1] at h; subst h
        refine s_val 40 rfl rfl (.bool false) (rfl) ?_
        refine nr ?_; intro U h; simp only [z0, z1] at h; subst h
        refine s_gvalY 41 rfl rfl y2 rfl (.pointer (some ⟨g4, 49, none⟩)) (run_fld 88 _ 3 rfl g4 0 rfl 49 (by kernel_rfl)) ?_
        refine nr ?_; intro U h; simp only [z0, z1] at h; subst h
        refine s_gvalY 42 rfl rfl y2 rfl (.slice ao1 M.l.length cap1) (ldU_t _ rfl g4 rfl (kg4)) ?_
        refine nr ?_; intro U h; simp only [z0, z1] at h; subst h
        refine s_gvalY 43 rfl rfl y2 rfl (.int .i64 ((q : Nat) : Int)) (rfl) ?_
        refine nr ?_; intro U h; simp only [z0, z1] at h; subst h
        refine s_gvalY 44 rfl rfl y2 rfl (.int .i64 ((q - 1 : Nat) : Int)) (run_subI 3 _ _ _ rfl ((q : Nat) : Int) 1 ((q - 1 : Nat) : Int) rfl rfl (by omega) (by omega) (by omega) _) ?_
        refine nr ?_; intro U h; simp only [z0, z1] at h; subst h
        refine s_gvalY 45 rfl rfl y2 rfl (.pointer (pA ao1 (q - 1))) (run_ixI (HI1.rc) _ _ rfl rfl (q - 1) rfl (by omega)) ?_
        refine nr ?_; intro U h; simp only [z0, z1] at h; subst h
        refine s_gvalY 46 rfl rfl y2 rfl (.int .i64 (M.l.getD (q - 1) 0)) (run_ldI (HI1.rc) _ rfl (q - 1) rfl (by omega)) ?_
        refine nr ?_; intro U h; simp only [z0, z1] at h; subst h
        refine s_gvalY 47 rfl rfl y2 rfl (.int .i64 fr) (rfl) ?_
        refine nr ?_; intro U h; simp only [z0, z1] at h; subst h
        cases hf : decide (M.l.getD (q - 1) 0 = fr)
        · refine s_gvalY 48 rfl rfl y2 rfl (.bool true) (run_neq_k 3 .i64 _ _ _ rfl Try.underlying3 (M.l.getD (q - 1) 0) fr rfl rfl true hf _) ?_
          refine nr ?_; intro U h; simp only [z0, z1] at h; subst h
          refine s_val 49 rfl rfl (.bool true) (rfl) ?_
          refine nr ?_; intro U h; simp only [z0, z1] at h; subst h
          refine wpList_nil ?_
          refine then_n ?_
          refine wp_cond_true rfl ?_
          refine wp_seq ?_
          refine wp_region_lit ?_
          refine s_val 50 rfl rfl (.agg (edA none 0 false false)) (run_bd 41 _ rfl [] rfl _ (bdD_ _)) ?_
          refine nr ?_; intro U h; simp only [z0, z1] at h; subst h
          refine s_store rfl rfl 41 _ _ rfl g3 0 rfl (.agg (edA none 0 false false)) rfl 41 _ kg3 (edA none 0 false false) rfl (siD' _ _ _ _) (Nat.le_refl _) (oneD _ _ _ _) (edA none 0 false false) (splice_whole _ _ (rfl)) ?_
          intro w9 St
          have kS := kg3
          replace kt := St.has (by omega) kt
          replace kg1 := St.has (by omega) kg1
          replace kg2 := St.has (by omega) kg2
          replace kg4 := St.has (by omega) kg4
          replace HT := HT.st St dHTg3
          replace HB := HB.st St dHBg3
          replace HI1 := HI1.st St dHI1g3
          replace GG := GG.st St (.inl bg3)
          replace kg3 := St.new
          clear St
          refine wpList_nil ?_
          refine then_n ?_
          refine wp_ret ?_
          refine then_r ?_
          refine bodyPost_ret (results_cell_row Try.results16 _ _ g3 41 _ (0, 0) _ rfl kg3 Try.underlying41 rfl (siD' _ _ _ _)) rfl ?_
          have htk := tk_not (room := room) (L := L) (ID := i) (o := o) (M := M) (N := N) (fr := fr) (fun h => of_decide_eq_false hf (by have h4 := h.2.2.2; rw [hq, Int.toNat_natCast] at h4; exact h4))
          rw [htk.1, htk.2]
          exact ⟨_, _, rfl, ⟨rfl, rfl⟩, HT, GG⟩
        · refine s_gvalY 48 rfl rfl y2 rfl (.bool false) (run_neq_k 3 .i64 _ _ _ rfl Try.underlying3 (M.l.getD (q - 1) 0) fr rfl rfl false hf _) ?_
          refine nr ?_; intro U h; simp only [z0, z1] at h; subst h
          refine s_val 49 rfl rfl (.bool false) (rfl) ?_
          refine nr ?_; intro U h; simp only [z0, z1] at h; subst h
          refine wpList_nil ?_
          refine then_n ?_
          refine wp_cond_false rfl ?_
          refine wp_skip ?_
          refine then_n ?_
          refine wp_seq ?_
          refine wp_seq ?_
          refine wp_region_lit ?_
          refine s_val 51 rfl rfl (.pointer (some ⟨g4, 49, none⟩)) (run_fld 88 _ 3 rfl g4 0 rfl 49 (by kernel_rfl)) ?_
          refine nr ?_; intro U h; simp only [z0, z1] at h; subst h
          refine s_val 52 rfl rfl (.slice ao1 M.l.length cap1) (ldU_t _ rfl g4 rfl (kg4)) ?_
          refine nr ?_; intro U h; simp only [z0, z1] at h; subst h
          refine s_val 53 rfl rfl (.int .i64 ((q : Nat) : Int)) (rfl) ?_
          refine nr ?_; intro U h; simp only [z0, z1] at h; subst h
          refine s_val 54 rfl rfl (.int .i64 ((q + 1 : Nat) : Int)) (run_addI 3 _ _ _ rfl ((q : Nat) : Int) 1 ((q + 1 : Nat) : Int) rfl rfl (by omega) (by omega) (by omega) _) ?_
          refine nr ?_; intro U h; simp only [z0, z1] at h; subst h
          obtain ⟨ar, cr, HR, hrun⟩ := run_dropX HI1.rc (q + 1) (by omega)
          refine s_val 55 rfl rfl (.slice ar (M.l.drop (q + 1)).length cr) (hrun _ _ rfl rfl rfl _) ?_
          refine nr ?_; intro U h; simp only [z0, z1] at h; subst h
          clear hrun
          have hdl : (M.l.drop (q + 1)).length = M.l.length - (q + 1) := List.length_drop
          refine s_val 14 rfl rfl (.slice ar (M.l.drop (q + 1)).length cr) (rfl) ?_
          refine nr ?_; intro U h; simp only [z0, z1] at h; subst h
          refine wpList_nil ?_
          refine then_n ?_
          refine wp_seq ?_
          refine wp_region_lit ?_
          refine s_val 56 rfl rfl (.slice ar (M.l.drop (q + 1)).length cr) (rfl) ?_
          refine nr ?_; intro U h; simp only [z0, z1] at h; subst h
          refine s_val 57 rfl rfl (.int .i64 (((M.l.drop (q + 1)).length : Nat) : Int)) (run_len Try.underlying32 _ rfl _ _ _ rfl _) ?_
          refine nr ?_; intro U h; simp only [z0, z1] at h; subst h
          cases hm : decide ((0 : Int) < (((M.l.drop (q + 1)).length : Nat) : Int))
          · have hm2 := of_decide_eq_false hm
            refine s_val 58 rfl rfl (.bool false) (run_gtrT 3 _ _ _ rfl (((M.l.drop (q + 1)).length : Nat) : Int) 0 rfl rfl false hm _) ?_
            refine nr ?_; intro U h; simp only [z0, z1] at h; subst h
            refine wpList_nil ?_
            refine then_n ?_
            refine wp_cond_false rfl ?_
            refine wp_skip ?_
            refine then_n ?_
            refine wp_seq ?_
            refine wp_region_lit ?_
            refine s_val 67 rfl rfl (.pointer (some ⟨t, 0, none⟩)) (rfl) ?_
            refine nr ?_; intro U h; simp only [z0, z1] at h; subst h
            refine s_val 68 rfl rfl (.agg (suA M.p M.a M.b ao1 M.l.length cap1)) (ldU_0 _ rfl g4 rfl (kg4)) ?_
            refine nr ?_; intro U h; simp only [z0, z1] at h; subst h
            refine s_val 69 rfl rfl (.int .i64 fr) (rfl) ?_
            refine nr ?_; intro U h; simp only [z0, z1] at h; subst h
            refine s_val 70 rfl rfl (.pointer (some ⟨g1, 1, none⟩)) (run_fld 26 _ 1 rfl g1 0 rfl 1 (by kernel_rfl)) ?_
            refine nr ?_; intro U h; simp only [z0, z1] at h; subst h
            refine s_val 71 rfl rfl (.agg (idA i)) (ldS_i _ rfl g1 rfl (kg1)) ?_
            refine nr ?_; intro U h; simp only [z0, z1] at h; subst h
            refine s_callx 72 rfl rfl _ 38 Try.call38 rfl rfl _ rfl [.pointer (some ⟨t, 0, none⟩), .agg (suA M.p M.a M.b ao1 M.l.length cap1), .int .i64 fr, .agg (idA i)] rfl (end_any _ t b room L (kt) (HT) M hM ao1 cap1 HI1.rc fr hfr i hi) (by rintro _ _ ⟨_, _, he, _⟩; exact ⟨_, he⟩) ?_
            rintro v w9 ⟨ao2, n2, he, HO2, HT2, G2⟩
            cases he
            replace HO2 := HO2.mono GG.size
            replace kt := G2.has kt (by simpa using HT.nec kt)
            replace kg1 := G2.has kg1 (by simpa using HT.nec kg1)
            replace kg2 := G2.has kg2 (by simpa using HT.nec kg2)
            replace kg3 := G2.has kg3 (by simpa using HT.nec kg3)
            replace kg4 := G2.has kg4 (by simpa using HT.nec kg4)
            replace HB := HB.mapw HT G2
            replace HI1 := HI1.mapw HT G2
            replace GG := GG.trans G2
            clear HT G2
            have HT := HT2
            clear HT2
            refine nr ?_; intro U h; simp only [z0, z1] at h; subst h
            refine s_store rfl rfl 41 _ _ rfl g3 0 rfl (.agg (edA ao2 n2 (enE room L fr M i).mine (enE room L fr M i).full)) rfl 41 _ kg3 (edA ao2 n2 (enE room L fr M i).mine (enE room L fr M i).full) rfl (siD' _ _ _ _) (Nat.le_refl _) (oneD _ _ _ _) (edA ao2 n2 (enE room L fr M i).mine (enE room L fr M i).full) (splice_whole _ _ (rfl)) ?_
            intro w10 St
            have kS := kg3
            replace kt := St.has (by omega) kt
            replace kg1 := St.has (by omega) kg1
            replace kg2 := St.has (by omega) kg2
            replace kg4 := St.has (by omega) kg4
            replace HT := HT.st St dHTg3
            replace HB := HB.st St dHBg3
            replace HI1 := HI1.st St dHI1g3
            replace HO2 := HO2.st St kS (by decide)
            replace GG := GG.st St (.inl bg3)
            replace kg3 := St.new
            clear St
            refine wpList_nil ?_
            refine then_n ?_
            refine wp_ret ?_
            refine bodyPost_ret (results_cell_row Try.results16 _ _ g3 41 _ (0, 0) _ rfl kg3 Try.underlying41 rfl (siD' _ _ _ _)) rfl ?_
            have hfm := tk_for (of_decide_eq_true hk) (of_decide_eq_true hs) hq hq1 (of_decide_eq_true hf)
            have htk := tk_end (room := room) (L := L) (ID := i) (o := o) hfm hq (by omega)
            rw [htk.1, htk.2]
            exact ⟨_, _, rfl, HO2, HT, GG⟩
          · have hm2 := of_decide_eq_true hm
            refine s_val 58 rfl rfl (.bool true) (run_gtrT 3 _ _ _ rfl (((M.l.drop (q + 1)).length : Nat) : Int) 0 rfl rfl true hm _) ?_
            refine nr ?_; intro U h; simp only [z0, z1] at h; subst h
            refine wpList_nil ?_
            refine then_n ?_
            refine wp_cond_true rfl ?_
            refine wp_seq ?_
            refine wp_region_exA (A := ?Ax1) 7 [(0, 59), (1, 60), (2, 61), (3, 62), (4, 63), (5, 64), (6, 65)] [.val (.pointer (some ⟨t, 0, none⟩)), .val (.agg (suA M.p M.a M.b ao1 M.l.length cap1)), .val (.int .i64 fr), .val (.slice ar (M.l.drop (q + 1)).length cr), .val (.pointer (pA ar 0)), .val (.int .i64 ((M.l.drop (q + 1)).getD 0 0)), .val (.slice ap o.length cq)] follows (by kernel_rfl) rfl ?hAx1 (opsA_cons ?o0x1 (opsA_cons ?o1x1 (opsA_cons ?o2x1 (opsA_cons ?o3x1 (opsA_cons ?o4x1 (opsA_cons ?o5x1 (opsA_cons ?o6x1 opsA_nil))))))) ?restx1
            case hAx1 =>
              intro ptrs
              simp only [full, foldSlots, filledE, postE, List.foldl_cons, List.foldl_nil, List.getD_cons_zero, List.getD_cons_succ, fill_val, List.set_cons_zero, List.set_cons_succ]
              exact rfl
            case o0x1 => exact fun _ _ _ _ => opE_move (v := .pointer (some ⟨t, 0, none⟩)) _ rfl rfl rfl
            case o1x1 => exact fun _ _ hw _ => opE_value (v := .agg (suA M.p M.a M.b ao1 M.l.length cap1)) rfl (ldU_0 _ rfl g4 rfl (hw.has kg4))
            case o2x1 => exact fun _ _ _ _ => opE_move (v := .int .i64 fr) _ rfl rfl rfl
            case o3x1 => exact fun _ _ _ _ => opE_move (v := .slice ar (M.l.drop (q + 1)).length cr) _ rfl rfl rfl
            case o4x1 => exact fun _ _ hw _ => opE_value (v := .pointer (pA ar 0)) rfl (run_ixI (HR.gro ((Gro.refl _).drew.trans hw)) _ _ rfl rfl 0 rfl (by omega))
            case o5x1 => exact fun _ _ hw _ => opE_value (v := .int .i64 ((M.l.drop (q + 1)).getD 0 0)) rfl (run_ldI (HR.gro ((Gro.refl _).drew.trans hw)) _ rfl 0 rfl (by omega))
            case o6x1 => exact fun _ _ _ _ => opE_move (v := .slice ap o.length cq) _ rfl rfl rfl
            intro ptrs w9 GD hxE
            simp only [List.drop_succ_cons, List.drop_zero]
            replace kt := GD.has kt
            replace kg1 := GD.has kg1
            replace kg2 := GD.has kg2
            replace kg3 := GD.has kg3
            replace kg4 := GD.has kg4
            replace HT := HT.gro ((Gro.refl _).drew.trans GD)
            replace HB := HB.gro ((Gro.refl _).drew.trans GD)
            replace HI1 := HI1.gro ((Gro.refl _).drew.trans GD)
            replace HR := HR.gro ((Gro.refl _).drew.trans GD)
            replace GG := GG.drew.tg GD
            clear GD
            refine s_callx 66 rfl rfl _ 37 Try.call37 rfl rfl _ rfl [.pointer (some ⟨t, 0, none⟩), .agg (suA M.p M.a M.b ao1 M.l.length cap1), .int .i64 fr, .int .i64 ((M.l.drop (q + 1)).getD 0 0), .slice ap o.length cq] rfl (pass_any _ t b room L (kt) (HT) M hM ao1 cap1 HI1.rc hl fr ((M.l.drop (q + 1)).getD 0 0) hfr (HR.at (by omega)) ap cq o HB) (by rintro _ _ ⟨_, _, he, _⟩; exact ⟨_, he⟩) ?_
            rintro v w10 ⟨ao2, n2, he, HO2, HT2, G2⟩
            cases he
            replace HO2 := HO2.mono GG.size
            replace kt := G2.has kt (by simpa using HT.nec kt)
            replace kg1 := G2.has kg1 (by simpa using HT.nec kg1)
            replace kg2 := G2.has kg2 (by simpa using HT.nec kg2)
            replace kg3 := G2.has kg3 (by simpa using HT.nec kg3)
            replace kg4 := G2.has kg4 (by simpa using HT.nec kg4)
            replace HB := HB.mapw HT G2
            replace HI1 := HI1.mapw HT G2
            replace GG := GG.trans G2
            clear HT G2
            have HT := HT2
            clear HT2
            refine nr ?_; intro U h; simp only [z0, z1] at h; subst h
            refine s_store rfl rfl 41 _ _ rfl g3 0 rfl (.agg (edA ao2 n2 (psE room L fr M ((M.l.drop (q + 1)).getD 0 0) o).mine (psE room L fr M ((M.l.drop (q + 1)).getD 0 0) o).full)) rfl 41 _ kg3 (edA ao2 n2 (psE room L fr M ((M.l.drop (q + 1)).getD 0 0) o).mine (psE room L fr M ((M.l.drop (q + 1)).getD 0 0) o).full) rfl (siD' _ _ _ _) (Nat.le_refl _) (oneD _ _ _ _) (edA ao2 n2 (psE room L fr M ((M.l.drop (q + 1)).getD 0 0) o).mine (psE room L fr M ((M.l.drop (q + 1)).getD 0 0) o).full) (splice_whole _ _ (rfl)) ?_
            intro w11 St
            have kS := kg3
            replace kt := St.has (by omega) kt
            replace kg1 := St.has (by omega) kg1
            replace kg2 := St.has (by omega) kg2
            replace kg4 := St.has (by omega) kg4
            replace HT := HT.st St dHTg3
            replace HB := HB.st St dHBg3
            replace HI1 := HI1.st St dHI1g3
            replace HO2 := HO2.st St kS (by decide)
            replace GG := GG.st St (.inl bg3)
            replace kg3 := St.new
            clear St
            refine wpList_nil ?_
            refine then_n ?_
            refine wp_ret ?_
            refine then_r ?_
            refine bodyPost_ret (results_cell_row Try.results16 _ _ g3 41 _ (0, 0) _ rfl kg3 Try.underlying41 rfl (siD' _ _ _ _)) rfl ?_
            have hfm := tk_for (of_decide_eq_true hk) (of_decide_eq_true hs) hq hq1 (of_decide_eq_true hf)
            have htk := tk_mid (room := room) (L := L) (ID := i) (o := o) hfm hq (by omega)
            rw [htk.1, htk.2]
            exact ⟨_, _, rfl, HO2, HT, GG⟩
end Go.Proofs.Ytkjnefgenffhcaa
