/- Which of two choices is ahead: the program's and the document's; identities turned. -/
import Derived.Test.YtipfllalfifheaaR2
import Derived.Test.YtipfllalfifheaaP13
import Derived.Test.YtipfllalfifheaaW6
import Derived.Test.YtipfllalfifheaaLaw2
namespace Go.Proofs.Ytipfllalfifheaa
open Classical
open Go.RowKit Go.Maps

def mkC (i : Nat) (b : Bool) (p : Pa) (n : Int) : Ch := ⟨i, b, p, n⟩
def mkN (n : Int) (i : Nat) : Nr := ⟨n, i⟩
theorem mkC_ok {i : Nat} {b : Bool} {p : Pa} {n : Int} (hi : i < top) (hp : p.ok) (hn : I64 n) : (mkC i b p n).ok := ⟨hi, hp, hn⟩
theorem mkN_ok {i : Nat} {n : Int} (hn : I64 n) (hi : i < top) : (mkN n i).ok := ⟨hn, hi⟩
theorem atC {l : List Ch} (h : AllC l) {j : Nat} (hj : j < l.length) : (l.getD j zC).ok := by
  have : l.getD j zC = l[j] := by simp [List.getD_eq_getElem?_getD, hj]
  rw [this]
  exact h _ (List.getElem_mem hj)
theorem atN {l : List Nr} (h : AllN l) {j : Nat} (hj : j < l.length) : (l.getD j zN).ok := by
  have : l.getD j zN = l[j] := by simp [List.getD_eq_getElem?_getD, hj]
  rw [this]
  exact h _ (List.getElem_mem hj)
theorem plA_sz {s s2 : Nat} {an an2 : Option Addr} {n n2 cn cn2 : Nat} {ae ae2 : Option Addr} {m m2 ce ce2 : Nat} : (plA s an n cn ae m ce).size = (plA s2 an2 n2 cn2 ae2 m2 ce2).size := plA_size.trans plA_size.symm
theorem plA_fit {s s2 : Nat} {an an2 : Option Addr} {n n2 cn cn2 : Nat} {ae ae2 : Option Addr} {m m2 ce ce2 : Nat} : 0 + (plA s an n cn ae m ce).size ≤ (plA s2 an2 n2 cn2 ae2 m2 ce2).size := by rw [plA_size, plA_size]; exact Nat.le_refl _
theorem bdC03 (s : Nat) (n : Int) (w : World) : (Instr.build 40 #[(0, .agg (idA s)), (3, .int .i64 n)]).run Try.prog w = .ok (.agg (chA (mkC s false zP n))) w := by kernel_rfl
theorem bdC013 (s : Nat) (b : Bool) (n : Int) (w : World) : (Instr.build 40 #[(0, .agg (idA s)), (1, .bool b), (3, .int .i64 n)]).run Try.prog w = .ok (.agg (chA (mkC s b zP n))) w := by kernel_rfl
theorem bdC023 (s : Nat) (p : Pa) (n : Int) (w : World) : (Instr.build 40 #[(0, .agg (idA s)), (2, .agg (paA p)), (3, .int .i64 n)]).run Try.prog w = .ok (.agg (chA (mkC s false p n))) w := by kernel_rfl
theorem bdC0123 (s : Nat) (b : Bool) (p : Pa) (n : Int) (w : World) : (Instr.build 40 #[(0, .agg (idA s)), (1, .bool b), (2, .agg (paA p)), (3, .int .i64 n)]).run Try.prog w = .ok (.agg (chA (mkC s b p n))) w := by kernel_rfl
theorem bdD03 (s : Nat) (n : Int) (w : World) : (Instr.build 42 #[(0, .agg (idA s)), (3, .int .i64 n)]).run Try.prog w = .ok (.agg (chA (mkC s false zP n))) w := by kernel_rfl
theorem bdD013 (s : Nat) (b : Bool) (n : Int) (w : World) : (Instr.build 42 #[(0, .agg (idA s)), (1, .bool b), (3, .int .i64 n)]).run Try.prog w = .ok (.agg (chA (mkC s b zP n))) w := by kernel_rfl
theorem bdD023 (s : Nat) (p : Pa) (n : Int) (w : World) : (Instr.build 42 #[(0, .agg (idA s)), (2, .agg (paA p)), (3, .int .i64 n)]).run Try.prog w = .ok (.agg (chA (mkC s false p n))) w := by kernel_rfl
theorem bdD0123 (s : Nat) (b : Bool) (p : Pa) (n : Int) (w : World) : (Instr.build 42 #[(0, .agg (idA s)), (1, .bool b), (2, .agg (paA p)), (3, .int .i64 n)]).run Try.prog w = .ok (.agg (chA (mkC s b p n))) w := by kernel_rfl
theorem bdN (n : Int) (s : Nat) (w : World) : (Instr.build 55 #[(0, .int .i64 n), (1, .agg (idA s))]).run Try.prog w = .ok (.agg (nrA (mkN n s))) w := by kernel_rfl
theorem bdP (s : Nat) (w : World) : (Instr.build 27 #[(0, .agg (idA s))]).run Try.prog w = .ok (.agg (plA s none 0 0 none 0 0)) w := by kernel_rfl
theorem zeroP (w : World) : (zeroValue 27).run Try.prog w = .ok (.agg (plA 0 none 0 0 none 0 0)) w := by rw [Try.zeroValue27]; kernel_rfl
/-- The document's. -/
def befD (d : Nat) (a b : Ch) : Bool :=
  if a.id = b.id then
    (if (decide (a.n = -1) || decide (b.n = -1)) = true then (decide (a.n = -1) && !decide (b.n = -1))
    else if (a.near || b.near) = true then (a.near && (!b.near || decide (a.n < b.n)))
    else if eqP a.p b.p = true then decide (a.n < b.n) else decide (ky a.p < ky b.p))
  else nearN d a.id b.id
theorem bef_d (d : Nat) (a b : Ch) : bef d a b = (if a.id = b.id then (if (decide (a.n = -1) || decide (b.n = -1)) = true then !decide (b.n = -1) else if a.near = b.near then (if (a.near || decide (a.p = b.p)) = true then decide (a.n < b.n) else decide (ky a.p < ky b.p)) else a.near) else nearN d a.id b.id) := by unfold bef; rw [eqP_eq]
theorem befD_d (d : Nat) (a b : Ch) : befD d a b = (if a.id = b.id then (if (decide (a.n = -1) || decide (b.n = -1)) = true then (decide (a.n = -1) && !decide (b.n = -1)) else if (a.near || b.near) = true then (a.near && (!b.near || decide (a.n < b.n))) else if a.p = b.p then decide (a.n < b.n) else decide (ky a.p < ky b.p)) else nearN d a.id b.id) := by
  unfold befD
  by_cases h : a.p = b.p <;> simp [h]
theorem bef_eq (d : Nat) (a b : Ch) : bef d a b = befD d a b := by
  unfold bef befD
  cases h2 : decide (a.n = -1) <;> cases h3 : decide (b.n = -1) <;> cases h4 : a.near <;> cases h5 : b.near <;> simp
theorem ch_eq (a b : Ch) : decide (a = b) = (decide (a.id = b.id) && (decide (a.near = b.near) && (decide (a.p = b.p) && decide (a.n = b.n)))) := by
  obtain ⟨q1, q2, q3, q4⟩ := a
  obtain ⟨r1, r2, r3, r4⟩ := b
  simp
set_option maxRecDepth 100000 in
set_option maxHeartbeats 4000000 in
theorem before_any (d : Nat) (a b : Ch) (hd : d < top) (ha : a.ok) (hb : b.ok) (w : World) : Calls Try.prog 16 #[.agg (idA d), .agg (chA a), .agg (chA b)] w (fun e w' => e = .returned (.bool (bef d a b)) ∧ Gro w w') := by
  refine s_enter Try.func16 rfl Try.ntmps16 [.agg (idA d), .agg (chA a), .agg (chA b)] [.agg (idA d), .agg (chA a), .agg (chA b), undef, undef, undef, undef, undef, undef, undef, undef, undef, undef, undef, undef, undef, undef, undef, undef, undef, undef, undef, undef, undef, undef, undef, undef, undef, undef, undef, undef, undef, undef, undef, undef, undef, undef, undef, undef, undef, undef, undef, undef, undef, undef, undef, undef, undef, undef, undef, undef, undef, undef, undef, undef, undef, undef, undef, undef] rfl ?_
  have GG := Gro.refl w
  refine wp_seq ?_
  refine wp_region_lit ?_
  refine s_box 3 rfl rfl 23 _ rfl _ rfl (idA d) rfl ?_
  intro w1 g1 G eg1 kg1
  have bg1 := size_base GG eg1
  replace GG := GG.trans G
  clear G
  clear eg1
  refine nr ?_; intro U h; simp only [z0, z1] at h; subst h
  refine s_box 4 rfl rfl 40 _ rfl _ rfl (chA a) rfl ?_
  intro w2 g2 G eg2 kg2
  have bg2 := size_base GG eg2
  have dg1g2 := lt_new kg1 eg2
  replace kg1 := G.has kg1
  replace GG := GG.trans G
  clear G
  clear eg2
  refine nr ?_; intro U h; simp only [z0, z1] at h; subst h
  refine s_box 5 rfl rfl 40 _ rfl _ rfl (chA b) rfl ?_
  intro w3 g3 G eg3 kg3
  have bg3 := size_base GG eg3
  have dg1g3 := lt_new kg1 eg3
  have dg2g3 := lt_new kg2 eg3
  replace kg1 := G.has kg1
  replace kg2 := G.has kg2
  replace GG := GG.trans G
  clear G
  clear eg3
  refine nr ?_; intro U h; simp only [z0, z1] at h; subst h
  refine s_val 6 rfl rfl (.bool false) (rfl) ?_
  refine nr ?_; intro U h; simp only [z0, z1] at h; subst h
  refine wpList_nil ?_
  refine then_n ?_
  refine wp_seq ?_
  refine wp_block ?_
  refine wp_seq ?_
  cases h1 : decide (a.id = b.id)
  · refine wp_region_lit ?_
    refine s_val 8 rfl rfl (.pointer (some ⟨g2, 0, none⟩)) (run_fld 40 _ 0 rfl g2 0 rfl 0 (by kernel_rfl)) ?_
    refine nr ?_; intro U h; simp only [z0, z1] at h; subst h
    refine s_val 9 rfl rfl (.agg (idA a.id)) (ldCi _ rfl g2 rfl (kg2)) ?_
    refine nr ?_; intro U h; simp only [z0, z1] at h; subst h
    refine s_val 10 rfl rfl (.pointer (some ⟨g3, 0, none⟩)) (run_fld 40 _ 0 rfl g3 0 rfl 0 (by kernel_rfl)) ?_
    refine nr ?_; intro U h; simp only [z0, z1] at h; subst h
    refine s_val 11 rfl rfl (.agg (idA b.id)) (ldCi _ rfl g3 rfl (kg3)) ?_
    refine nr ?_; intro U h; simp only [z0, z1] at h; subst h
    refine s_val 12 rfl rfl (.bool true) (run_neI _ _ _ rfl _ _ rfl rfl ha.id hb.id true h1) ?_
    refine nr ?_; intro U h; simp only [z0, z1] at h; subst h
    refine s_val 7 rfl rfl (.bool true) (rfl) ?_
    refine nr ?_; intro U h; simp only [z0, z1] at h; subst h
    refine wpList_nil ?_
    refine then_n ?_
    refine wp_cond_true rfl ?_
    refine wp_seq ?_
    refine wp_region_lit ?_
    refine s_val 13 rfl rfl (.agg (idA d)) (ldI0 _ rfl g1 rfl (kg1)) ?_
    refine nr ?_; intro U h; simp only [z0, z1] at h; subst h
    refine s_val 14 rfl rfl (.pointer (some ⟨g2, 0, none⟩)) (run_fld 40 _ 0 rfl g2 0 rfl 0 (by kernel_rfl)) ?_
    refine nr ?_; intro U h; simp only [z0, z1] at h; subst h
    refine s_val 15 rfl rfl (.agg (idA a.id)) (ldCi _ rfl g2 rfl (kg2)) ?_
    refine nr ?_; intro U h; simp only [z0, z1] at h; subst h
    refine s_val 16 rfl rfl (.pointer (some ⟨g3, 0, none⟩)) (run_fld 40 _ 0 rfl g3 0 rfl 0 (by kernel_rfl)) ?_
    refine nr ?_; intro U h; simp only [z0, z1] at h; subst h
    refine s_val 17 rfl rfl (.agg (idA b.id)) (ldCi _ rfl g3 rfl (kg3)) ?_
    refine nr ?_; intro U h; simp only [z0, z1] at h; subst h
    refine s_callv 18 rfl rfl _ 29 Try.call29 rfl rfl _ rfl [.agg (idA d), .agg (idA a.id), .agg (idA b.id)] rfl (nearer_any d a.id b.id hd ha.id hb.id _) ?_
    intro w4 G
    replace kg1 := G.has kg1
    replace kg2 := G.has kg2
    replace kg3 := G.has kg3
    replace GG := GG.trans G
    clear G
    refine nr ?_; intro U h; simp only [z0, z1] at h; subst h
    refine s_val 6 rfl rfl (.bool (nearN d a.id b.id)) (rfl) ?_
    refine nr ?_; intro U h; simp only [z0, z1] at h; subst h
    refine wpList_nil ?_
    refine then_n ?_
    refine wp_ret ?_
    refine blk_r ?_
    refine then_r ?_
    refine bodyPost_ret (results_tmp Try.results16 _ _ _) rfl ?_
    refine ⟨congrArg (fun b => Ending.returned (.bool b)) ?_, GG⟩
    symm
    rw [bef_d]
    rw [if_neg (of_decide_eq_false h1)]
  · refine wp_region_lit ?_
    refine s_val 8 rfl rfl (.pointer (some ⟨g2, 0, none⟩)) (run_fld 40 _ 0 rfl g2 0 rfl 0 (by kernel_rfl)) ?_
    refine nr ?_; intro U h; simp only [z0, z1] at h; subst h
    refine s_val 9 rfl rfl (.agg (idA a.id)) (ldCi _ rfl g2 rfl (kg2)) ?_
    refine nr ?_; intro U h; simp only [z0, z1] at h; subst h
    refine s_val 10 rfl rfl (.pointer (some ⟨g3, 0, none⟩)) (run_fld 40 _ 0 rfl g3 0 rfl 0 (by kernel_rfl)) ?_
    refine nr ?_; intro U h; simp only [z0, z1] at h; subst h
    refine s_val 11 rfl rfl (.agg (idA b.id)) (ldCi _ rfl g3 rfl (kg3)) ?_
    refine nr ?_; intro U h; simp only [z0, z1] at h; subst h
    refine s_val 12 rfl rfl (.bool false) (run_neI _ _ _ rfl _ _ rfl rfl ha.id hb.id false h1) ?_
    refine nr ?_; intro U h; simp only [z0, z1] at h; subst h
    refine s_val 7 rfl rfl (.bool false) (rfl) ?_
    refine nr ?_; intro U h; simp only [z0, z1] at h; subst h
    refine wpList_nil ?_
    refine then_n ?_
    refine wp_cond_false rfl ?_
    refine wp_seq ?_
    cases h2 : decide (a.n = -1)
    · cases h3 : decide (b.n = -1)
      · refine wp_region_opq ?_
        intro OPS hY
        have y3 := hY 3 23 rfl
        clear hY
        refine s_val 20 rfl rfl (.pointer (some ⟨g2, 34, none⟩)) (run_fld 40 _ 3 rfl g2 0 rfl 34 (by kernel_rfl)) ?_
        refine nr ?_; intro U h; simp only [z0, z1] at h; subst h
        refine s_val 21 rfl rfl (.int .i64 a.n) (ldCn _ rfl g2 rfl (kg2)) ?_
        refine nr ?_; intro U h; simp only [z0, z1] at h; subst h
        refine s_val 22 rfl rfl (.bool false) (run_eq_k 3 .i64 _ _ _ rfl Try.underlying3 a.n (-1) rfl rfl false h2 _) ?_
        refine nr ?_; intro U h; simp only [z0, z1] at h; subst h
        refine s_val 23 rfl rfl (.bool false) (rfl) ?_
        refine nr ?_; intro U h; simp only [z0, z1] at h; subst h
        refine s_gvalY 24 rfl rfl y3 rfl (.pointer (some ⟨g3, 34, none⟩)) (run_fld 40 _ 3 rfl g3 0 rfl 34 (by kernel_rfl)) ?_
        refine nr ?_; intro U h; simp only [z0, z1] at h; subst h
        refine s_gvalY 25 rfl rfl y3 rfl (.int .i64 b.n) (ldCn _ rfl g3 rfl (kg3)) ?_
        refine nr ?_; intro U h; simp only [z0, z1] at h; subst h
        refine s_gvalY 26 rfl rfl y3 rfl (.bool false) (run_eq_k 3 .i64 _ _ _ rfl Try.underlying3 b.n (-1) rfl rfl false h3 _) ?_
        refine nr ?_; intro U h; simp only [z0, z1] at h; subst h
        refine s_val 27 rfl rfl (.bool false) (rfl) ?_
        refine nr ?_; intro U h; simp only [z0, z1] at h; subst h
        refine s_val 19 rfl rfl (.bool false) (rfl) ?_
        refine nr ?_; intro U h; simp only [z0, z1] at h; subst h
        refine wpList_nil ?_
        refine then_n ?_
        refine wp_cond_false rfl ?_
        refine wp_seq ?_
        cases hna : decide (a.near = true)
        · cases hnb : decide (b.near = true)
          · refine wp_region_lit ?_
            refine s_val 32 rfl rfl (.pointer (some ⟨g2, 16, none⟩)) (run_fld 40 _ 1 rfl g2 0 rfl 16 (by kernel_rfl)) ?_
            refine nr ?_; intro U h; simp only [z0, z1] at h; subst h
            refine s_val 33 rfl rfl (.bool false) (ldCb _ rfl g2 rfl (kg2) false (Bool.eq_false_iff.2 (of_decide_eq_false hna))) ?_
            refine nr ?_; intro U h; simp only [z0, z1] at h; subst h
            refine s_val 34 rfl rfl (.pointer (some ⟨g3, 16, none⟩)) (run_fld 40 _ 1 rfl g3 0 rfl 16 (by kernel_rfl)) ?_
            refine nr ?_; intro U h; simp only [z0, z1] at h; subst h
            refine s_val 35 rfl rfl (.bool false) (ldCb _ rfl g3 rfl (kg3) false (Bool.eq_false_iff.2 (of_decide_eq_false hnb))) ?_
            refine nr ?_; intro U h; simp only [z0, z1] at h; subst h
            refine s_val 36 rfl rfl (.bool false) (run_neB 4 _ _ _ rfl false false rfl rfl Try.underlying4 false (decide_eq_true rfl) _) ?_
            refine nr ?_; intro U h; simp only [z0, z1] at h; subst h
            refine s_val 31 rfl rfl (.bool false) (rfl) ?_
            refine nr ?_; intro U h; simp only [z0, z1] at h; subst h
            refine wpList_nil ?_
            refine then_n ?_
            refine wp_cond_false rfl ?_
            refine wp_seq ?_
            cases hp : decide (a.p = b.p)
            · refine wp_region_opq ?_
              intro OPS hY
              have y2 := hY 2 42 rfl
              clear hY
              refine s_val 40 rfl rfl (.pointer (some ⟨g2, 16, none⟩)) (run_fld 40 _ 1 rfl g2 0 rfl 16 (by kernel_rfl)) ?_
              refine nr ?_; intro U h; simp only [z0, z1] at h; subst h
              refine s_val 41 rfl rfl (.bool false) (ldCb _ rfl g2 rfl (kg2) false (Bool.eq_false_iff.2 (of_decide_eq_false hna))) ?_
              refine nr ?_; intro U h; simp only [z0, z1] at h; subst h
              refine s_val 42 rfl rfl (.bool false) (rfl) ?_
              refine nr ?_; intro U h; simp only [z0, z1] at h; subst h
              refine s_gvalY 43 rfl rfl y2 rfl (.pointer (some ⟨g2, 17, none⟩)) (run_fld 40 _ 2 rfl g2 0 rfl 17 (by kernel_rfl)) ?_
              refine nr ?_; intro U h; simp only [z0, z1] at h; subst h
              refine s_gvalY 44 rfl rfl y2 rfl (.agg (paA a.p)) (ldCp _ rfl g2 rfl (kg2)) ?_
              refine nr ?_; intro U h; simp only [z0, z1] at h; subst h
              refine s_gvalY 45 rfl rfl y2 rfl (.pointer (some ⟨g3, 17, none⟩)) (run_fld 40 _ 2 rfl g3 0 rfl 17 (by kernel_rfl)) ?_
              refine nr ?_; intro U h; simp only [z0, z1] at h; subst h
              refine s_gvalY 46 rfl rfl y2 rfl (.agg (paA b.p)) (ldCp _ rfl g3 rfl (kg3)) ?_
              refine nr ?_; intro U h; simp only [z0, z1] at h; subst h
              refine s_gvalY 47 rfl rfl y2 rfl (.bool false) (run_eqP _ _ _ rfl _ _ rfl rfl ha.p hb.p false hp) ?_
              refine nr ?_; intro U h; simp only [z0, z1] at h; subst h
              refine s_val 48 rfl rfl (.bool false) (rfl) ?_
              refine nr ?_; intro U h; simp only [z0, z1] at h; subst h
              refine s_val 39 rfl rfl (.bool false) (rfl) ?_
              refine nr ?_; intro U h; simp only [z0, z1] at h; subst h
              refine wpList_nil ?_
              refine then_n ?_
              refine wp_cond_false rfl ?_
              refine wp_skip ?_
              refine blk_n ?_
              refine then_n ?_
              refine wp_seq ?_
              refine wp_region_lit ?_
              refine s_val 54 rfl rfl (.pointer (some ⟨g2, 17, none⟩)) (run_fld 40 _ 2 rfl g2 0 rfl 17 (by kernel_rfl)) ?_
              refine nr ?_; intro U h; simp only [z0, z1] at h; subst h
              refine s_val 55 rfl rfl (.agg (paA a.p)) (ldCp _ rfl g2 rfl (kg2)) ?_
              refine nr ?_; intro U h; simp only [z0, z1] at h; subst h
              refine s_val 56 rfl rfl (.pointer (some ⟨g3, 17, none⟩)) (run_fld 40 _ 2 rfl g3 0 rfl 17 (by kernel_rfl)) ?_
              refine nr ?_; intro U h; simp only [z0, z1] at h; subst h
              refine s_val 57 rfl rfl (.agg (paA b.p)) (ldCp _ rfl g3 rfl (kg3)) ?_
              refine nr ?_; intro U h; simp only [z0, z1] at h; subst h
              refine s_callv 58 rfl rfl _ 30 Try.call30 rfl rfl _ rfl [.agg (paA a.p), .agg (paA b.p)] rfl (less_t a.p b.p ha.p hb.p _) ?_
              intro w4 G
              replace kg1 := G.has kg1
              replace kg2 := G.has kg2
              replace kg3 := G.has kg3
              replace GG := GG.trans G
              clear G
              refine nr ?_; intro U h; simp only [z0, z1] at h; subst h
              refine s_val 6 rfl rfl (.bool (lessB a.p b.p)) (rfl) ?_
              refine nr ?_; intro U h; simp only [z0, z1] at h; subst h
              refine wpList_nil ?_
              refine then_n ?_
              refine wp_ret ?_
              refine bodyPost_ret (results_tmp Try.results16 _ _ _) rfl ?_
              refine ⟨congrArg (fun b => Ending.returned (.bool b)) ?_, GG⟩
              symm
              rw [bef_d]
              rw [if_pos (of_decide_eq_true h1)]
              rw [h2, h3]
              rw [if_neg (by decide)]
              rw [(Bool.eq_false_iff.2 (of_decide_eq_false hna)), (Bool.eq_false_iff.2 (of_decide_eq_false hnb))]
              rw [if_pos rfl]
              rw [hp]
              rw [if_neg (by decide)]
              rfl
            · refine wp_region_opq ?_
              intro OPS hY
              have y2 := hY 2 42 rfl
              clear hY
              refine s_val 40 rfl rfl (.pointer (some ⟨g2, 16, none⟩)) (run_fld 40 _ 1 rfl g2 0 rfl 16 (by kernel_rfl)) ?_
              refine nr ?_; intro U h; simp only [z0, z1] at h; subst h
              refine s_val 41 rfl rfl (.bool false) (ldCb _ rfl g2 rfl (kg2) false (Bool.eq_false_iff.2 (of_decide_eq_false hna))) ?_
              refine nr ?_; intro U h; simp only [z0, z1] at h; subst h
              refine s_val 42 rfl rfl (.bool false) (rfl) ?_
              refine nr ?_; intro U h; simp only [z0, z1] at h; subst h
              refine s_gvalY 43 rfl rfl y2 rfl (.pointer (some ⟨g2, 17, none⟩)) (run_fld 40 _ 2 rfl g2 0 rfl 17 (by kernel_rfl)) ?_
              refine nr ?_; intro U h; simp only [z0, z1] at h; subst h
              refine s_gvalY 44 rfl rfl y2 rfl (.agg (paA a.p)) (ldCp _ rfl g2 rfl (kg2)) ?_
              refine nr ?_; intro U h; simp only [z0, z1] at h; subst h
              refine s_gvalY 45 rfl rfl y2 rfl (.pointer (some ⟨g3, 17, none⟩)) (run_fld 40 _ 2 rfl g3 0 rfl 17 (by kernel_rfl)) ?_
              refine nr ?_; intro U h; simp only [z0, z1] at h; subst h
              refine s_gvalY 46 rfl rfl y2 rfl (.agg (paA b.p)) (ldCp _ rfl g3 rfl (kg3)) ?_
              refine nr ?_; intro U h; simp only [z0, z1] at h; subst h
              refine s_gvalY 47 rfl rfl y2 rfl (.bool true) (run_eqP _ _ _ rfl _ _ rfl rfl ha.p hb.p true hp) ?_
              refine nr ?_; intro U h; simp only [z0, z1] at h; subst h
              refine s_val 48 rfl rfl (.bool true) (rfl) ?_
              refine nr ?_; intro U h; simp only [z0, z1] at h; subst h
              refine s_val 39 rfl rfl (.bool true) (rfl) ?_
              refine nr ?_; intro U h; simp only [z0, z1] at h; subst h
              refine wpList_nil ?_
              refine then_n ?_
              refine wp_cond_true rfl ?_
              refine wp_seq ?_
              refine wp_region_lit ?_
              refine s_val 49 rfl rfl (.pointer (some ⟨g2, 34, none⟩)) (run_fld 40 _ 3 rfl g2 0 rfl 34 (by kernel_rfl)) ?_
              refine nr ?_; intro U h; simp only [z0, z1] at h; subst h
              refine s_val 50 rfl rfl (.int .i64 a.n) (ldCn _ rfl g2 rfl (kg2)) ?_
              refine nr ?_; intro U h; simp only [z0, z1] at h; subst h
              refine s_val 51 rfl rfl (.pointer (some ⟨g3, 34, none⟩)) (run_fld 40 _ 3 rfl g3 0 rfl 34 (by kernel_rfl)) ?_
              refine nr ?_; intro U h; simp only [z0, z1] at h; subst h
              refine s_val 52 rfl rfl (.int .i64 b.n) (ldCn _ rfl g3 rfl (kg3)) ?_
              refine nr ?_; intro U h; simp only [z0, z1] at h; subst h
              refine s_val 53 rfl rfl (.bool (decide (a.n < b.n))) (run_lssT 3 _ _ _ rfl a.n b.n rfl rfl _ rfl _) ?_
              refine nr ?_; intro U h; simp only [z0, z1] at h; subst h
              refine s_val 6 rfl rfl (.bool (decide (a.n < b.n))) (rfl) ?_
              refine nr ?_; intro U h; simp only [z0, z1] at h; subst h
              refine wpList_nil ?_
              refine then_n ?_
              refine wp_ret ?_
              refine blk_r ?_
              refine then_r ?_
              refine bodyPost_ret (results_tmp Try.results16 _ _ _) rfl ?_
              refine ⟨congrArg (fun b => Ending.returned (.bool b)) ?_, GG⟩
              symm
              rw [bef_d]
              rw [if_pos (of_decide_eq_true h1)]
              rw [h2, h3]
              rw [if_neg (by decide)]
              rw [(Bool.eq_false_iff.2 (of_decide_eq_false hna)), (Bool.eq_false_iff.2 (of_decide_eq_false hnb))]
              rw [if_pos rfl]
              rw [hp]
              exact if_pos rfl
          · refine wp_region_lit ?_
            refine s_val 32 rfl rfl (.pointer (some ⟨g2, 16, none⟩)) (run_fld 40 _ 1 rfl g2 0 rfl 16 (by kernel_rfl)) ?_
            refine nr ?_; intro U h; simp only [z0, z1] at h; subst h
            refine s_val 33 rfl rfl (.bool false) (ldCb _ rfl g2 rfl (kg2) false (Bool.eq_false_iff.2 (of_decide_eq_false hna))) ?_
            refine nr ?_; intro U h; simp only [z0, z1] at h; subst h
            refine s_val 34 rfl rfl (.pointer (some ⟨g3, 16, none⟩)) (run_fld 40 _ 1 rfl g3 0 rfl 16 (by kernel_rfl)) ?_
            refine nr ?_; intro U h; simp only [z0, z1] at h; subst h
            refine s_val 35 rfl rfl (.bool true) (ldCb _ rfl g3 rfl (kg3) true (of_decide_eq_true hnb)) ?_
            refine nr ?_; intro U h; simp only [z0, z1] at h; subst h
            refine s_val 36 rfl rfl (.bool true) (run_neB 4 _ _ _ rfl false true rfl rfl Try.underlying4 true (by decide) _) ?_
            refine nr ?_; intro U h; simp only [z0, z1] at h; subst h
            refine s_val 31 rfl rfl (.bool true) (rfl) ?_
            refine nr ?_; intro U h; simp only [z0, z1] at h; subst h
            refine wpList_nil ?_
            refine then_n ?_
            refine wp_cond_true rfl ?_
            refine wp_seq ?_
            refine wp_region_lit ?_
            refine s_val 37 rfl rfl (.pointer (some ⟨g2, 16, none⟩)) (run_fld 40 _ 1 rfl g2 0 rfl 16 (by kernel_rfl)) ?_
            refine nr ?_; intro U h; simp only [z0, z1] at h; subst h
            refine s_val 38 rfl rfl (.bool false) (ldCb _ rfl g2 rfl (kg2) false (Bool.eq_false_iff.2 (of_decide_eq_false hna))) ?_
            refine nr ?_; intro U h; simp only [z0, z1] at h; subst h
            refine s_val 6 rfl rfl (.bool false) (rfl) ?_
            refine nr ?_; intro U h; simp only [z0, z1] at h; subst h
            refine wpList_nil ?_
            refine then_n ?_
            refine wp_ret ?_
            refine blk_r ?_
            refine then_r ?_
            refine bodyPost_ret (results_tmp Try.results16 _ _ _) rfl ?_
            refine ⟨congrArg (fun b => Ending.returned (.bool b)) ?_, GG⟩
            symm
            rw [bef_d]
            rw [if_pos (of_decide_eq_true h1)]
            rw [h2, h3]
            rw [if_neg (by decide)]
            rw [(Bool.eq_false_iff.2 (of_decide_eq_false hna)), (of_decide_eq_true hnb)]
            rw [if_neg (by decide)]
        · cases hnb : decide (b.near = true)
          · refine wp_region_lit ?_
            refine s_val 32 rfl rfl (.pointer (some ⟨g2, 16, none⟩)) (run_fld 40 _ 1 rfl g2 0 rfl 16 (by kernel_rfl)) ?_
            refine nr ?_; intro U h; simp only [z0, z1] at h; subst h
            refine s_val 33 rfl rfl (.bool true) (ldCb _ rfl g2 rfl (kg2) true (of_decide_eq_true hna)) ?_
            refine nr ?_; intro U h; simp only [z0, z1] at h; subst h
            refine s_val 34 rfl rfl (.pointer (some ⟨g3, 16, none⟩)) (run_fld 40 _ 1 rfl g3 0 rfl 16 (by kernel_rfl)) ?_
            refine nr ?_; intro U h; simp only [z0, z1] at h; subst h
            refine s_val 35 rfl rfl (.bool false) (ldCb _ rfl g3 rfl (kg3) false (Bool.eq_false_iff.2 (of_decide_eq_false hnb))) ?_
            refine nr ?_; intro U h; simp only [z0, z1] at h; subst h
            refine s_val 36 rfl rfl (.bool true) (run_neB 4 _ _ _ rfl true false rfl rfl Try.underlying4 true (by decide) _) ?_
            refine nr ?_; intro U h; simp only [z0, z1] at h; subst h
            refine s_val 31 rfl rfl (.bool true) (rfl) ?_
            refine nr ?_; intro U h; simp only [z0, z1] at h; subst h
            refine wpList_nil ?_
            refine then_n ?_
            refine wp_cond_true rfl ?_
            refine wp_seq ?_
            refine wp_region_lit ?_
            refine s_val 37 rfl rfl (.pointer (some ⟨g2, 16, none⟩)) (run_fld 40 _ 1 rfl g2 0 rfl 16 (by kernel_rfl)) ?_
            refine nr ?_; intro U h; simp only [z0, z1] at h; subst h
            refine s_val 38 rfl rfl (.bool true) (ldCb _ rfl g2 rfl (kg2) true (of_decide_eq_true hna)) ?_
            refine nr ?_; intro U h; simp only [z0, z1] at h; subst h
            refine s_val 6 rfl rfl (.bool true) (rfl) ?_
            refine nr ?_; intro U h; simp only [z0, z1] at h; subst h
            refine wpList_nil ?_
            refine then_n ?_
            refine wp_ret ?_
            refine blk_r ?_
            refine then_r ?_
            refine bodyPost_ret (results_tmp Try.results16 _ _ _) rfl ?_
            refine ⟨congrArg (fun b => Ending.returned (.bool b)) ?_, GG⟩
            symm
            rw [bef_d]
            rw [if_pos (of_decide_eq_true h1)]
            rw [h2, h3]
            rw [if_neg (by decide)]
            rw [(of_decide_eq_true hna), (Bool.eq_false_iff.2 (of_decide_eq_false hnb))]
            rw [if_neg (by decide)]
          · refine wp_region_lit ?_
            refine s_val 32 rfl rfl (.pointer (some ⟨g2, 16, none⟩)) (run_fld 40 _ 1 rfl g2 0 rfl 16 (by kernel_rfl)) ?_
            refine nr ?_; intro U h; simp only [z0, z1] at h; subst h
            refine s_val 33 rfl rfl (.bool true) (ldCb _ rfl g2 rfl (kg2) true (of_decide_eq_true hna)) ?_
            refine nr ?_; intro U h; simp only [z0, z1] at h; subst h
            refine s_val 34 rfl rfl (.pointer (some ⟨g3, 16, none⟩)) (run_fld 40 _ 1 rfl g3 0 rfl 16 (by kernel_rfl)) ?_
            refine nr ?_; intro U h; simp only [z0, z1] at h; subst h
            refine s_val 35 rfl rfl (.bool true) (ldCb _ rfl g3 rfl (kg3) true (of_decide_eq_true hnb)) ?_
            refine nr ?_; intro U h; simp only [z0, z1] at h; subst h
            refine s_val 36 rfl rfl (.bool false) (run_neB 4 _ _ _ rfl true true rfl rfl Try.underlying4 false (decide_eq_true rfl) _) ?_
            refine nr ?_; intro U h; simp only [z0, z1] at h; subst h
            refine s_val 31 rfl rfl (.bool false) (rfl) ?_
            refine nr ?_; intro U h; simp only [z0, z1] at h; subst h
            refine wpList_nil ?_
            refine then_n ?_
            refine wp_cond_false rfl ?_
            refine wp_seq ?_
            refine wp_region_opq ?_
            intro OPS hY
            have y2 := hY 2 42 rfl
            clear hY
            refine s_val 40 rfl rfl (.pointer (some ⟨g2, 16, none⟩)) (run_fld 40 _ 1 rfl g2 0 rfl 16 (by kernel_rfl)) ?_
            refine nr ?_; intro U h; simp only [z0, z1] at h; subst h
            refine s_val 41 rfl rfl (.bool true) (ldCb _ rfl g2 rfl (kg2) true (of_decide_eq_true hna)) ?_
            refine nr ?_; intro U h; simp only [z0, z1] at h; subst h
            refine s_val 42 rfl rfl (.bool true) (rfl) ?_
            refine nr ?_; intro U h; simp only [z0, z1] at h; subst h
            refine s_skipY 43 rfl rfl y2 rfl ?_
            refine nr ?_; intro U h; simp only [z0, z1] at h; subst h
            refine s_skipY 44 rfl rfl y2 rfl ?_
            refine nr ?_; intro U h; simp only [z0, z1] at h; subst h
            refine s_skipY 45 rfl rfl y2 rfl ?_
            refine nr ?_; intro U h; simp only [z0, z1] at h; subst h
            refine s_skipY 46 rfl rfl y2 rfl ?_
            refine nr ?_; intro U h; simp only [z0, z1] at h; subst h
            refine s_skipY 47 rfl rfl y2 rfl ?_
            refine nr ?_; intro U h; simp only [z0, z1] at h; subst h
            refine s_val 48 rfl rfl (.bool true) (rfl) ?_
            refine nr ?_; intro U h; simp only [z0, z1] at h; subst h
            refine s_val 39 rfl rfl (.bool true) (rfl) ?_
            refine nr ?_; intro U h; simp only [z0, z1] at h; subst h
            refine wpList_nil ?_
            refine then_n ?_
            refine wp_cond_true rfl ?_
            refine wp_seq ?_
            refine wp_region_lit ?_
            refine s_val 49 rfl rfl (.pointer (some ⟨g2, 34, none⟩)) (run_fld 40 _ 3 rfl g2 0 rfl 34 (by kernel_rfl)) ?_
            refine nr ?_; intro U h; simp only [z0, z1] at h; subst h
            refine s_val 50 rfl rfl (.int .i64 a.n) (ldCn _ rfl g2 rfl (kg2)) ?_
            refine nr ?_; intro U h; simp only [z0, z1] at h; subst h
            refine s_val 51 rfl rfl (.pointer (some ⟨g3, 34, none⟩)) (run_fld 40 _ 3 rfl g3 0 rfl 34 (by kernel_rfl)) ?_
            refine nr ?_; intro U h; simp only [z0, z1] at h; subst h
            refine s_val 52 rfl rfl (.int .i64 b.n) (ldCn _ rfl g3 rfl (kg3)) ?_
            refine nr ?_; intro U h; simp only [z0, z1] at h; subst h
            refine s_val 53 rfl rfl (.bool (decide (a.n < b.n))) (run_lssT 3 _ _ _ rfl a.n b.n rfl rfl _ rfl _) ?_
            refine nr ?_; intro U h; simp only [z0, z1] at h; subst h
            refine s_val 6 rfl rfl (.bool (decide (a.n < b.n))) (rfl) ?_
            refine nr ?_; intro U h; simp only [z0, z1] at h; subst h
            refine wpList_nil ?_
            refine then_n ?_
            refine wp_ret ?_
            refine blk_r ?_
            refine then_r ?_
            refine bodyPost_ret (results_tmp Try.results16 _ _ _) rfl ?_
            refine ⟨congrArg (fun b => Ending.returned (.bool b)) ?_, GG⟩
            symm
            rw [bef_d]
            rw [if_pos (of_decide_eq_true h1)]
            rw [h2, h3]
            rw [if_neg (by decide)]
            rw [(of_decide_eq_true hna), (of_decide_eq_true hnb)]
            rw [if_pos rfl]
            exact if_pos rfl
      · refine wp_region_opq ?_
        intro OPS hY
        have y3 := hY 3 23 rfl
        clear hY
        refine s_val 20 rfl rfl (.pointer (some ⟨g2, 34, none⟩)) (run_fld 40 _ 3 rfl g2 0 rfl 34 (by kernel_rfl)) ?_
        refine nr ?_; intro U h; simp only [z0, z1] at h; subst h
        refine s_val 21 rfl rfl (.int .i64 a.n) (ldCn _ rfl g2 rfl (kg2)) ?_
        refine nr ?_; intro U h; simp only [z0, z1] at h; subst h
        refine s_val 22 rfl rfl (.bool false) (run_eq_k 3 .i64 _ _ _ rfl Try.underlying3 a.n (-1) rfl rfl false h2 _) ?_
        refine nr ?_; intro U h; simp only [z0, z1] at h; subst h
        refine s_val 23 rfl rfl (.bool false) (rfl) ?_
        refine nr ?_; intro U h; simp only [z0, z1] at h; subst h
        refine s_gvalY 24 rfl rfl y3 rfl (.pointer (some ⟨g3, 34, none⟩)) (run_fld 40 _ 3 rfl g3 0 rfl 34 (by kernel_rfl)) ?_
        refine nr ?_; intro U h; simp only [z0, z1] at h; subst h
        refine s_gvalY 25 rfl rfl y3 rfl (.int .i64 b.n) (ldCn _ rfl g3 rfl (kg3)) ?_
        refine nr ?_; intro U h; simp only [z0, z1] at h; subst h
        refine s_gvalY 26 rfl rfl y3 rfl (.bool true) (run_eq_k 3 .i64 _ _ _ rfl Try.underlying3 b.n (-1) rfl rfl true h3 _) ?_
        refine nr ?_; intro U h; simp only [z0, z1] at h; subst h
        refine s_val 27 rfl rfl (.bool true) (rfl) ?_
        refine nr ?_; intro U h; simp only [z0, z1] at h; subst h
        refine s_val 19 rfl rfl (.bool true) (rfl) ?_
        refine nr ?_; intro U h; simp only [z0, z1] at h; subst h
        refine wpList_nil ?_
        refine then_n ?_
        refine wp_cond_true rfl ?_
        refine wp_seq ?_
        refine wp_region_lit ?_
        refine s_val 28 rfl rfl (.pointer (some ⟨g3, 34, none⟩)) (run_fld 40 _ 3 rfl g3 0 rfl 34 (by kernel_rfl)) ?_
        refine nr ?_; intro U h; simp only [z0, z1] at h; subst h
        refine s_val 29 rfl rfl (.int .i64 b.n) (ldCn _ rfl g3 rfl (kg3)) ?_
        refine nr ?_; intro U h; simp only [z0, z1] at h; subst h
        refine s_val 30 rfl rfl (.bool false) (run_neq_k 3 .i64 _ _ _ rfl Try.underlying3 b.n (-1) rfl rfl false h3 _) ?_
        refine nr ?_; intro U h; simp only [z0, z1] at h; subst h
        refine s_val 6 rfl rfl (.bool false) (rfl) ?_
        refine nr ?_; intro U h; simp only [z0, z1] at h; subst h
        refine wpList_nil ?_
        refine then_n ?_
        refine wp_ret ?_
        refine blk_r ?_
        refine then_r ?_
        refine bodyPost_ret (results_tmp Try.results16 _ _ _) rfl ?_
        refine ⟨congrArg (fun b => Ending.returned (.bool b)) ?_, GG⟩
        symm
        rw [bef_d]
        rw [if_pos (of_decide_eq_true h1)]
        rw [h2, h3]
        exact (if_pos rfl).trans rfl
    · cases h3 : decide (b.n = -1)
      · refine wp_region_opq ?_
        intro OPS hY
        have y3 := hY 3 23 rfl
        clear hY
        refine s_val 20 rfl rfl (.pointer (some ⟨g2, 34, none⟩)) (run_fld 40 _ 3 rfl g2 0 rfl 34 (by kernel_rfl)) ?_
        refine nr ?_; intro U h; simp only [z0, z1] at h; subst h
        refine s_val 21 rfl rfl (.int .i64 a.n) (ldCn _ rfl g2 rfl (kg2)) ?_
        refine nr ?_; intro U h; simp only [z0, z1] at h; subst h
        refine s_val 22 rfl rfl (.bool true) (run_eq_k 3 .i64 _ _ _ rfl Try.underlying3 a.n (-1) rfl rfl true h2 _) ?_
        refine nr ?_; intro U h; simp only [z0, z1] at h; subst h
        refine s_val 23 rfl rfl (.bool true) (rfl) ?_
        refine nr ?_; intro U h; simp only [z0, z1] at h; subst h
        refine s_skipY 24 rfl rfl y3 rfl ?_
        refine nr ?_; intro U h; simp only [z0, z1] at h; subst h
        refine s_skipY 25 rfl rfl y3 rfl ?_
        refine nr ?_; intro U h; simp only [z0, z1] at h; subst h
        refine s_skipY 26 rfl rfl y3 rfl ?_
        refine nr ?_; intro U h; simp only [z0, z1] at h; subst h
        refine s_val 27 rfl rfl (.bool true) (rfl) ?_
        refine nr ?_; intro U h; simp only [z0, z1] at h; subst h
        refine s_val 19 rfl rfl (.bool true) (rfl) ?_
        refine nr ?_; intro U h; simp only [z0, z1] at h; subst h
        refine wpList_nil ?_
        refine then_n ?_
        refine wp_cond_true rfl ?_
        refine wp_seq ?_
        refine wp_region_lit ?_
        refine s_val 28 rfl rfl (.pointer (some ⟨g3, 34, none⟩)) (run_fld 40 _ 3 rfl g3 0 rfl 34 (by kernel_rfl)) ?_
        refine nr ?_; intro U h; simp only [z0, z1] at h; subst h
        refine s_val 29 rfl rfl (.int .i64 b.n) (ldCn _ rfl g3 rfl (kg3)) ?_
        refine nr ?_; intro U h; simp only [z0, z1] at h; subst h
        refine s_val 30 rfl rfl (.bool true) (run_neq_k 3 .i64 _ _ _ rfl Try.underlying3 b.n (-1) rfl rfl true h3 _) ?_
        refine nr ?_; intro U h; simp only [z0, z1] at h; subst h
        refine s_val 6 rfl rfl (.bool true) (rfl) ?_
        refine nr ?_; intro U h; simp only [z0, z1] at h; subst h
        refine wpList_nil ?_
        refine then_n ?_
        refine wp_ret ?_
        refine blk_r ?_
        refine then_r ?_
        refine bodyPost_ret (results_tmp Try.results16 _ _ _) rfl ?_
        refine ⟨congrArg (fun b => Ending.returned (.bool b)) ?_, GG⟩
        symm
        rw [bef_d]
        rw [if_pos (of_decide_eq_true h1)]
        rw [h2, h3]
        exact (if_pos rfl).trans rfl
      · refine wp_region_opq ?_
        intro OPS hY
        have y3 := hY 3 23 rfl
        clear hY
        refine s_val 20 rfl rfl (.pointer (some ⟨g2, 34, none⟩)) (run_fld 40 _ 3 rfl g2 0 rfl 34 (by kernel_rfl)) ?_
        refine nr ?_; intro U h; simp only [z0, z1] at h; subst h
        refine s_val 21 rfl rfl (.int .i64 a.n) (ldCn _ rfl g2 rfl (kg2)) ?_
        refine nr ?_; intro U h; simp only [z0, z1] at h; subst h
        refine s_val 22 rfl rfl (.bool true) (run_eq_k 3 .i64 _ _ _ rfl Try.underlying3 a.n (-1) rfl rfl true h2 _) ?_
        refine nr ?_; intro U h; simp only [z0, z1] at h; subst h
        refine s_val 23 rfl rfl (.bool true) (rfl) ?_
        refine nr ?_; intro U h; simp only [z0, z1] at h; subst h
        refine s_skipY 24 rfl rfl y3 rfl ?_
        refine nr ?_; intro U h; simp only [z0, z1] at h; subst h
        refine s_skipY 25 rfl rfl y3 rfl ?_
        refine nr ?_; intro U h; simp only [z0, z1] at h; subst h
        refine s_skipY 26 rfl rfl y3 rfl ?_
        refine nr ?_; intro U h; simp only [z0, z1] at h; subst h
        refine s_val 27 rfl rfl (.bool true) (rfl) ?_
        refine nr ?_; intro U h; simp only [z0, z1] at h; subst h
        refine s_val 19 rfl rfl (.bool true) (rfl) ?_
        refine nr ?_; intro U h; simp only [z0, z1] at h; subst h
        refine wpList_nil ?_
        refine then_n ?_
        refine wp_cond_true rfl ?_
        refine wp_seq ?_
        refine wp_region_lit ?_
        refine s_val 28 rfl rfl (.pointer (some ⟨g3, 34, none⟩)) (run_fld 40 _ 3 rfl g3 0 rfl 34 (by kernel_rfl)) ?_
        refine nr ?_; intro U h; simp only [z0, z1] at h; subst h
        refine s_val 29 rfl rfl (.int .i64 b.n) (ldCn _ rfl g3 rfl (kg3)) ?_
        refine nr ?_; intro U h; simp only [z0, z1] at h; subst h
        refine s_val 30 rfl rfl (.bool false) (run_neq_k 3 .i64 _ _ _ rfl Try.underlying3 b.n (-1) rfl rfl false h3 _) ?_
        refine nr ?_; intro U h; simp only [z0, z1] at h; subst h
        refine s_val 6 rfl rfl (.bool false) (rfl) ?_
        refine nr ?_; intro U h; simp only [z0, z1] at h; subst h
        refine wpList_nil ?_
        refine then_n ?_
        refine wp_ret ?_
        refine blk_r ?_
        refine then_r ?_
        refine bodyPost_ret (results_tmp Try.results16 _ _ _) rfl ?_
        refine ⟨congrArg (fun b => Ending.returned (.bool b)) ?_, GG⟩
        symm
        rw [bef_d]
        rw [if_pos (of_decide_eq_true h1)]
        rw [h2, h3]
        exact (if_pos rfl).trans rfl
set_option maxRecDepth 100000 in
set_option maxHeartbeats 4000000 in
theorem rbefore_any (d : Nat) (a b : Ch) (hd : d < top) (ha : a.ok) (hb : b.ok) (w : World) : Calls Try.prog 17 #[.agg (idA d), .agg (chA a), .agg (chA b)] w (fun e w' => e = .returned (.bool (befD d a b)) ∧ Gro w w') := by
  refine s_enter Try.func17 rfl Try.ntmps17 [.agg (idA d), .agg (chA a), .agg (chA b)] [.agg (idA d), .agg (chA a), .agg (chA b), undef, undef, undef, undef, undef, undef, undef, undef, undef, undef, undef, undef, undef, undef, undef, undef, undef, undef, undef, undef, undef, undef, undef, undef, undef, undef, undef, undef, undef, undef, undef, undef, undef, undef, undef, undef, undef, undef, undef, undef, undef, undef, undef, undef, undef, undef, undef, undef, undef, undef, undef, undef, undef, undef, undef, undef, undef, undef, undef, undef, undef, undef, undef, undef, undef, undef] rfl ?_
  have GG := Gro.refl w
  refine wp_seq ?_
  refine wp_region_lit ?_
  refine s_box 3 rfl rfl 23 _ rfl _ rfl (idA d) rfl ?_
  intro w1 g1 G eg1 kg1
  have bg1 := size_base GG eg1
  replace GG := GG.trans G
  clear G
  clear eg1
  refine nr ?_; intro U h; simp only [z0, z1] at h; subst h
  refine s_box 4 rfl rfl 42 _ rfl _ rfl (chA a) rfl ?_
  intro w2 g2 G eg2 kg2
  have bg2 := size_base GG eg2
  have dg1g2 := lt_new kg1 eg2
  replace kg1 := G.has kg1
  replace GG := GG.trans G
  clear G
  clear eg2
  refine nr ?_; intro U h; simp only [z0, z1] at h; subst h
  refine s_box 5 rfl rfl 42 _ rfl _ rfl (chA b) rfl ?_
  intro w3 g3 G eg3 kg3
  have bg3 := size_base GG eg3
  have dg1g3 := lt_new kg1 eg3
  have dg2g3 := lt_new kg2 eg3
  replace kg1 := G.has kg1
  replace kg2 := G.has kg2
  replace GG := GG.trans G
  clear G
  clear eg3
  refine nr ?_; intro U h; simp only [z0, z1] at h; subst h
  refine s_val 6 rfl rfl (.bool false) (rfl) ?_
  refine nr ?_; intro U h; simp only [z0, z1] at h; subst h
  refine wpList_nil ?_
  refine then_n ?_
  refine wp_seq ?_
  refine wp_seq ?_
  cases h1 : decide (a.id = b.id)
  · refine wp_region_lit ?_
    refine s_val 7 rfl rfl (.pointer (some ⟨g2, 0, none⟩)) (run_fld 42 _ 0 rfl g2 0 rfl 0 (by kernel_rfl)) ?_
    refine nr ?_; intro U h; simp only [z0, z1] at h; subst h
    refine s_val 8 rfl rfl (.agg (idA a.id)) (ldDi _ rfl g2 rfl (kg2)) ?_
    refine nr ?_; intro U h; simp only [z0, z1] at h; subst h
    refine s_val 9 rfl rfl (.pointer (some ⟨g3, 0, none⟩)) (run_fld 42 _ 0 rfl g3 0 rfl 0 (by kernel_rfl)) ?_
    refine nr ?_; intro U h; simp only [z0, z1] at h; subst h
    refine s_val 10 rfl rfl (.agg (idA b.id)) (ldDi _ rfl g3 rfl (kg3)) ?_
    refine nr ?_; intro U h; simp only [z0, z1] at h; subst h
    refine s_val 11 rfl rfl (.bool true) (run_neI _ _ _ rfl _ _ rfl rfl ha.id hb.id true h1) ?_
    refine nr ?_; intro U h; simp only [z0, z1] at h; subst h
    refine wpList_nil ?_
    refine then_n ?_
    refine wp_cond_true rfl ?_
    refine wp_seq ?_
    refine wp_region_lit ?_
    refine s_val 12 rfl rfl (.agg (idA d)) (ldI0 _ rfl g1 rfl (kg1)) ?_
    refine nr ?_; intro U h; simp only [z0, z1] at h; subst h
    refine s_val 13 rfl rfl (.pointer (some ⟨g2, 0, none⟩)) (run_fld 42 _ 0 rfl g2 0 rfl 0 (by kernel_rfl)) ?_
    refine nr ?_; intro U h; simp only [z0, z1] at h; subst h
    refine s_val 14 rfl rfl (.agg (idA a.id)) (ldDi _ rfl g2 rfl (kg2)) ?_
    refine nr ?_; intro U h; simp only [z0, z1] at h; subst h
    refine s_val 15 rfl rfl (.pointer (some ⟨g3, 0, none⟩)) (run_fld 42 _ 0 rfl g3 0 rfl 0 (by kernel_rfl)) ?_
    refine nr ?_; intro U h; simp only [z0, z1] at h; subst h
    refine s_val 16 rfl rfl (.agg (idA b.id)) (ldDi _ rfl g3 rfl (kg3)) ?_
    refine nr ?_; intro U h; simp only [z0, z1] at h; subst h
    refine s_callv 17 rfl rfl _ 19 Try.call19 rfl rfl _ rfl [.agg (idA d), .agg (idA a.id), .agg (idA b.id)] rfl (refnearer_any d a.id b.id hd ha.id hb.id _) ?_
    intro w4 G
    replace kg1 := G.has kg1
    replace kg2 := G.has kg2
    replace kg3 := G.has kg3
    replace GG := GG.trans G
    clear G
    refine nr ?_; intro U h; simp only [z0, z1] at h; subst h
    refine s_val 6 rfl rfl (.bool (nearN d a.id b.id)) (rfl) ?_
    refine nr ?_; intro U h; simp only [z0, z1] at h; subst h
    refine wpList_nil ?_
    refine then_n ?_
    refine wp_ret ?_
    refine then_r ?_
    refine bodyPost_ret (results_tmp Try.results17 _ _ _) rfl ?_
    refine ⟨congrArg (fun b => Ending.returned (.bool b)) ?_, GG⟩
    symm
    rw [befD_d]
    rw [if_neg (of_decide_eq_false h1)]
  · refine wp_region_lit ?_
    refine s_val 7 rfl rfl (.pointer (some ⟨g2, 0, none⟩)) (run_fld 42 _ 0 rfl g2 0 rfl 0 (by kernel_rfl)) ?_
    refine nr ?_; intro U h; simp only [z0, z1] at h; subst h
    refine s_val 8 rfl rfl (.agg (idA a.id)) (ldDi _ rfl g2 rfl (kg2)) ?_
    refine nr ?_; intro U h; simp only [z0, z1] at h; subst h
    refine s_val 9 rfl rfl (.pointer (some ⟨g3, 0, none⟩)) (run_fld 42 _ 0 rfl g3 0 rfl 0 (by kernel_rfl)) ?_
    refine nr ?_; intro U h; simp only [z0, z1] at h; subst h
    refine s_val 10 rfl rfl (.agg (idA b.id)) (ldDi _ rfl g3 rfl (kg3)) ?_
    refine nr ?_; intro U h; simp only [z0, z1] at h; subst h
    refine s_val 11 rfl rfl (.bool false) (run_neI _ _ _ rfl _ _ rfl rfl ha.id hb.id false h1) ?_
    refine nr ?_; intro U h; simp only [z0, z1] at h; subst h
    refine wpList_nil ?_
    refine then_n ?_
    refine wp_cond_false rfl ?_
    refine wp_skip ?_
    refine then_n ?_
    refine wp_seq ?_
    refine wp_seq ?_
    cases h2 : decide (a.n = -1)
    · cases h3 : decide (b.n = -1)
      · refine wp_region_opq ?_
        intro OPS hY
        have y3 := hY 3 21 rfl
        clear hY
        refine s_val 18 rfl rfl (.pointer (some ⟨g2, 34, none⟩)) (run_fld 42 _ 3 rfl g2 0 rfl 34 (by kernel_rfl)) ?_
        refine nr ?_; intro U h; simp only [z0, z1] at h; subst h
        refine s_val 19 rfl rfl (.int .i64 a.n) (ldDn _ rfl g2 rfl (kg2)) ?_
        refine nr ?_; intro U h; simp only [z0, z1] at h; subst h
        refine s_val 20 rfl rfl (.bool false) (run_eq_k 3 .i64 _ _ _ rfl Try.underlying3 a.n (-1) rfl rfl false h2 _) ?_
        refine nr ?_; intro U h; simp only [z0, z1] at h; subst h
        refine s_val 21 rfl rfl (.bool false) (rfl) ?_
        refine nr ?_; intro U h; simp only [z0, z1] at h; subst h
        refine s_gvalY 22 rfl rfl y3 rfl (.pointer (some ⟨g3, 34, none⟩)) (run_fld 42 _ 3 rfl g3 0 rfl 34 (by kernel_rfl)) ?_
        refine nr ?_; intro U h; simp only [z0, z1] at h; subst h
        refine s_gvalY 23 rfl rfl y3 rfl (.int .i64 b.n) (ldDn _ rfl g3 rfl (kg3)) ?_
        refine nr ?_; intro U h; simp only [z0, z1] at h; subst h
        refine s_gvalY 24 rfl rfl y3 rfl (.bool false) (run_eq_k 3 .i64 _ _ _ rfl Try.underlying3 b.n (-1) rfl rfl false h3 _) ?_
        refine nr ?_; intro U h; simp only [z0, z1] at h; subst h
        refine s_val 25 rfl rfl (.bool false) (rfl) ?_
        refine nr ?_; intro U h; simp only [z0, z1] at h; subst h
        refine wpList_nil ?_
        refine then_n ?_
        refine wp_cond_false rfl ?_
        refine wp_skip ?_
        refine then_n ?_
        refine wp_seq ?_
        refine wp_seq ?_
        cases hna : decide (a.near = true)
        · cases hnb : decide (b.near = true)
          · refine wp_region_opq ?_
            intro OPS hY
            have y2 := hY 2 36 rfl
            clear hY
            refine s_val 34 rfl rfl (.pointer (some ⟨g2, 16, none⟩)) (run_fld 42 _ 1 rfl g2 0 rfl 16 (by kernel_rfl)) ?_
            refine nr ?_; intro U h; simp only [z0, z1] at h; subst h
            refine s_val 35 rfl rfl (.bool false) (ldDb _ rfl g2 rfl (kg2) false (Bool.eq_false_iff.2 (of_decide_eq_false hna))) ?_
            refine nr ?_; intro U h; simp only [z0, z1] at h; subst h
            refine s_val 36 rfl rfl (.bool false) (rfl) ?_
            refine nr ?_; intro U h; simp only [z0, z1] at h; subst h
            refine s_gvalY 37 rfl rfl y2 rfl (.pointer (some ⟨g3, 16, none⟩)) (run_fld 42 _ 1 rfl g3 0 rfl 16 (by kernel_rfl)) ?_
            refine nr ?_; intro U h; simp only [z0, z1] at h; subst h
            refine s_gvalY 38 rfl rfl y2 rfl (.bool false) (ldDb _ rfl g3 rfl (kg3) false (Bool.eq_false_iff.2 (of_decide_eq_false hnb))) ?_
            refine nr ?_; intro U h; simp only [z0, z1] at h; subst h
            refine s_val 39 rfl rfl (.bool false) (rfl) ?_
            refine nr ?_; intro U h; simp only [z0, z1] at h; subst h
            refine wpList_nil ?_
            refine then_n ?_
            refine wp_cond_false rfl ?_
            refine wp_skip ?_
            refine then_n ?_
            refine wp_seq ?_
            refine wp_seq ?_
            cases hp : decide (a.p = b.p)
            · refine wp_region_lit ?_
              refine s_val 54 rfl rfl (.pointer (some ⟨g2, 17, none⟩)) (run_fld 42 _ 2 rfl g2 0 rfl 17 (by kernel_rfl)) ?_
              refine nr ?_; intro U h; simp only [z0, z1] at h; subst h
              refine s_val 55 rfl rfl (.agg (paA a.p)) (ldDp _ rfl g2 rfl (kg2)) ?_
              refine nr ?_; intro U h; simp only [z0, z1] at h; subst h
              refine s_val 56 rfl rfl (.pointer (some ⟨g3, 17, none⟩)) (run_fld 42 _ 2 rfl g3 0 rfl 17 (by kernel_rfl)) ?_
              refine nr ?_; intro U h; simp only [z0, z1] at h; subst h
              refine s_val 57 rfl rfl (.agg (paA b.p)) (ldDp _ rfl g3 rfl (kg3)) ?_
              refine nr ?_; intro U h; simp only [z0, z1] at h; subst h
              refine s_val 58 rfl rfl (.bool false) (run_eqP _ _ _ rfl _ _ rfl rfl ha.p hb.p false hp) ?_
              refine nr ?_; intro U h; simp only [z0, z1] at h; subst h
              refine wpList_nil ?_
              refine then_n ?_
              refine wp_cond_false rfl ?_
              refine wp_skip ?_
              refine then_n ?_
              refine wp_seq ?_
              refine wp_region_lit ?_
              refine s_val 64 rfl rfl (.pointer (some ⟨g2, 17, none⟩)) (run_fld 42 _ 2 rfl g2 0 rfl 17 (by kernel_rfl)) ?_
              refine nr ?_; intro U h; simp only [z0, z1] at h; subst h
              refine s_val 65 rfl rfl (.agg (paA a.p)) (ldDp _ rfl g2 rfl (kg2)) ?_
              refine nr ?_; intro U h; simp only [z0, z1] at h; subst h
              refine s_val 66 rfl rfl (.pointer (some ⟨g3, 17, none⟩)) (run_fld 42 _ 2 rfl g3 0 rfl 17 (by kernel_rfl)) ?_
              refine nr ?_; intro U h; simp only [z0, z1] at h; subst h
              refine s_val 67 rfl rfl (.agg (paA b.p)) (ldDp _ rfl g3 rfl (kg3)) ?_
              refine nr ?_; intro U h; simp only [z0, z1] at h; subst h
              refine s_callv 68 rfl rfl _ 31 Try.call31 rfl rfl _ rfl [.agg (paA a.p), .agg (paA b.p)] rfl (rless_any a.p b.p ha.p hb.p _) ?_
              intro w4 G
              replace kg1 := G.has kg1
              replace kg2 := G.has kg2
              replace kg3 := G.has kg3
              replace GG := GG.trans G
              clear G
              refine nr ?_; intro U h; simp only [z0, z1] at h; subst h
              refine s_val 6 rfl rfl (.bool (lessB a.p b.p)) (rfl) ?_
              refine nr ?_; intro U h; simp only [z0, z1] at h; subst h
              refine wpList_nil ?_
              refine then_n ?_
              refine wp_ret ?_
              refine bodyPost_ret (results_tmp Try.results17 _ _ _) rfl ?_
              refine ⟨congrArg (fun b => Ending.returned (.bool b)) ?_, GG⟩
              symm
              rw [befD_d]
              rw [if_pos (of_decide_eq_true h1)]
              rw [h2, h3]
              rw [if_neg (by decide)]
              rw [(Bool.eq_false_iff.2 (of_decide_eq_false hna)), (Bool.eq_false_iff.2 (of_decide_eq_false hnb))]
              rw [if_neg (by decide)]
              rw [if_neg (of_decide_eq_false hp)]
              rfl
            · refine wp_region_lit ?_
              refine s_val 54 rfl rfl (.pointer (some ⟨g2, 17, none⟩)) (run_fld 42 _ 2 rfl g2 0 rfl 17 (by kernel_rfl)) ?_
              refine nr ?_; intro U h; simp only [z0, z1] at h; subst h
              refine s_val 55 rfl rfl (.agg (paA a.p)) (ldDp _ rfl g2 rfl (kg2)) ?_
              refine nr ?_; intro U h; simp only [z0, z1] at h; subst h
              refine s_val 56 rfl rfl (.pointer (some ⟨g3, 17, none⟩)) (run_fld 42 _ 2 rfl g3 0 rfl 17 (by kernel_rfl)) ?_
              refine nr ?_; intro U h; simp only [z0, z1] at h; subst h
              refine s_val 57 rfl rfl (.agg (paA b.p)) (ldDp _ rfl g3 rfl (kg3)) ?_
              refine nr ?_; intro U h; simp only [z0, z1] at h; subst h
              refine s_val 58 rfl rfl (.bool true) (run_eqP _ _ _ rfl _ _ rfl rfl ha.p hb.p true hp) ?_
              refine nr ?_; intro U h; simp only [z0, z1] at h; subst h
              refine wpList_nil ?_
              refine then_n ?_
              refine wp_cond_true rfl ?_
              refine wp_seq ?_
              refine wp_region_lit ?_
              refine s_val 59 rfl rfl (.pointer (some ⟨g2, 34, none⟩)) (run_fld 42 _ 3 rfl g2 0 rfl 34 (by kernel_rfl)) ?_
              refine nr ?_; intro U h; simp only [z0, z1] at h; subst h
              refine s_val 60 rfl rfl (.int .i64 a.n) (ldDn _ rfl g2 rfl (kg2)) ?_
              refine nr ?_; intro U h; simp only [z0, z1] at h; subst h
              refine s_val 61 rfl rfl (.pointer (some ⟨g3, 34, none⟩)) (run_fld 42 _ 3 rfl g3 0 rfl 34 (by kernel_rfl)) ?_
              refine nr ?_; intro U h; simp only [z0, z1] at h; subst h
              refine s_val 62 rfl rfl (.int .i64 b.n) (ldDn _ rfl g3 rfl (kg3)) ?_
              refine nr ?_; intro U h; simp only [z0, z1] at h; subst h
              refine s_val 63 rfl rfl (.bool (decide (a.n < b.n))) (run_lssT 3 _ _ _ rfl a.n b.n rfl rfl _ rfl _) ?_
              refine nr ?_; intro U h; simp only [z0, z1] at h; subst h
              refine s_val 6 rfl rfl (.bool (decide (a.n < b.n))) (rfl) ?_
              refine nr ?_; intro U h; simp only [z0, z1] at h; subst h
              refine wpList_nil ?_
              refine then_n ?_
              refine wp_ret ?_
              refine then_r ?_
              refine bodyPost_ret (results_tmp Try.results17 _ _ _) rfl ?_
              refine ⟨congrArg (fun b => Ending.returned (.bool b)) ?_, GG⟩
              symm
              rw [befD_d]
              rw [if_pos (of_decide_eq_true h1)]
              rw [h2, h3]
              rw [if_neg (by decide)]
              rw [(Bool.eq_false_iff.2 (of_decide_eq_false hna)), (Bool.eq_false_iff.2 (of_decide_eq_false hnb))]
              rw [if_neg (by decide)]
              rw [if_pos (of_decide_eq_true hp)]
          · refine wp_region_opq ?_
            intro OPS hY
            have y2 := hY 2 36 rfl
            clear hY
            refine s_val 34 rfl rfl (.pointer (some ⟨g2, 16, none⟩)) (run_fld 42 _ 1 rfl g2 0 rfl 16 (by kernel_rfl)) ?_
            refine nr ?_; intro U h; simp only [z0, z1] at h; subst h
            refine s_val 35 rfl rfl (.bool false) (ldDb _ rfl g2 rfl (kg2) false (Bool.eq_false_iff.2 (of_decide_eq_false hna))) ?_
            refine nr ?_; intro U h; simp only [z0, z1] at h; subst h
            refine s_val 36 rfl rfl (.bool false) (rfl) ?_
            refine nr ?_; intro U h; simp only [z0, z1] at h; subst h
            refine s_gvalY 37 rfl rfl y2 rfl (.pointer (some ⟨g3, 16, none⟩)) (run_fld 42 _ 1 rfl g3 0 rfl 16 (by kernel_rfl)) ?_
            refine nr ?_; intro U h; simp only [z0, z1] at h; subst h
            refine s_gvalY 38 rfl rfl y2 rfl (.bool true) (ldDb _ rfl g3 rfl (kg3) true (of_decide_eq_true hnb)) ?_
            refine nr ?_; intro U h; simp only [z0, z1] at h; subst h
            refine s_val 39 rfl rfl (.bool true) (rfl) ?_
            refine nr ?_; intro U h; simp only [z0, z1] at h; subst h
            refine wpList_nil ?_
            refine then_n ?_
            refine wp_cond_true rfl ?_
            refine wp_seq ?_
            refine wp_region_opq ?_
            intro OPS hY
            have y2 := hY 2 42 rfl
            have y6 := hY 6 46 rfl
            clear hY
            refine s_val 40 rfl rfl (.pointer (some ⟨g2, 16, none⟩)) (run_fld 42 _ 1 rfl g2 0 rfl 16 (by kernel_rfl)) ?_
            refine nr ?_; intro U h; simp only [z0, z1] at h; subst h
            refine s_val 41 rfl rfl (.bool false) (ldDb _ rfl g2 rfl (kg2) false (Bool.eq_false_iff.2 (of_decide_eq_false hna))) ?_
            refine nr ?_; intro U h; simp only [z0, z1] at h; subst h
            refine s_val 42 rfl rfl (.bool false) (rfl) ?_
            refine nr ?_; intro U h; simp only [z0, z1] at h; subst h
            refine s_skipY 43 rfl rfl y2 rfl ?_
            refine nr ?_; intro U h; simp only [z0, z1] at h; subst h
            refine s_skipY 44 rfl rfl y2 rfl ?_
            refine nr ?_; intro U h; simp only [z0, z1] at h; subst h
            refine s_skipY 45 rfl rfl y2 rfl ?_
            refine nr ?_; intro U h; simp only [z0, z1] at h; subst h
            refine s_skipY 46 rfl rfl y2 rfl ?_
            refine nr ?_; intro U h; simp only [z0, z1] at h; subst h
            refine s_skipY 47 rfl rfl y6 rfl ?_
            refine nr ?_; intro U h; simp only [z0, z1] at h; subst h
            refine s_skipY 48 rfl rfl y6 rfl ?_
            refine nr ?_; intro U h; simp only [z0, z1] at h; subst h
            refine s_skipY 49 rfl rfl y6 rfl ?_
            refine nr ?_; intro U h; simp only [z0, z1] at h; subst h
            refine s_skipY 50 rfl rfl y6 rfl ?_
            refine nr ?_; intro U h; simp only [z0, z1] at h; subst h
            refine s_skipY 51 rfl rfl y6 rfl ?_
            refine nr ?_; intro U h; simp only [z0, z1] at h; subst h
            refine s_skipY 52 rfl rfl y2 rfl ?_
            refine nr ?_; intro U h; simp only [z0, z1] at h; subst h
            refine s_val 53 rfl rfl (.bool false) (rfl) ?_
            refine nr ?_; intro U h; simp only [z0, z1] at h; subst h
            refine s_val 6 rfl rfl (.bool false) (rfl) ?_
            refine nr ?_; intro U h; simp only [z0, z1] at h; subst h
            refine wpList_nil ?_
            refine then_n ?_
            refine wp_ret ?_
            refine then_r ?_
            refine bodyPost_ret (results_tmp Try.results17 _ _ _) rfl ?_
            refine ⟨congrArg (fun b => Ending.returned (.bool b)) ?_, GG⟩
            symm
            rw [befD_d]
            rw [if_pos (of_decide_eq_true h1)]
            rw [h2, h3]
            rw [if_neg (by decide)]
            rw [(Bool.eq_false_iff.2 (of_decide_eq_false hna)), (of_decide_eq_true hnb)]
            exact (if_pos rfl).trans rfl
        · cases hnb : decide (b.near = true)
          · refine wp_region_opq ?_
            intro OPS hY
            have y2 := hY 2 36 rfl
            clear hY
            refine s_val 34 rfl rfl (.pointer (some ⟨g2, 16, none⟩)) (run_fld 42 _ 1 rfl g2 0 rfl 16 (by kernel_rfl)) ?_
            refine nr ?_; intro U h; simp only [z0, z1] at h; subst h
            refine s_val 35 rfl rfl (.bool true) (ldDb _ rfl g2 rfl (kg2) true (of_decide_eq_true hna)) ?_
            refine nr ?_; intro U h; simp only [z0, z1] at h; subst h
            refine s_val 36 rfl rfl (.bool true) (rfl) ?_
            refine nr ?_; intro U h; simp only [z0, z1] at h; subst h
            refine s_skipY 37 rfl rfl y2 rfl ?_
            refine nr ?_; intro U h; simp only [z0, z1] at h; subst h
            refine s_skipY 38 rfl rfl y2 rfl ?_
            refine nr ?_; intro U h; simp only [z0, z1] at h; subst h
            refine s_val 39 rfl rfl (.bool true) (rfl) ?_
            refine nr ?_; intro U h; simp only [z0, z1] at h; subst h
            refine wpList_nil ?_
            refine then_n ?_
            refine wp_cond_true rfl ?_
            refine wp_seq ?_
            refine wp_region_opq ?_
            intro OPS hY
            have y2 := hY 2 42 rfl
            have y6 := hY 6 46 rfl
            clear hY
            refine s_val 40 rfl rfl (.pointer (some ⟨g2, 16, none⟩)) (run_fld 42 _ 1 rfl g2 0 rfl 16 (by kernel_rfl)) ?_
            refine nr ?_; intro U h; simp only [z0, z1] at h; subst h
            refine s_val 41 rfl rfl (.bool true) (ldDb _ rfl g2 rfl (kg2) true (of_decide_eq_true hna)) ?_
            refine nr ?_; intro U h; simp only [z0, z1] at h; subst h
            refine s_val 42 rfl rfl (.bool true) (rfl) ?_
            refine nr ?_; intro U h; simp only [z0, z1] at h; subst h
            refine s_gvalY 43 rfl rfl y2 rfl (.pointer (some ⟨g3, 16, none⟩)) (run_fld 42 _ 1 rfl g3 0 rfl 16 (by kernel_rfl)) ?_
            refine nr ?_; intro U h; simp only [z0, z1] at h; subst h
            refine s_gvalY 44 rfl rfl y2 rfl (.bool false) (ldDb _ rfl g3 rfl (kg3) false (Bool.eq_false_iff.2 (of_decide_eq_false hnb))) ?_
            refine nr ?_; intro U h; simp only [z0, z1] at h; subst h
            refine s_gvalY 45 rfl rfl y2 rfl (.bool true) (run_nt _ _ rfl false rfl) ?_
            refine nr ?_; intro U h; simp only [z0, z1] at h; subst h
            refine s_gvalY 46 rfl rfl y2 rfl (.bool true) (rfl) ?_
            refine nr ?_; intro U h; simp only [z0, z1] at h; subst h
            refine s_skipY 47 rfl rfl y6 rfl ?_
            refine nr ?_; intro U h; simp only [z0, z1] at h; subst h
            refine s_skipY 48 rfl rfl y6 rfl ?_
            refine nr ?_; intro U h; simp only [z0, z1] at h; subst h
            refine s_skipY 49 rfl rfl y6 rfl ?_
            refine nr ?_; intro U h; simp only [z0, z1] at h; subst h
            refine s_skipY 50 rfl rfl y6 rfl ?_
            refine nr ?_; intro U h; simp only [z0, z1] at h; subst h
            refine s_skipY 51 rfl rfl y6 rfl ?_
            refine nr ?_; intro U h; simp only [z0, z1] at h; subst h
            refine s_gvalY 52 rfl rfl y2 rfl (.bool true) (rfl) ?_
            refine nr ?_; intro U h; simp only [z0, z1] at h; subst h
            refine s_val 53 rfl rfl (.bool true) (rfl) ?_
            refine nr ?_; intro U h; simp only [z0, z1] at h; subst h
            refine s_val 6 rfl rfl (.bool true) (rfl) ?_
            refine nr ?_; intro U h; simp only [z0, z1] at h; subst h
            refine wpList_nil ?_
            refine then_n ?_
            refine wp_ret ?_
            refine then_r ?_
            refine bodyPost_ret (results_tmp Try.results17 _ _ _) rfl ?_
            refine ⟨congrArg (fun b => Ending.returned (.bool b)) ?_, GG⟩
            symm
            rw [befD_d]
            rw [if_pos (of_decide_eq_true h1)]
            rw [h2, h3]
            rw [if_neg (by decide)]
            rw [(of_decide_eq_true hna), (Bool.eq_false_iff.2 (of_decide_eq_false hnb))]
            exact (if_pos rfl).trans rfl
          · refine wp_region_opq ?_
            intro OPS hY
            have y2 := hY 2 36 rfl
            clear hY
            refine s_val 34 rfl rfl (.pointer (some ⟨g2, 16, none⟩)) (run_fld 42 _ 1 rfl g2 0 rfl 16 (by kernel_rfl)) ?_
            refine nr ?_; intro U h; simp only [z0, z1] at h; subst h
            refine s_val 35 rfl rfl (.bool true) (ldDb _ rfl g2 rfl (kg2) true (of_decide_eq_true hna)) ?_
            refine nr ?_; intro U h; simp only [z0, z1] at h; subst h
            refine s_val 36 rfl rfl (.bool true) (rfl) ?_
            refine nr ?_; intro U h; simp only [z0, z1] at h; subst h
            refine s_skipY 37 rfl rfl y2 rfl ?_
            refine nr ?_; intro U h; simp only [z0, z1] at h; subst h
            refine s_skipY 38 rfl rfl y2 rfl ?_
            refine nr ?_; intro U h; simp only [z0, z1] at h; subst h
            refine s_val 39 rfl rfl (.bool true) (rfl) ?_
            refine nr ?_; intro U h; simp only [z0, z1] at h; subst h
            refine wpList_nil ?_
            refine then_n ?_
            refine wp_cond_true rfl ?_
            refine wp_seq ?_
            refine wp_region_opq ?_
            intro OPS hY
            have y2 := hY 2 42 rfl
            have y6 := hY 6 46 rfl
            clear hY
            refine s_val 40 rfl rfl (.pointer (some ⟨g2, 16, none⟩)) (run_fld 42 _ 1 rfl g2 0 rfl 16 (by kernel_rfl)) ?_
            refine nr ?_; intro U h; simp only [z0, z1] at h; subst h
            refine s_val 41 rfl rfl (.bool true) (ldDb _ rfl g2 rfl (kg2) true (of_decide_eq_true hna)) ?_
            refine nr ?_; intro U h; simp only [z0, z1] at h; subst h
            refine s_val 42 rfl rfl (.bool true) (rfl) ?_
            refine nr ?_; intro U h; simp only [z0, z1] at h; subst h
            refine s_gvalY 43 rfl rfl y2 rfl (.pointer (some ⟨g3, 16, none⟩)) (run_fld 42 _ 1 rfl g3 0 rfl 16 (by kernel_rfl)) ?_
            refine nr ?_; intro U h; simp only [z0, z1] at h; subst h
            refine s_gvalY 44 rfl rfl y2 rfl (.bool true) (ldDb _ rfl g3 rfl (kg3) true (of_decide_eq_true hnb)) ?_
            refine nr ?_; intro U h; simp only [z0, z1] at h; subst h
            refine s_gvalY 45 rfl rfl y2 rfl (.bool false) (run_nt _ _ rfl true rfl) ?_
            refine nr ?_; intro U h; simp only [z0, z1] at h; subst h
            refine s_gvalY 46 rfl rfl y2 rfl (.bool false) (rfl) ?_
            refine nr ?_; intro U h; simp only [z0, z1] at h; subst h
            refine s_gvalY 47 rfl rfl y6 rfl (.pointer (some ⟨g2, 34, none⟩)) (run_fld 42 _ 3 rfl g2 0 rfl 34 (by kernel_rfl)) ?_
            refine nr ?_; intro U h; simp only [z0, z1] at h; subst h
            refine s_gvalY 48 rfl rfl y6 rfl (.int .i64 a.n) (ldDn _ rfl g2 rfl (kg2)) ?_
            refine nr ?_; intro U h; simp only [z0, z1] at h; subst h
            refine s_gvalY 49 rfl rfl y6 rfl (.pointer (some ⟨g3, 34, none⟩)) (run_fld 42 _ 3 rfl g3 0 rfl 34 (by kernel_rfl)) ?_
            refine nr ?_; intro U h; simp only [z0, z1] at h; subst h
            refine s_gvalY 50 rfl rfl y6 rfl (.int .i64 b.n) (ldDn _ rfl g3 rfl (kg3)) ?_
            refine nr ?_; intro U h; simp only [z0, z1] at h; subst h
            refine s_gvalY 51 rfl rfl y6 rfl (.bool (decide (a.n < b.n))) (run_lssT 3 _ _ _ rfl a.n b.n rfl rfl _ rfl _) ?_
            refine nr ?_; intro U h; simp only [z0, z1] at h; subst h
            refine s_gvalY 52 rfl rfl y2 rfl (.bool (decide (a.n < b.n))) (rfl) ?_
            refine nr ?_; intro U h; simp only [z0, z1] at h; subst h
            refine s_val 53 rfl rfl (.bool (decide (a.n < b.n))) (rfl) ?_
            refine nr ?_; intro U h; simp only [z0, z1] at h; subst h
            refine s_val 6 rfl rfl (.bool (decide (a.n < b.n))) (rfl) ?_
            refine nr ?_; intro U h; simp only [z0, z1] at h; subst h
            refine wpList_nil ?_
            refine then_n ?_
            refine wp_ret ?_
            refine then_r ?_
            refine bodyPost_ret (results_tmp Try.results17 _ _ _) rfl ?_
            refine ⟨congrArg (fun b => Ending.returned (.bool b)) ?_, GG⟩
            symm
            rw [befD_d]
            rw [if_pos (of_decide_eq_true h1)]
            rw [h2, h3]
            rw [if_neg (by decide)]
            rw [(of_decide_eq_true hna), (of_decide_eq_true hnb)]
            exact (if_pos rfl).trans rfl
      · refine wp_region_opq ?_
        intro OPS hY
        have y3 := hY 3 21 rfl
        clear hY
        refine s_val 18 rfl rfl (.pointer (some ⟨g2, 34, none⟩)) (run_fld 42 _ 3 rfl g2 0 rfl 34 (by kernel_rfl)) ?_
        refine nr ?_; intro U h; simp only [z0, z1] at h; subst h
        refine s_val 19 rfl rfl (.int .i64 a.n) (ldDn _ rfl g2 rfl (kg2)) ?_
        refine nr ?_; intro U h; simp only [z0, z1] at h; subst h
        refine s_val 20 rfl rfl (.bool false) (run_eq_k 3 .i64 _ _ _ rfl Try.underlying3 a.n (-1) rfl rfl false h2 _) ?_
        refine nr ?_; intro U h; simp only [z0, z1] at h; subst h
        refine s_val 21 rfl rfl (.bool false) (rfl) ?_
        refine nr ?_; intro U h; simp only [z0, z1] at h; subst h
        refine s_gvalY 22 rfl rfl y3 rfl (.pointer (some ⟨g3, 34, none⟩)) (run_fld 42 _ 3 rfl g3 0 rfl 34 (by kernel_rfl)) ?_
        refine nr ?_; intro U h; simp only [z0, z1] at h; subst h
        refine s_gvalY 23 rfl rfl y3 rfl (.int .i64 b.n) (ldDn _ rfl g3 rfl (kg3)) ?_
        refine nr ?_; intro U h; simp only [z0, z1] at h; subst h
        refine s_gvalY 24 rfl rfl y3 rfl (.bool true) (run_eq_k 3 .i64 _ _ _ rfl Try.underlying3 b.n (-1) rfl rfl true h3 _) ?_
        refine nr ?_; intro U h; simp only [z0, z1] at h; subst h
        refine s_val 25 rfl rfl (.bool true) (rfl) ?_
        refine nr ?_; intro U h; simp only [z0, z1] at h; subst h
        refine wpList_nil ?_
        refine then_n ?_
        refine wp_cond_true rfl ?_
        refine wp_seq ?_
        refine wp_region_opq ?_
        intro OPS hY
        have y3 := hY 3 29 rfl
        clear hY
        refine s_val 26 rfl rfl (.pointer (some ⟨g2, 34, none⟩)) (run_fld 42 _ 3 rfl g2 0 rfl 34 (by kernel_rfl)) ?_
        refine nr ?_; intro U h; simp only [z0, z1] at h; subst h
        refine s_val 27 rfl rfl (.int .i64 a.n) (ldDn _ rfl g2 rfl (kg2)) ?_
        refine nr ?_; intro U h; simp only [z0, z1] at h; subst h
        refine s_val 28 rfl rfl (.bool false) (run_eq_k 3 .i64 _ _ _ rfl Try.underlying3 a.n (-1) rfl rfl false h2 _) ?_
        refine nr ?_; intro U h; simp only [z0, z1] at h; subst h
        refine s_val 29 rfl rfl (.bool false) (rfl) ?_
        refine nr ?_; intro U h; simp only [z0, z1] at h; subst h
        refine s_skipY 30 rfl rfl y3 rfl ?_
        refine nr ?_; intro U h; simp only [z0, z1] at h; subst h
        refine s_skipY 31 rfl rfl y3 rfl ?_
        refine nr ?_; intro U h; simp only [z0, z1] at h; subst h
        refine s_skipY 32 rfl rfl y3 rfl ?_
        refine nr ?_; intro U h; simp only [z0, z1] at h; subst h
        refine s_val 33 rfl rfl (.bool false) (rfl) ?_
        refine nr ?_; intro U h; simp only [z0, z1] at h; subst h
        refine s_val 6 rfl rfl (.bool false) (rfl) ?_
        refine nr ?_; intro U h; simp only [z0, z1] at h; subst h
        refine wpList_nil ?_
        refine then_n ?_
        refine wp_ret ?_
        refine then_r ?_
        refine bodyPost_ret (results_tmp Try.results17 _ _ _) rfl ?_
        refine ⟨congrArg (fun b => Ending.returned (.bool b)) ?_, GG⟩
        symm
        rw [befD_d]
        rw [if_pos (of_decide_eq_true h1)]
        rw [h2, h3]
        exact (if_pos rfl).trans rfl
    · cases h3 : decide (b.n = -1)
      · refine wp_region_opq ?_
        intro OPS hY
        have y3 := hY 3 21 rfl
        clear hY
        refine s_val 18 rfl rfl (.pointer (some ⟨g2, 34, none⟩)) (run_fld 42 _ 3 rfl g2 0 rfl 34 (by kernel_rfl)) ?_
        refine nr ?_; intro U h; simp only [z0, z1] at h; subst h
        refine s_val 19 rfl rfl (.int .i64 a.n) (ldDn _ rfl g2 rfl (kg2)) ?_
        refine nr ?_; intro U h; simp only [z0, z1] at h; subst h
        refine s_val 20 rfl rfl (.bool true) (run_eq_k 3 .i64 _ _ _ rfl Try.underlying3 a.n (-1) rfl rfl true h2 _) ?_
        refine nr ?_; intro U h; simp only [z0, z1] at h; subst h
        refine s_val 21 rfl rfl (.bool true) (rfl) ?_
        refine nr ?_; intro U h; simp only [z0, z1] at h; subst h
        refine s_skipY 22 rfl rfl y3 rfl ?_
        refine nr ?_; intro U h; simp only [z0, z1] at h; subst h
        refine s_skipY 23 rfl rfl y3 rfl ?_
        refine nr ?_; intro U h; simp only [z0, z1] at h; subst h
        refine s_skipY 24 rfl rfl y3 rfl ?_
        refine nr ?_; intro U h; simp only [z0, z1] at h; subst h
        refine s_val 25 rfl rfl (.bool true) (rfl) ?_
        refine nr ?_; intro U h; simp only [z0, z1] at h; subst h
        refine wpList_nil ?_
        refine then_n ?_
        refine wp_cond_true rfl ?_
        refine wp_seq ?_
        refine wp_region_opq ?_
        intro OPS hY
        have y3 := hY 3 29 rfl
        clear hY
        refine s_val 26 rfl rfl (.pointer (some ⟨g2, 34, none⟩)) (run_fld 42 _ 3 rfl g2 0 rfl 34 (by kernel_rfl)) ?_
        refine nr ?_; intro U h; simp only [z0, z1] at h; subst h
        refine s_val 27 rfl rfl (.int .i64 a.n) (ldDn _ rfl g2 rfl (kg2)) ?_
        refine nr ?_; intro U h; simp only [z0, z1] at h; subst h
        refine s_val 28 rfl rfl (.bool true) (run_eq_k 3 .i64 _ _ _ rfl Try.underlying3 a.n (-1) rfl rfl true h2 _) ?_
        refine nr ?_; intro U h; simp only [z0, z1] at h; subst h
        refine s_val 29 rfl rfl (.bool true) (rfl) ?_
        refine nr ?_; intro U h; simp only [z0, z1] at h; subst h
        refine s_gvalY 30 rfl rfl y3 rfl (.pointer (some ⟨g3, 34, none⟩)) (run_fld 42 _ 3 rfl g3 0 rfl 34 (by kernel_rfl)) ?_
        refine nr ?_; intro U h; simp only [z0, z1] at h; subst h
        refine s_gvalY 31 rfl rfl y3 rfl (.int .i64 b.n) (ldDn _ rfl g3 rfl (kg3)) ?_
        refine nr ?_; intro U h; simp only [z0, z1] at h; subst h
        refine s_gvalY 32 rfl rfl y3 rfl (.bool true) (run_neq_k 3 .i64 _ _ _ rfl Try.underlying3 b.n (-1) rfl rfl true h3 _) ?_
        refine nr ?_; intro U h; simp only [z0, z1] at h; subst h
        refine s_val 33 rfl rfl (.bool true) (rfl) ?_
        refine nr ?_; intro U h; simp only [z0, z1] at h; subst h
        refine s_val 6 rfl rfl (.bool true) (rfl) ?_
        refine nr ?_; intro U h; simp only [z0, z1] at h; subst h
        refine wpList_nil ?_
        refine then_n ?_
        refine wp_ret ?_
        refine then_r ?_
        refine bodyPost_ret (results_tmp Try.results17 _ _ _) rfl ?_
        refine ⟨congrArg (fun b => Ending.returned (.bool b)) ?_, GG⟩
        symm
        rw [befD_d]
        rw [if_pos (of_decide_eq_true h1)]
        rw [h2, h3]
        exact (if_pos rfl).trans rfl
      · refine wp_region_opq ?_
        intro OPS hY
        have y3 := hY 3 21 rfl
        clear hY
        refine s_val 18 rfl rfl (.pointer (some ⟨g2, 34, none⟩)) (run_fld 42 _ 3 rfl g2 0 rfl 34 (by kernel_rfl)) ?_
        refine nr ?_; intro U h; simp only [z0, z1] at h; subst h
        refine s_val 19 rfl rfl (.int .i64 a.n) (ldDn _ rfl g2 rfl (kg2)) ?_
        refine nr ?_; intro U h; simp only [z0, z1] at h; subst h
        refine s_val 20 rfl rfl (.bool true) (run_eq_k 3 .i64 _ _ _ rfl Try.underlying3 a.n (-1) rfl rfl true h2 _) ?_
        refine nr ?_; intro U h; simp only [z0, z1] at h; subst h
        refine s_val 21 rfl rfl (.bool true) (rfl) ?_
        refine nr ?_; intro U h; simp only [z0, z1] at h; subst h
        refine s_skipY 22 rfl rfl y3 rfl ?_
        refine nr ?_; intro U h; simp only [z0, z1] at h; subst h
        refine s_skipY 23 rfl rfl y3 rfl ?_
        refine nr ?_; intro U h; simp only [z0, z1] at h; subst h
        refine s_skipY 24 rfl rfl y3 rfl ?_
        refine nr ?_; intro U h; simp only [z0, z1] at h; subst h
        refine s_val 25 rfl rfl (.bool true) (rfl) ?_
        refine nr ?_; intro U h; simp only [z0, z1] at h; subst h
        refine wpList_nil ?_
        refine then_n ?_
        refine wp_cond_true rfl ?_
        refine wp_seq ?_
        refine wp_region_opq ?_
        intro OPS hY
        have y3 := hY 3 29 rfl
        clear hY
        refine s_val 26 rfl rfl (.pointer (some ⟨g2, 34, none⟩)) (run_fld 42 _ 3 rfl g2 0 rfl 34 (by kernel_rfl)) ?_
        refine nr ?_; intro U h; simp only [z0, z1] at h; subst h
        refine s_val 27 rfl rfl (.int .i64 a.n) (ldDn _ rfl g2 rfl (kg2)) ?_
        refine nr ?_; intro U h; simp only [z0, z1] at h; subst h
        refine s_val 28 rfl rfl (.bool true) (run_eq_k 3 .i64 _ _ _ rfl Try.underlying3 a.n (-1) rfl rfl true h2 _) ?_
        refine nr ?_; intro U h; simp only [z0, z1] at h; subst h
        refine s_val 29 rfl rfl (.bool true) (rfl) ?_
        refine nr ?_; intro U h; simp only [z0, z1] at h; subst h
        refine s_gvalY 30 rfl rfl y3 rfl (.pointer (some ⟨g3, 34, none⟩)) (run_fld 42 _ 3 rfl g3 0 rfl 34 (by kernel_rfl)) ?_
        refine nr ?_; intro U h; simp only [z0, z1] at h; subst h
        refine s_gvalY 31 rfl rfl y3 rfl (.int .i64 b.n) (ldDn _ rfl g3 rfl (kg3)) ?_
        refine nr ?_; intro U h; simp only [z0, z1] at h; subst h
        refine s_gvalY 32 rfl rfl y3 rfl (.bool false) (run_neq_k 3 .i64 _ _ _ rfl Try.underlying3 b.n (-1) rfl rfl false h3 _) ?_
        refine nr ?_; intro U h; simp only [z0, z1] at h; subst h
        refine s_val 33 rfl rfl (.bool false) (rfl) ?_
        refine nr ?_; intro U h; simp only [z0, z1] at h; subst h
        refine s_val 6 rfl rfl (.bool false) (rfl) ?_
        refine nr ?_; intro U h; simp only [z0, z1] at h; subst h
        refine wpList_nil ?_
        refine then_n ?_
        refine wp_ret ?_
        refine then_r ?_
        refine bodyPost_ret (results_tmp Try.results17 _ _ _) rfl ?_
        refine ⟨congrArg (fun b => Ending.returned (.bool b)) ?_, GG⟩
        symm
        rw [befD_d]
        rw [if_pos (of_decide_eq_true h1)]
        rw [h2, h3]
        exact (if_pos rfl).trans rfl
set_option maxRecDepth 100000 in
set_option maxHeartbeats 4000000 in
theorem samec_any (a b : Ch) (ha : a.ok) (hb : b.ok) (w : World) : Calls Try.prog 13 #[.agg (chA a), .agg (chA b)] w (fun e w' => e = .returned (.bool (decide (a = b))) ∧ Gro w w') := by
  refine s_enter Try.func13 rfl Try.ntmps13 [.agg (chA a), .agg (chA b)] [.agg (chA a), .agg (chA b), undef, undef, undef, undef, undef, undef, undef, undef, undef, undef, undef, undef, undef, undef, undef, undef, undef, undef, undef, undef, undef, undef, undef, undef, undef, undef, undef, undef, undef] rfl ?_
  have GG := Gro.refl w
  refine wp_seq ?_
  refine wp_region_lit ?_
  refine s_box 2 rfl rfl 40 _ rfl _ rfl (chA a) rfl ?_
  intro w1 g1 G eg1 kg1
  have bg1 := size_base GG eg1
  replace GG := GG.trans G
  clear G
  clear eg1
  refine nr ?_; intro U h; simp only [z0, z1] at h; subst h
  refine s_box 3 rfl rfl 42 _ rfl _ rfl (chA b) rfl ?_
  intro w2 g2 G eg2 kg2
  have bg2 := size_base GG eg2
  have dg1g2 := lt_new kg1 eg2
  replace kg1 := G.has kg1
  replace GG := GG.trans G
  clear G
  clear eg2
  refine nr ?_; intro U h; simp only [z0, z1] at h; subst h
  refine s_val 4 rfl rfl (.bool false) (rfl) ?_
  refine nr ?_; intro U h; simp only [z0, z1] at h; subst h
  refine wpList_nil ?_
  refine then_n ?_
  refine wp_seq ?_
  cases h1 : decide (a.id = b.id)
  · refine wp_region_opq ?_
    intro OPS hY
    have y5 := hY 5 10 rfl
    have y12 := hY 12 17 rfl
    have y19 := hY 19 24 rfl
    clear hY
    refine s_val 5 rfl rfl (.pointer (some ⟨g1, 0, none⟩)) (run_fld 40 _ 0 rfl g1 0 rfl 0 (by kernel_rfl)) ?_
    refine nr ?_; intro U h; simp only [z0, z1] at h; subst h
    refine s_val 6 rfl rfl (.agg (idA a.id)) (ldCi _ rfl g1 rfl (kg1)) ?_
    refine nr ?_; intro U h; simp only [z0, z1] at h; subst h
    refine s_val 7 rfl rfl (.pointer (some ⟨g2, 0, none⟩)) (run_fld 42 _ 0 rfl g2 0 rfl 0 (by kernel_rfl)) ?_
    refine nr ?_; intro U h; simp only [z0, z1] at h; subst h
    refine s_val 8 rfl rfl (.agg (idA b.id)) (ldDi _ rfl g2 rfl (kg2)) ?_
    refine nr ?_; intro U h; simp only [z0, z1] at h; subst h
    refine s_val 9 rfl rfl (.bool false) (run_eqI _ _ _ rfl _ _ rfl rfl ha.id hb.id false h1) ?_
    refine nr ?_; intro U h; simp only [z0, z1] at h; subst h
    refine s_val 10 rfl rfl (.bool false) (rfl) ?_
    refine nr ?_; intro U h; simp only [z0, z1] at h; subst h
    refine s_skipY 11 rfl rfl y5 rfl ?_
    refine nr ?_; intro U h; simp only [z0, z1] at h; subst h
    refine s_skipY 12 rfl rfl y5 rfl ?_
    refine nr ?_; intro U h; simp only [z0, z1] at h; subst h
    refine s_skipY 13 rfl rfl y5 rfl ?_
    refine nr ?_; intro U h; simp only [z0, z1] at h; subst h
    refine s_skipY 14 rfl rfl y5 rfl ?_
    refine nr ?_; intro U h; simp only [z0, z1] at h; subst h
    refine s_skipY 15 rfl rfl y5 rfl ?_
    refine nr ?_; intro U h; simp only [z0, z1] at h; subst h
    refine s_val 16 rfl rfl (.bool false) (rfl) ?_
    refine nr ?_; intro U h; simp only [z0, z1] at h; subst h
    refine s_val 17 rfl rfl (.bool false) (rfl) ?_
    refine nr ?_; intro U h; simp only [z0, z1] at h; subst h
    refine s_skipY 18 rfl rfl y12 rfl ?_
    refine nr ?_; intro U h; simp only [z0, z1] at h; subst h
    refine s_skipY 19 rfl rfl y12 rfl ?_
    refine nr ?_; intro U h; simp only [z0, z1] at h; subst h
    refine s_skipY 20 rfl rfl y12 rfl ?_
    refine nr ?_; intro U h; simp only [z0, z1] at h; subst h
    refine s_skipY 21 rfl rfl y12 rfl ?_
    refine nr ?_; intro U h; simp only [z0, z1] at h; subst h
    refine s_skipY 22 rfl rfl y12 rfl ?_
    refine nr ?_; intro U h; simp only [z0, z1] at h; subst h
    refine s_val 23 rfl rfl (.bool false) (rfl) ?_
    refine nr ?_; intro U h; simp only [z0, z1] at h; subst h
    refine s_val 24 rfl rfl (.bool false) (rfl) ?_
    refine nr ?_; intro U h; simp only [z0, z1] at h; subst h
    refine s_skipY 25 rfl rfl y19 rfl ?_
    refine nr ?_; intro U h; simp only [z0, z1] at h; subst h
    refine s_skipY 26 rfl rfl y19 rfl ?_
    refine nr ?_; intro U h; simp only [z0, z1] at h; subst h
    refine s_skipY 27 rfl rfl y19 rfl ?_
    refine nr ?_; intro U h; simp only [z0, z1] at h; subst h
    refine s_skipY 28 rfl rfl y19 rfl ?_
    refine nr ?_; intro U h; simp only [z0, z1] at h; subst h
    refine s_skipY 29 rfl rfl y19 rfl ?_
    refine nr ?_; intro U h; simp only [z0, z1] at h; subst h
    refine s_val 30 rfl rfl (.bool false) (rfl) ?_
    refine nr ?_; intro U h; simp only [z0, z1] at h; subst h
    refine s_val 4 rfl rfl (.bool false) (rfl) ?_
    refine nr ?_; intro U h; simp only [z0, z1] at h; subst h
    refine wpList_nil ?_
    refine then_n ?_
    refine wp_ret ?_
    refine bodyPost_ret (results_tmp Try.results13 _ _ _) rfl ?_
    refine ⟨congrArg (fun b => Ending.returned (.bool b)) ?_, GG⟩
    rw [ch_eq, h1]
    rfl
  · cases h2 : decide (a.near = b.near)
    · refine wp_region_opq ?_
      intro OPS hY
      have y5 := hY 5 10 rfl
      have y12 := hY 12 17 rfl
      have y19 := hY 19 24 rfl
      clear hY
      refine s_val 5 rfl rfl (.pointer (some ⟨g1, 0, none⟩)) (run_fld 40 _ 0 rfl g1 0 rfl 0 (by kernel_rfl)) ?_
      refine nr ?_; intro U h; simp only [z0, z1] at h; subst h
      refine s_val 6 rfl rfl (.agg (idA a.id)) (ldCi _ rfl g1 rfl (kg1)) ?_
      refine nr ?_; intro U h; simp only [z0, z1] at h; subst h
      refine s_val 7 rfl rfl (.pointer (some ⟨g2, 0, none⟩)) (run_fld 42 _ 0 rfl g2 0 rfl 0 (by kernel_rfl)) ?_
      refine nr ?_; intro U h; simp only [z0, z1] at h; subst h
      refine s_val 8 rfl rfl (.agg (idA b.id)) (ldDi _ rfl g2 rfl (kg2)) ?_
      refine nr ?_; intro U h; simp only [z0, z1] at h; subst h
      refine s_val 9 rfl rfl (.bool true) (run_eqI _ _ _ rfl _ _ rfl rfl ha.id hb.id true h1) ?_
      refine nr ?_; intro U h; simp only [z0, z1] at h; subst h
      refine s_val 10 rfl rfl (.bool true) (rfl) ?_
      refine nr ?_; intro U h; simp only [z0, z1] at h; subst h
      refine s_gvalY 11 rfl rfl y5 rfl (.pointer (some ⟨g1, 16, none⟩)) (run_fld 40 _ 1 rfl g1 0 rfl 16 (by kernel_rfl)) ?_
      refine nr ?_; intro U h; simp only [z0, z1] at h; subst h
      refine s_gvalY 12 rfl rfl y5 rfl (.bool a.near) (ldCb _ rfl g1 rfl (kg1) a.near rfl) ?_
      refine nr ?_; intro U h; simp only [z0, z1] at h; subst h
      refine s_gvalY 13 rfl rfl y5 rfl (.pointer (some ⟨g2, 16, none⟩)) (run_fld 42 _ 1 rfl g2 0 rfl 16 (by kernel_rfl)) ?_
      refine nr ?_; intro U h; simp only [z0, z1] at h; subst h
      refine s_gvalY 14 rfl rfl y5 rfl (.bool b.near) (ldDb _ rfl g2 rfl (kg2) b.near rfl) ?_
      refine nr ?_; intro U h; simp only [z0, z1] at h; subst h
      refine s_gvalY 15 rfl rfl y5 rfl (.bool false) (run_eqB 4 _ _ _ rfl a.near b.near rfl rfl Try.underlying4 false h2 _) ?_
      refine nr ?_; intro U h; simp only [z0, z1] at h; subst h
      refine s_val 16 rfl rfl (.bool false) (rfl) ?_
      refine nr ?_; intro U h; simp only [z0, z1] at h; subst h
      refine s_val 17 rfl rfl (.bool false) (rfl) ?_
      refine nr ?_; intro U h; simp only [z0, z1] at h; subst h
      refine s_skipY 18 rfl rfl y12 rfl ?_
      refine nr ?_; intro U h; simp only [z0, z1] at h; subst h
      refine s_skipY 19 rfl rfl y12 rfl ?_
      refine nr ?_; intro U h; simp only [z0, z1] at h; subst h
      refine s_skipY 20 rfl rfl y12 rfl ?_
      refine nr ?_; intro U h; simp only [z0, z1] at h; subst h
      refine s_skipY 21 rfl rfl y12 rfl ?_
      refine nr ?_; intro U h; simp only [z0, z1] at h; subst h
      refine s_skipY 22 rfl rfl y12 rfl ?_
      refine nr ?_; intro U h; simp only [z0, z1] at h; subst h
      refine s_val 23 rfl rfl (.bool false) (rfl) ?_
      refine nr ?_; intro U h; simp only [z0, z1] at h; subst h
      refine s_val 24 rfl rfl (.bool false) (rfl) ?_
      refine nr ?_; intro U h; simp only [z0, z1] at h; subst h
      refine s_skipY 25 rfl rfl y19 rfl ?_
      refine nr ?_; intro U h; simp only [z0, z1] at h; subst h
      refine s_skipY 26 rfl rfl y19 rfl ?_
      refine nr ?_; intro U h; simp only [z0, z1] at h; subst h
      refine s_skipY 27 rfl rfl y19 rfl ?_
      refine nr ?_; intro U h; simp only [z0, z1] at h; subst h
      refine s_skipY 28 rfl rfl y19 rfl ?_
      refine nr ?_; intro U h; simp only [z0, z1] at h; subst h
      refine s_skipY 29 rfl rfl y19 rfl ?_
      refine nr ?_; intro U h; simp only [z0, z1] at h; subst h
      refine s_val 30 rfl rfl (.bool false) (rfl) ?_
      refine nr ?_; intro U h; simp only [z0, z1] at h; subst h
      refine s_val 4 rfl rfl (.bool false) (rfl) ?_
      refine nr ?_; intro U h; simp only [z0, z1] at h; subst h
      refine wpList_nil ?_
      refine then_n ?_
      refine wp_ret ?_
      refine bodyPost_ret (results_tmp Try.results13 _ _ _) rfl ?_
      refine ⟨congrArg (fun b => Ending.returned (.bool b)) ?_, GG⟩
      rw [ch_eq, h1, h2]
      rfl
    · cases h3 : decide (a.p = b.p)
      · refine wp_region_opq ?_
        intro OPS hY
        have y5 := hY 5 10 rfl
        have y12 := hY 12 17 rfl
        have y19 := hY 19 24 rfl
        clear hY
        refine s_val 5 rfl rfl (.pointer (some ⟨g1, 0, none⟩)) (run_fld 40 _ 0 rfl g1 0 rfl 0 (by kernel_rfl)) ?_
        refine nr ?_; intro U h; simp only [z0, z1] at h; subst h
        refine s_val 6 rfl rfl (.agg (idA a.id)) (ldCi _ rfl g1 rfl (kg1)) ?_
        refine nr ?_; intro U h; simp only [z0, z1] at h; subst h
        refine s_val 7 rfl rfl (.pointer (some ⟨g2, 0, none⟩)) (run_fld 42 _ 0 rfl g2 0 rfl 0 (by kernel_rfl)) ?_
        refine nr ?_; intro U h; simp only [z0, z1] at h; subst h
        refine s_val 8 rfl rfl (.agg (idA b.id)) (ldDi _ rfl g2 rfl (kg2)) ?_
        refine nr ?_; intro U h; simp only [z0, z1] at h; subst h
        refine s_val 9 rfl rfl (.bool true) (run_eqI _ _ _ rfl _ _ rfl rfl ha.id hb.id true h1) ?_
        refine nr ?_; intro U h; simp only [z0, z1] at h; subst h
        refine s_val 10 rfl rfl (.bool true) (rfl) ?_
        refine nr ?_; intro U h; simp only [z0, z1] at h; subst h
        refine s_gvalY 11 rfl rfl y5 rfl (.pointer (some ⟨g1, 16, none⟩)) (run_fld 40 _ 1 rfl g1 0 rfl 16 (by kernel_rfl)) ?_
        refine nr ?_; intro U h; simp only [z0, z1] at h; subst h
        refine s_gvalY 12 rfl rfl y5 rfl (.bool a.near) (ldCb _ rfl g1 rfl (kg1) a.near rfl) ?_
        refine nr ?_; intro U h; simp only [z0, z1] at h; subst h
        refine s_gvalY 13 rfl rfl y5 rfl (.pointer (some ⟨g2, 16, none⟩)) (run_fld 42 _ 1 rfl g2 0 rfl 16 (by kernel_rfl)) ?_
        refine nr ?_; intro U h; simp only [z0, z1] at h; subst h
        refine s_gvalY 14 rfl rfl y5 rfl (.bool b.near) (ldDb _ rfl g2 rfl (kg2) b.near rfl) ?_
        refine nr ?_; intro U h; simp only [z0, z1] at h; subst h
        refine s_gvalY 15 rfl rfl y5 rfl (.bool true) (run_eqB 4 _ _ _ rfl a.near b.near rfl rfl Try.underlying4 true h2 _) ?_
        refine nr ?_; intro U h; simp only [z0, z1] at h; subst h
        refine s_val 16 rfl rfl (.bool true) (rfl) ?_
        refine nr ?_; intro U h; simp only [z0, z1] at h; subst h
        refine s_val 17 rfl rfl (.bool true) (rfl) ?_
        refine nr ?_; intro U h; simp only [z0, z1] at h; subst h
        refine s_gvalY 18 rfl rfl y12 rfl (.pointer (some ⟨g1, 17, none⟩)) (run_fld 40 _ 2 rfl g1 0 rfl 17 (by kernel_rfl)) ?_
        refine nr ?_; intro U h; simp only [z0, z1] at h; subst h
        refine s_gvalY 19 rfl rfl y12 rfl (.agg (paA a.p)) (ldCp _ rfl g1 rfl (kg1)) ?_
        refine nr ?_; intro U h; simp only [z0, z1] at h; subst h
        refine s_gvalY 20 rfl rfl y12 rfl (.pointer (some ⟨g2, 17, none⟩)) (run_fld 42 _ 2 rfl g2 0 rfl 17 (by kernel_rfl)) ?_
        refine nr ?_; intro U h; simp only [z0, z1] at h; subst h
        refine s_gvalY 21 rfl rfl y12 rfl (.agg (paA b.p)) (ldDp _ rfl g2 rfl (kg2)) ?_
        refine nr ?_; intro U h; simp only [z0, z1] at h; subst h
        refine s_gvalY 22 rfl rfl y12 rfl (.bool false) (run_eqP _ _ _ rfl _ _ rfl rfl ha.p hb.p false h3) ?_
        refine nr ?_; intro U h; simp only [z0, z1] at h; subst h
        refine s_val 23 rfl rfl (.bool false) (rfl) ?_
        refine nr ?_; intro U h; simp only [z0, z1] at h; subst h
        refine s_val 24 rfl rfl (.bool false) (rfl) ?_
        refine nr ?_; intro U h; simp only [z0, z1] at h; subst h
        refine s_skipY 25 rfl rfl y19 rfl ?_
        refine nr ?_; intro U h; simp only [z0, z1] at h; subst h
        refine s_skipY 26 rfl rfl y19 rfl ?_
        refine nr ?_; intro U h; simp only [z0, z1] at h; subst h
        refine s_skipY 27 rfl rfl y19 rfl ?_
        refine nr ?_; intro U h; simp only [z0, z1] at h; subst h
        refine s_skipY 28 rfl rfl y19 rfl ?_
        refine nr ?_; intro U h; simp only [z0, z1] at h; subst h
        refine s_skipY 29 rfl rfl y19 rfl ?_
        refine nr ?_; intro U h; simp only [z0, z1] at h; subst h
        refine s_val 30 rfl rfl (.bool false) (rfl) ?_
        refine nr ?_; intro U h; simp only [z0, z1] at h; subst h
        refine s_val 4 rfl rfl (.bool false) (rfl) ?_
        refine nr ?_; intro U h; simp only [z0, z1] at h; subst h
        refine wpList_nil ?_
        refine then_n ?_
        refine wp_ret ?_
        refine bodyPost_ret (results_tmp Try.results13 _ _ _) rfl ?_
        refine ⟨congrArg (fun b => Ending.returned (.bool b)) ?_, GG⟩
        rw [ch_eq, h1, h2, h3]
        rfl
      · cases h4 : decide (a.n = b.n)
        · refine wp_region_opq ?_
          intro OPS hY
          have y5 := hY 5 10 rfl
          have y12 := hY 12 17 rfl
          have y19 := hY 19 24 rfl
          clear hY
          refine s_val 5 rfl rfl (.pointer (some ⟨g1, 0, none⟩)) (run_fld 40 _ 0 rfl g1 0 rfl 0 (by kernel_rfl)) ?_
          refine nr ?_; intro U h; simp only [z0, z1] at h; subst h
          refine s_val 6 rfl rfl (.agg (idA a.id)) (ldCi _ rfl g1 rfl (kg1)) ?_
          refine nr ?_; intro U h; simp only [z0, z1] at h; subst h
          refine s_val 7 rfl rfl (.pointer (some ⟨g2, 0, none⟩)) (run_fld 42 _ 0 rfl g2 0 rfl 0 (by kernel_rfl)) ?_
          refine nr ?_; intro U h; simp only [z0, z1] at h; subst h
          refine s_val 8 rfl rfl (.agg (idA b.id)) (ldDi _ rfl g2 rfl (kg2)) ?_
          refine nr ?_; intro U h; simp only [z0, z1] at h; subst h
          refine s_val 9 rfl rfl (.bool true) (run_eqI _ _ _ rfl _ _ rfl rfl ha.id hb.id true h1) ?_
          refine nr ?_; intro U h; simp only [z0, z1] at h; subst h
          refine s_val 10 rfl rfl (.bool true) (rfl) ?_
          refine nr ?_; intro U h; simp only [z0, z1] at h; subst h
          refine s_gvalY 11 rfl rfl y5 rfl (.pointer (some ⟨g1, 16, none⟩)) (run_fld 40 _ 1 rfl g1 0 rfl 16 (by kernel_rfl)) ?_
          refine nr ?_; intro U h; simp only [z0, z1] at h; subst h
          refine s_gvalY 12 rfl rfl y5 rfl (.bool a.near) (ldCb _ rfl g1 rfl (kg1) a.near rfl) ?_
          refine nr ?_; intro U h; simp only [z0, z1] at h; subst h
          refine s_gvalY 13 rfl rfl y5 rfl (.pointer (some ⟨g2, 16, none⟩)) (run_fld 42 _ 1 rfl g2 0 rfl 16 (by kernel_rfl)) ?_
          refine nr ?_; intro U h; simp only [z0, z1] at h; subst h
          refine s_gvalY 14 rfl rfl y5 rfl (.bool b.near) (ldDb _ rfl g2 rfl (kg2) b.near rfl) ?_
          refine nr ?_; intro U h; simp only [z0, z1] at h; subst h
          refine s_gvalY 15 rfl rfl y5 rfl (.bool true) (run_eqB 4 _ _ _ rfl a.near b.near rfl rfl Try.underlying4 true h2 _) ?_
          refine nr ?_; intro U h; simp only [z0, z1] at h; subst h
          refine s_val 16 rfl rfl (.bool true) (rfl) ?_
          refine nr ?_; intro U h; simp only [z0, z1] at h; subst h
          refine s_val 17 rfl rfl (.bool true) (rfl) ?_
          refine nr ?_; intro U h; simp only [z0, z1] at h; subst h
          refine s_gvalY 18 rfl rfl y12 rfl (.pointer (some ⟨g1, 17, none⟩)) (run_fld 40 _ 2 rfl g1 0 rfl 17 (by kernel_rfl)) ?_
          refine nr ?_; intro U h; simp only [z0, z1] at h; subst h
          refine s_gvalY 19 rfl rfl y12 rfl (.agg (paA a.p)) (ldCp _ rfl g1 rfl (kg1)) ?_
          refine nr ?_; intro U h; simp only [z0, z1] at h; subst h
          refine s_gvalY 20 rfl rfl y12 rfl (.pointer (some ⟨g2, 17, none⟩)) (run_fld 42 _ 2 rfl g2 0 rfl 17 (by kernel_rfl)) ?_
          refine nr ?_; intro U h; simp only [z0, z1] at h; subst h
          refine s_gvalY 21 rfl rfl y12 rfl (.agg (paA b.p)) (ldDp _ rfl g2 rfl (kg2)) ?_
          refine nr ?_; intro U h; simp only [z0, z1] at h; subst h
          refine s_gvalY 22 rfl rfl y12 rfl (.bool true) (run_eqP _ _ _ rfl _ _ rfl rfl ha.p hb.p true h3) ?_
          refine nr ?_; intro U h; simp only [z0, z1] at h; subst h
          refine s_val 23 rfl rfl (.bool true) (rfl) ?_
          refine nr ?_; intro U h; simp only [z0, z1] at h; subst h
          refine s_val 24 rfl rfl (.bool true) (rfl) ?_
          refine nr ?_; intro U h; simp only [z0, z1] at h; subst h
          refine s_gvalY 25 rfl rfl y19 rfl (.pointer (some ⟨g1, 34, none⟩)) (run_fld 40 _ 3 rfl g1 0 rfl 34 (by kernel_rfl)) ?_
          refine nr ?_; intro U h; simp only [z0, z1] at h; subst h
          refine s_gvalY 26 rfl rfl y19 rfl (.int .i64 a.n) (ldCn _ rfl g1 rfl (kg1)) ?_
          refine nr ?_; intro U h; simp only [z0, z1] at h; subst h
          refine s_gvalY 27 rfl rfl y19 rfl (.pointer (some ⟨g2, 34, none⟩)) (run_fld 42 _ 3 rfl g2 0 rfl 34 (by kernel_rfl)) ?_
          refine nr ?_; intro U h; simp only [z0, z1] at h; subst h
          refine s_gvalY 28 rfl rfl y19 rfl (.int .i64 b.n) (ldDn _ rfl g2 rfl (kg2)) ?_
          refine nr ?_; intro U h; simp only [z0, z1] at h; subst h
          refine s_gvalY 29 rfl rfl y19 rfl (.bool false) (run_eq_k 3 .i64 _ _ _ rfl Try.underlying3 a.n b.n rfl rfl false h4 _) ?_
          refine nr ?_; intro U h; simp only [z0, z1] at h; subst h
          refine s_val 30 rfl rfl (.bool false) (rfl) ?_
          refine nr ?_; intro U h; simp only [z0, z1] at h; subst h
          refine s_val 4 rfl rfl (.bool false) (rfl) ?_
          refine nr ?_; intro U h; simp only [z0, z1] at h; subst h
          refine wpList_nil ?_
          refine then_n ?_
          refine wp_ret ?_
          refine bodyPost_ret (results_tmp Try.results13 _ _ _) rfl ?_
          refine ⟨congrArg (fun b => Ending.returned (.bool b)) ?_, GG⟩
          rw [ch_eq, h1, h2, h3, h4]
          rfl
        · refine wp_region_opq ?_
          intro OPS hY
          have y5 := hY 5 10 rfl
          have y12 := hY 12 17 rfl
          have y19 := hY 19 24 rfl
          clear hY
          refine s_val 5 rfl rfl (.pointer (some ⟨g1, 0, none⟩)) (run_fld 40 _ 0 rfl g1 0 rfl 0 (by kernel_rfl)) ?_
          refine nr ?_; intro U h; simp only [z0, z1] at h; subst h
          refine s_val 6 rfl rfl (.agg (idA a.id)) (ldCi _ rfl g1 rfl (kg1)) ?_
          refine nr ?_; intro U h; simp only [z0, z1] at h; subst h
          refine s_val 7 rfl rfl (.pointer (some ⟨g2, 0, none⟩)) (run_fld 42 _ 0 rfl g2 0 rfl 0 (by kernel_rfl)) ?_
          refine nr ?_; intro U h; simp only [z0, z1] at h; subst h
          refine s_val 8 rfl rfl (.agg (idA b.id)) (ldDi _ rfl g2 rfl (kg2)) ?_
          refine nr ?_; intro U h; simp only [z0, z1] at h; subst h
          refine s_val 9 rfl rfl (.bool true) (run_eqI _ _ _ rfl _ _ rfl rfl ha.id hb.id true h1) ?_
          refine nr ?_; intro U h; simp only [z0, z1] at h; subst h
          refine s_val 10 rfl rfl (.bool true) (rfl) ?_
          refine nr ?_; intro U h; simp only [z0, z1] at h; subst h
          refine s_gvalY 11 rfl rfl y5 rfl (.pointer (some ⟨g1, 16, none⟩)) (run_fld 40 _ 1 rfl g1 0 rfl 16 (by kernel_rfl)) ?_
          refine nr ?_; intro U h; simp only [z0, z1] at h; subst h
          refine s_gvalY 12 rfl rfl y5 rfl (.bool a.near) (ldCb _ rfl g1 rfl (kg1) a.near rfl) ?_
          refine nr ?_; intro U h; simp only [z0, z1] at h; subst h
          refine s_gvalY 13 rfl rfl y5 rfl (.pointer (some ⟨g2, 16, none⟩)) (run_fld 42 _ 1 rfl g2 0 rfl 16 (by kernel_rfl)) ?_
          refine nr ?_; intro U h; simp only [z0, z1] at h; subst h
          refine s_gvalY 14 rfl rfl y5 rfl (.bool b.near) (ldDb _ rfl g2 rfl (kg2) b.near rfl) ?_
          refine nr ?_; intro U h; simp only [z0, z1] at h; subst h
          refine s_gvalY 15 rfl rfl y5 rfl (.bool true) (run_eqB 4 _ _ _ rfl a.near b.near rfl rfl Try.underlying4 true h2 _) ?_
          refine nr ?_; intro U h; simp only [z0, z1] at h; subst h
          refine s_val 16 rfl rfl (.bool true) (rfl) ?_
          refine nr ?_; intro U h; simp only [z0, z1] at h; subst h
          refine s_val 17 rfl rfl (.bool true) (rfl) ?_
          refine nr ?_; intro U h; simp only [z0, z1] at h; subst h
          refine s_gvalY 18 rfl rfl y12 rfl (.pointer (some ⟨g1, 17, none⟩)) (run_fld 40 _ 2 rfl g1 0 rfl 17 (by kernel_rfl)) ?_
          refine nr ?_; intro U h; simp only [z0, z1] at h; subst h
          refine s_gvalY 19 rfl rfl y12 rfl (.agg (paA a.p)) (ldCp _ rfl g1 rfl (kg1)) ?_
          refine nr ?_; intro U h; simp only [z0, z1] at h; subst h
          refine s_gvalY 20 rfl rfl y12 rfl (.pointer (some ⟨g2, 17, none⟩)) (run_fld 42 _ 2 rfl g2 0 rfl 17 (by kernel_rfl)) ?_
          refine nr ?_; intro U h; simp only [z0, z1] at h; subst h
          refine s_gvalY 21 rfl rfl y12 rfl (.agg (paA b.p)) (ldDp _ rfl g2 rfl (kg2)) ?_
          refine nr ?_; intro U h; simp only [z0, z1] at h; subst h
          refine s_gvalY 22 rfl rfl y12 rfl (.bool true) (run_eqP _ _ _ rfl _ _ rfl rfl ha.p hb.p true h3) ?_
          refine nr ?_; intro U h; simp only [z0, z1] at h; subst h
          refine s_val 23 rfl rfl (.bool true) (rfl) ?_
          refine nr ?_; intro U h; simp only [z0, z1] at h; subst h
          refine s_val 24 rfl rfl (.bool true) (rfl) ?_
          refine nr ?_; intro U h; simp only [z0, z1] at h; subst h
          refine s_gvalY 25 rfl rfl y19 rfl (.pointer (some ⟨g1, 34, none⟩)) (run_fld 40 _ 3 rfl g1 0 rfl 34 (by kernel_rfl)) ?_
          refine nr ?_; intro U h; simp only [z0, z1] at h; subst h
          refine s_gvalY 26 rfl rfl y19 rfl (.int .i64 a.n) (ldCn _ rfl g1 rfl (kg1)) ?_
          refine nr ?_; intro U h; simp only [z0, z1] at h; subst h
          refine s_gvalY 27 rfl rfl y19 rfl (.pointer (some ⟨g2, 34, none⟩)) (run_fld 42 _ 3 rfl g2 0 rfl 34 (by kernel_rfl)) ?_
          refine nr ?_; intro U h; simp only [z0, z1] at h; subst h
          refine s_gvalY 28 rfl rfl y19 rfl (.int .i64 b.n) (ldDn _ rfl g2 rfl (kg2)) ?_
          refine nr ?_; intro U h; simp only [z0, z1] at h; subst h
          refine s_gvalY 29 rfl rfl y19 rfl (.bool true) (run_eq_k 3 .i64 _ _ _ rfl Try.underlying3 a.n b.n rfl rfl true h4 _) ?_
          refine nr ?_; intro U h; simp only [z0, z1] at h; subst h
          refine s_val 30 rfl rfl (.bool true) (rfl) ?_
          refine nr ?_; intro U h; simp only [z0, z1] at h; subst h
          refine s_val 4 rfl rfl (.bool true) (rfl) ?_
          refine nr ?_; intro U h; simp only [z0, z1] at h; subst h
          refine wpList_nil ?_
          refine then_n ?_
          refine wp_ret ?_
          refine bodyPost_ret (results_tmp Try.results13 _ _ _) rfl ?_
          refine ⟨congrArg (fun b => Ending.returned (.bool b)) ?_, GG⟩
          rw [ch_eq, h1, h2, h3, h4]
          rfl
set_option maxRecDepth 100000 in
set_option maxHeartbeats 4000000 in
theorem plain_any (a : Ch) (w : World) : Calls Try.prog 18 #[.agg (chA a)] w (fun e w' => e = .returned (.agg (chA a)) ∧ Gro w w') := by
  refine s_enter Try.func18 rfl Try.ntmps18 [.agg (chA a)] [.agg (chA a), undef, undef, undef, undef, undef, undef, undef, undef, undef, undef, undef] rfl ?_
  have GG := Gro.refl w
  refine wp_seq ?_
  refine wp_region_lit ?_
  refine s_box 1 rfl rfl 40 _ rfl _ rfl (chA a) rfl ?_
  intro w1 g1 G eg1 kg1
  have bg1 := size_base GG eg1
  replace GG := GG.trans G
  clear G
  clear eg1
  refine nr ?_; intro U h; simp only [z0, z1] at h; subst h
  refine s_alloc 2 rfl rfl 42 rfl _ zeroD (chA zC) rfl ?_
  intro w2 g2 G eg2 kg2
  have bg2 := size_base GG eg2
  have dg1g2 := lt_new kg1 eg2
  replace kg1 := G.has kg1
  replace GG := GG.trans G
  clear G
  clear eg2
  refine nr ?_; intro U h; simp only [z0, z1] at h; subst h
  refine wpList_nil ?_
  refine then_n ?_
  refine wp_seq ?_
  refine wp_region_lit ?_
  refine s_val 3 rfl rfl (.pointer (some ⟨g1, 0, none⟩)) (run_fld 40 _ 0 rfl g1 0 rfl 0 (by kernel_rfl)) ?_
  refine nr ?_; intro U h; simp only [z0, z1] at h; subst h
  refine s_val 4 rfl rfl (.agg (idA a.id)) (ldCi _ rfl g1 rfl (kg1)) ?_
  refine nr ?_; intro U h; simp only [z0, z1] at h; subst h
  refine s_val 5 rfl rfl (.pointer (some ⟨g1, 16, none⟩)) (run_fld 40 _ 1 rfl g1 0 rfl 16 (by kernel_rfl)) ?_
  refine nr ?_; intro U h; simp only [z0, z1] at h; subst h
  refine s_val 6 rfl rfl (.bool a.near) (ldCb _ rfl g1 rfl (kg1) a.near rfl) ?_
  refine nr ?_; intro U h; simp only [z0, z1] at h; subst h
  refine s_val 7 rfl rfl (.pointer (some ⟨g1, 17, none⟩)) (run_fld 40 _ 2 rfl g1 0 rfl 17 (by kernel_rfl)) ?_
  refine nr ?_; intro U h; simp only [z0, z1] at h; subst h
  refine s_val 8 rfl rfl (.agg (paA a.p)) (ldCp _ rfl g1 rfl (kg1)) ?_
  refine nr ?_; intro U h; simp only [z0, z1] at h; subst h
  refine s_val 9 rfl rfl (.pointer (some ⟨g1, 34, none⟩)) (run_fld 40 _ 3 rfl g1 0 rfl 34 (by kernel_rfl)) ?_
  refine nr ?_; intro U h; simp only [z0, z1] at h; subst h
  refine s_val 10 rfl rfl (.int .i64 a.n) (ldCn _ rfl g1 rfl (kg1)) ?_
  refine nr ?_; intro U h; simp only [z0, z1] at h; subst h
  refine s_val 11 rfl rfl (.agg (chA (mkC a.id a.near a.p a.n))) (run_bd 42 _ rfl [(0, .agg (idA a.id)), (1, .bool a.near), (2, .agg (paA a.p)), (3, .int .i64 a.n)] rfl _ (bdD0123 _ _ _ _ _)) ?_
  refine nr ?_; intro U h; simp only [z0, z1] at h; subst h
  refine s_store rfl rfl 42 _ _ rfl g2 0 rfl (.agg (chA (mkC a.id a.near a.p a.n))) rfl 42 _ kg2 (chA (mkC a.id a.near a.p a.n)) rfl (siD' _) (chA_fit _ _) (chA_one _) (chA (mkC a.id a.near a.p a.n)) (splice_whole _ _ (chA_sz _ _)) ?_
  intro w3 St
  have kS := kg2
  replace kg1 := St.has (by omega) kg1
  replace GG := GG.store St bg2
  replace kg2 := St.new
  clear St
  refine wpList_nil ?_
  refine then_n ?_
  refine wp_ret ?_
  refine bodyPost_ret (results_cell_row Try.results18 _ _ g2 42 _ (0, 0) _ rfl kg2 Try.underlying42 rfl (siD' _)) rfl ?_
  exact ⟨rfl, GG⟩
set_option maxRecDepth 100000 in
set_option maxHeartbeats 4000000 in
theorem n_any (x : Nat) (hx : x < 256) (w : World) : Calls Try.prog 27 #[.int .u8 ((x : Nat) : Int)] w (fun e w' => e = .returned (.agg (idA x)) ∧ Gro w w') := by
  refine s_enter Try.func27 rfl Try.ntmps27 [.int .u8 ((x : Nat) : Int)] [.int .u8 ((x : Nat) : Int), undef, undef, undef, undef] rfl ?_
  have GG := Gro.refl w
  refine wp_seq ?_
  refine wp_region_lit ?_
  refine s_alloc 2 rfl rfl 23 rfl _ zero23 (idA 0) rfl ?_
  intro w1 g1 G eg1 kg1
  have bg1 := size_base GG eg1
  replace GG := GG.trans G
  clear G
  clear eg1
  refine nr ?_; intro U h; simp only [z0, z1] at h; subst h
  refine wpList_nil ?_
  refine then_n ?_
  refine wp_seq ?_
  refine wp_region_lit ?_
  refine s_val 3 rfl rfl (.int .u8 ((x : Nat) : Int)) (rfl) ?_
  refine nr ?_; intro U h; simp only [z0, z1] at h; subst h
  refine s_val 4 rfl rfl (.agg (idA x)) (run_build_n _ rfl x rfl hx _) ?_
  refine nr ?_; intro U h; simp only [z0, z1] at h; subst h
  refine s_store rfl rfl 23 _ _ rfl g1 0 rfl (.agg (idA x)) rfl 23 _ kg1 (idA x) rfl (size23' _) (idA_fit _ _) (idA_one _) (idA x) (splice_whole _ _ (idA_sz _ _)) ?_
  intro w2 St
  have kS := kg1
  replace GG := GG.store St bg1
  replace kg1 := St.new
  clear St
  refine wpList_nil ?_
  refine then_n ?_
  refine wp_ret ?_
  refine bodyPost_ret (results_cell_row Try.results27 _ _ g1 23 _ (0, 0) _ rfl kg1 Try.underlying23 rfl (size23' _)) rfl ?_
  exact ⟨rfl, GG⟩
set_option maxRecDepth 100000 in
set_option maxHeartbeats 4000000 in
theorem radd2_any (a b : Nat) (ha : a < top) (hb : b < top) (w : World) : Calls Try.prog 22 #[.agg (idA a), .agg (idA b)] w (fun e w' => e = .returned (.agg (idA (addN a b))) ∧ Gro w w') := by
  refine s_enter Try.func22 rfl Try.ntmps22 [.agg (idA a), .agg (idA b)] [.agg (idA a), .agg (idA b), undef, undef, undef, undef, undef, undef, undef, undef] rfl ?_
  have GG := Gro.refl w
  refine wp_seq ?_
  refine wp_region_lit ?_
  refine s_box 2 rfl rfl 23 _ rfl _ rfl (idA a) rfl ?_
  intro w1 g1 G eg1 kg1
  have bg1 := size_base GG eg1
  replace GG := GG.trans G
  clear G
  clear eg1
  refine nr ?_; intro U h; simp only [z0, z1] at h; subst h
  refine s_box 3 rfl rfl 23 _ rfl _ rfl (idA b) rfl ?_
  intro w2 g2 G eg2 kg2
  have bg2 := size_base GG eg2
  have dg1g2 := lt_new kg1 eg2
  replace kg1 := G.has kg1
  replace GG := GG.trans G
  clear G
  clear eg2
  refine nr ?_; intro U h; simp only [z0, z1] at h; subst h
  refine s_alloc 4 rfl rfl 23 rfl _ zero23 (idA 0) rfl ?_
  intro w3 g3 G eg3 kg3
  have bg3 := size_base GG eg3
  have dg1g3 := lt_new kg1 eg3
  have dg2g3 := lt_new kg2 eg3
  replace kg1 := G.has kg1
  replace kg2 := G.has kg2
  replace GG := GG.trans G
  clear G
  clear eg3
  refine nr ?_; intro U h; simp only [z0, z1] at h; subst h
  refine wpList_nil ?_
  refine then_n ?_
  refine wp_seq ?_
  refine wp_region_exA (A := ?Ax1) 4 [(0, 5), (1, 6), (2, 7), (3, 8)] [.val (.agg (idA a)), .val (.agg (idA 0)), .val (.agg (idA b)), .val (.agg (idA (subN 0 b)))] follows (by kernel_rfl) rfl ?hAx1 (opsA_cons ?o0x1 (opsA_cons ?o1x1 (opsA_cons ?o2x1 (opsA_cons ?o3x1 opsA_nil)))) ?restx1
  case hAx1 =>
    intro ptrs
    simp only [full, foldSlots, filledE, postE, List.foldl_cons, List.foldl_nil, List.getD_cons_zero, List.getD_cons_succ, fill_val, List.set_cons_zero, List.set_cons_succ]
    exact rfl
  case o0x1 => exact fun _ _ hw _ => opE_value (v := .agg (idA a)) rfl (ldI0 _ rfl g1 rfl (hw.has kg1))
  case o1x1 => exact fun _ _ _ _ => opE_value (v := .agg (idA 0)) rfl (run_build_0 rfl _)
  case o2x1 => exact fun _ _ hw _ => opE_value (v := .agg (idA b)) rfl (ldI0 _ rfl g2 rfl (hw.has kg2))
  case o3x1 =>
    intro ptrs w' hw hE
    exact opE_call (.val (.agg (idA (subN 0 b)))) rfl _ 34 Try.call34 rfl rfl _ rfl [.agg (idA 0), .agg (idA b)] rfl ((refsub_any 0 b top_0 hb _).mono fun e w' ⟨he, hg⟩ => ⟨_, he, hg, rfl⟩)
  intro ptrs w4 GD hxE
  simp only [List.drop_succ_cons, List.drop_zero]
  replace kg1 := GD.has kg1
  replace kg2 := GD.has kg2
  replace kg3 := GD.has kg3
  replace GG := GG.drew.trans GD
  clear GD
  refine s_callv 9 rfl rfl _ 34 Try.call34 rfl rfl _ rfl [.agg (idA a), .agg (idA (subN 0 b))] rfl (refsub_any a (subN 0 b) ha (subN_lt 0 b) _) ?_
  intro w5 G
  replace kg1 := G.has kg1
  replace kg2 := G.has kg2
  replace kg3 := G.has kg3
  replace GG := GG.trans G
  clear G
  refine nr ?_; intro U h; simp only [z0, z1] at h; subst h
  refine s_store rfl rfl 23 _ _ rfl g3 0 rfl (.agg (idA (subN a (subN 0 b)))) rfl 23 _ kg3 (idA (subN a (subN 0 b))) rfl (size23' _) (idA_fit _ _) (idA_one _) (idA (subN a (subN 0 b))) (splice_whole _ _ (idA_sz _ _)) ?_
  intro w6 St
  have kS := kg3
  replace kg1 := St.has (by omega) kg1
  replace kg2 := St.has (by omega) kg2
  replace GG := GG.store St bg3
  replace kg3 := St.new
  clear St
  refine wpList_nil ?_
  refine then_n ?_
  refine wp_ret ?_
  refine bodyPost_ret (results_cell_row Try.results22 _ _ g3 23 _ (0, 0) _ rfl kg3 Try.underlying23 rfl (size23' _)) rfl ?_
  exact ⟨by rw [add_of_sub a b ha hb], GG⟩
set_option maxRecDepth 100000 in
set_option maxHeartbeats 4000000 in
theorem turn_any (x y h : Nat) (hx : x < top) (hy : y < top) (w : World) (kh : w.heap[h]? = some (.cells (idA y) 23 (0, 0))) : Calls Try.prog 21 #[.agg (idA x), .pointer (some ⟨h, 0, none⟩)] w (fun e w' => e = .returned (.agg (idA (addN x y))) ∧ Gro w w') := by
  refine s_enter Try.func21 rfl Try.ntmps21 [.agg (idA x), .pointer (some ⟨h, 0, none⟩)] [.agg (idA x), .pointer (some ⟨h, 0, none⟩), undef, undef, undef, undef, undef] rfl ?_
  have GG := Gro.refl w
  refine wp_seq ?_
  refine wp_region_lit ?_
  refine s_box 2 rfl rfl 23 _ rfl _ rfl (idA x) rfl ?_
  intro w1 g1 G eg1 kg1
  have bg1 := size_base GG eg1
  have dhg1 := lt_new kh eg1
  replace kh := G.has kh
  replace GG := GG.trans G
  clear G
  clear eg1
  refine nr ?_; intro U h; simp only [z0, z1] at h; subst h
  refine s_alloc 3 rfl rfl 23 rfl _ zero23 (idA 0) rfl ?_
  intro w2 g2 G eg2 kg2
  have bg2 := size_base GG eg2
  have dhg2 := lt_new kh eg2
  have dg1g2 := lt_new kg1 eg2
  replace kh := G.has kh
  replace kg1 := G.has kg1
  replace GG := GG.trans G
  clear G
  clear eg2
  refine nr ?_; intro U h; simp only [z0, z1] at h; subst h
  refine wpList_nil ?_
  refine then_n ?_
  refine wp_seq ?_
  refine wp_region_lit ?_
  refine s_val 4 rfl rfl (.agg (idA x)) (ldI0 _ rfl g1 rfl (kg1)) ?_
  refine nr ?_; intro U h; simp only [z0, z1] at h; subst h
  refine s_val 5 rfl rfl (.agg (idA y)) (ldI0 _ rfl h rfl (kh)) ?_
  refine nr ?_; intro U h; simp only [z0, z1] at h; subst h
  refine s_callv 6 rfl rfl _ 22 Try.call22 rfl rfl _ rfl [.agg (idA x), .agg (idA y)] rfl (radd2_any x y hx hy _) ?_
  intro w3 G
  replace kh := G.has kh
  replace kg1 := G.has kg1
  replace kg2 := G.has kg2
  replace GG := GG.trans G
  clear G
  refine nr ?_; intro U h; simp only [z0, z1] at h; subst h
  refine s_store rfl rfl 23 _ _ rfl g2 0 rfl (.agg (idA (addN x y))) rfl 23 _ kg2 (idA (addN x y)) rfl (size23' _) (idA_fit _ _) (idA_one _) (idA (addN x y)) (splice_whole _ _ (idA_sz _ _)) ?_
  intro w4 St
  have kS := kg2
  replace kh := St.has (by omega) kh
  replace kg1 := St.has (by omega) kg1
  replace GG := GG.store St bg2
  replace kg2 := St.new
  clear St
  refine wpList_nil ?_
  refine then_n ?_
  refine wp_ret ?_
  refine bodyPost_ret (results_cell_row Try.results21 _ _ g2 23 _ (0, 0) _ rfl kg2 Try.underlying23 rfl (size23' _)) rfl ?_
  exact ⟨rfl, GG⟩
end Go.Proofs.Ytipfllalfifheaa
