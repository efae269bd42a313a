/- Any bytes of a disk are opened (SlateOpens). -/
import Derived.Test.YtaejjmoocnpdaaaE13
namespace Go.Proofs.Ytaejjmoocnpdaaa
open Go.RowKit

theorem sameAll_t (w : World) (ao : Option Addr) (cap : Nat) (ls : List (List Nat)) (HA : LC w ao cap ls) (ao2 : Option Addr) (cap2 : Nat) (ms : List (List Nat)) (HB : LC w ao2 cap2 ms) (n m : Nat) (hn : ls.length = n) (hm : ms.length = m) (hl : n < 9223372036854775807) (he : ls = ms) : Calls Try.prog 14 #[.slice ao n cap, .slice ao2 m cap2] w fun e w' => e = .returned (.bool true) ∧ Gro w w' := by
  subst hn hm
  have := sameAll_any w ao cap ls HA ao2 cap2 ms HB hl
  rwa [decide_eq_true he] at this
theorem LC.nil (w : World) : LC w none 0 [] := ⟨Nat.le_refl _, fun _ => rfl, fun _ h => by cases h⟩
theorem run_neB {P : Program} {o : Oper} {A : Act} (t : TypeId) (x y : Operand) (t2 : TypeId) (ho : o.op = .binOp .neq t x y t2) (a b : Bool) (hx : A.eval x = .bool a) (hy : A.eval y = .bool b) (hu : P.underlying t = some .bool) (p : Bool) (hp : decide (a = b) = !p) (w : World) : (execOp A.eval o).run P w = .ok (.value (.bool p)) w := by
  refine run_binop .neq t x y t2 ho _ _ _ hx hy (by simp [eqGuard, go_sem]) ?_
  have h := run_equalIn_bool w (Op.maxDepth - 1) t a b hu
  have e : (a == b) = !p := by rw [← hp]; cases a <;> cases b <;> rfl
  rw [e] at h
  simp only [binOp]
  simp [go_sem]
  rw [show (Op.equal t (.bool a) (.bool b)).run P w = .ok (!p) w from h]
  cases p <;> rfl
set_option maxRecDepth 100000 in
set_option maxHeartbeats 4000000 in
theorem sectors_any (w : World) (ao : Option Addr) (cap : Nat) (l : List Nat) (HN : NC w .u8 ao cap l) (hl : l.length ≤ 140737488355000) : Calls Try.prog 9 #[.slice ao l.length cap, .int .i64 ((4096 : Nat) : Int)] w fun e w' => ∃ ao2 cap2, e = .returned (.slice ao2 (l.take (min (l.length / 64) 4096 * 64)).length cap2) ∧ Gro w w' ∧ OB w' 5 .u8 w.heap.size ao2 cap2 (l.take (min (l.length / 64) 4096 * 64)) := by
  refine s_enter Try.func9 rfl Try.ntmps9 [.slice ao l.length cap, .int .i64 ((4096 : Nat) : Int)] [.slice ao l.length cap, .int .i64 ((4096 : Nat) : Int), undef, undef, undef, undef, undef, undef, undef, undef, undef, undef, undef, undef, undef, undef, undef] rfl ?_
  have GG := Gro.refl w
  obtain ⟨m, hm⟩ : ∃ m, min (l.length / 64) 4096 = m := ⟨_, rfl⟩
  rw [hm]
  have hCl : (l.take (m * 64)).length = m * 64 := by rw [List.length_take]; omega
  refine wp_seq ?_
  refine wp_region_lit ?_
  refine s_val 4 rfl rfl (.slice none 0 0) (rfl) ?_
  refine nr ?_; intro U h; simp only [z0, z1] at h; subst h
  refine wpList_nil ?_
  refine then_n ?_
  refine wp_seq ?_
  refine wp_region_lit ?_
  refine s_val 6 rfl rfl (.slice ao l.length cap) (rfl) ?_
  refine nr ?_; intro U h; simp only [z0, z1] at h; subst h
  refine s_val 7 rfl rfl (.int .i64 ((l.length : Nat) : Int)) (run_len Try.underlying22 _ rfl _ _ _ rfl _) ?_
  refine nr ?_; intro U h; simp only [z0, z1] at h; subst h
  refine s_val 8 rfl rfl (.int .i64 ((l.length / 64 : Nat) : Int)) (run_quo64 _ _ _ rfl ((l.length : Nat) : Int) 64 _ rfl rfl (by decide) (tdivN _ 64) (by omega) (by omega) _) ?_
  refine nr ?_; intro U h; simp only [z0, z1] at h; subst h
  refine s_val 9 rfl rfl (.int .i64 ((4096 : Nat) : Int)) (rfl) ?_
  refine nr ?_; intro U h; simp only [z0, z1] at h; subst h
  refine s_val 10 rfl rfl (.int .i64 ((m : Nat) : Int)) (run_min64 _ _ _ rfl ((l.length / 64 : Nat) : Int) ((4096 : Nat) : Int) _ rfl rfl (by omega) _) ?_
  refine nr ?_; intro U h; simp only [z0, z1] at h; subst h
  refine s_val 5 rfl rfl (.int .i64 ((m : Nat) : Int)) (rfl) ?_
  refine nr ?_; intro U h; simp only [z0, z1] at h; subst h
  refine wpList_nil ?_
  refine then_n ?_
  refine wp_seq ?_
  refine wp_region_lit ?_
  refine s_bsl 11 rfl rfl 22 0 _ rfl [] rfl #[] 5 (by kernel_rfl) ?_
  intro w1 gb G1 egb kgb
  refine nr ?_; intro U h; simp only [z0, z1] at h; subst h
  refine s_val 12 rfl rfl (.slice ao l.length cap) (rfl) ?_
  refine nr ?_; intro U h; simp only [z0, z1] at h; subst h
  refine s_val 13 rfl rfl (.int .i64 ((m : Nat) : Int)) (rfl) ?_
  refine nr ?_; intro U h; simp only [z0, z1] at h; subst h
  refine s_val 14 rfl rfl (.int .i64 ((m * 64 : Nat) : Int)) (run_mul64 _ _ _ rfl 64 ((m : Nat) : Int) _ rfl rfl (by omega) (by omega) (by omega) _) ?_
  refine nr ?_; intro U h; simp only [z0, z1] at h; subst h
  refine s_val 15 rfl rfl (.slice ao (m * 64) cap) (run_cut0 bT _ _ rfl ao l.length cap (m * 64) rfl rfl (by have := HN.fit; omega) _) ?_
  refine nr ?_; intro U h; simp only [z0, z1] at h; subst h
  have HO1 : OB _ 5 .u8 gb (some ⟨gb, 0, none⟩) 0 [] := OB.made kgb (Nat.le_refl _) (Nat.le_refl _) (Nat.zero_le _) rfl rfl (fun x hx => by cases hx)
  refine s_app bT 16 rfl rfl _ _ rfl rfl HO1 (l' := (l.take (m * 64))) (by rw [hCl]; rfl) ((HN.take (m * 64) (by omega)).gro (GG.trans G1)) (by rw [hCl]; simp only [List.length_nil]; omega) (by decide) (Nat.le_of_lt (lt_of_heap kgb)) ?_
  intro ao4 cap4 w2 HO2 BB
  rw [List.nil_append] at HO2
  simp only [List.nil_append]
  have G := below_gro G1 BB (Nat.le_of_eq egb)
  have bgb := size_base GG egb
  have HO := HO2.mono bgb
  clear HO1 HO2 BB G1 egb kgb
  replace GG := GG.trans G
  clear G
  refine nr ?_; intro U h; simp only [z0, z1] at h; subst h
  refine s_val 4 rfl rfl (.slice ao4 ((l.take (m * 64)).length) cap4) (rfl) ?_
  refine nr ?_; intro U h; simp only [z0, z1] at h; subst h
  refine wpList_nil ?_
  refine then_n ?_
  refine wp_ret ?_
  refine bodyPost_ret (results_tmp Try.results9 _ _ _) rfl ?_
  exact ⟨ao4, cap4, rfl, GG, HO⟩
set_option maxRecDepth 100000 in
set_option maxHeartbeats 4000000 in
theorem pair_any (w : World) (ao : Option Addr) (cap : Nat) (C : List Nat) (HN : NC w .u8 ao cap C) (m : Nat) (hC : C.length = m * 64) (hm : m ≤ 4096) : Calls Try.prog 10 #[.slice ao C.length cap] w fun e w' => ∃ p sg rp ro rc, e = .returned (.tuple #[.pointer (some ⟨p, 0, none⟩), .pointer (some ⟨rp, 0, none⟩)]) ∧ Gro w w' ∧ w.heap.size ≤ p ∧ w.heap.size ≤ sg ∧ w.heap.size ≤ rp ∧ DK w' p sg m C (-1) 0 ∧ QK w' rp w.heap.size ro rc m C (-1) 0 := by
  refine s_enter Try.func10 rfl Try.ntmps10 [.slice ao C.length cap] [.slice ao C.length cap, undef, undef, undef, undef, undef, undef, undef, undef, undef, undef, undef, undef, undef, undef, undef, undef] rfl ?_
  have GG := Gro.refl w
  refine wp_seq ?_
  refine wp_region_lit ?_
  refine s_val 2 rfl rfl (.pointer none) (rfl) ?_
  refine nr ?_; intro U h; simp only [z0, z1] at h; subst h
  refine s_val 3 rfl rfl (.pointer none) (rfl) ?_
  refine nr ?_; intro U h; simp only [z0, z1] at h; subst h
  refine wpList_nil ?_
  refine then_n ?_
  refine wp_seq ?_
  refine wp_region_lit ?_
  refine s_val 7 rfl rfl (.slice ao C.length cap) (rfl) ?_
  refine nr ?_; intro U h; simp only [z0, z1] at h; subst h
  refine s_callx 8 rfl rfl _ 24 Try.call24 rfl rfl _ rfl [.slice ao C.length cap] rfl (of_ok _ ao cap C (HN.gro GG) m hC hm) (fun _ _ ⟨_, _, he, _⟩ => ⟨_, he⟩) ?_
  rintro v w1 ⟨p, sg, he, G, bp, bsg, HD⟩
  cases he
  replace GG := GG.trans G
  clear G
  refine nr ?_; intro U h; simp only [z0, z1] at h; subst h
  refine s_val 6 rfl rfl (.tuple #[.pointer (some ⟨p, 0, none⟩), .int .i64 0]) (rfl) ?_
  refine nr ?_; intro U h; simp only [z0, z1] at h; subst h
  refine s_val 9 rfl rfl (.pointer (some ⟨p, 0, none⟩)) (rfl) ?_
  refine nr ?_; intro U h; simp only [z0, z1] at h; subst h
  refine s_val 10 rfl rfl (.int .i64 0) (rfl) ?_
  refine nr ?_; intro U h; simp only [z0, z1] at h; subst h
  refine s_val 4 rfl rfl (.pointer (some ⟨p, 0, none⟩)) (rfl) ?_
  refine nr ?_; intro U h; simp only [z0, z1] at h; subst h
  refine s_val 5 rfl rfl (.int .i64 0) (rfl) ?_
  refine nr ?_; intro U h; simp only [z0, z1] at h; subst h
  refine wpList_nil ?_
  refine then_n ?_
  refine wp_seq ?_
  refine wp_region_lit ?_
  refine s_val 11 rfl rfl (.pointer (some ⟨p, 0, none⟩)) (rfl) ?_
  refine nr ?_; intro U h; simp only [z0, z1] at h; subst h
  refine s_bsl 12 rfl rfl 22 0 _ rfl [] rfl #[] 5 (by kernel_rfl) ?_
  intro w2 gb G1 egb kgb
  refine nr ?_; intro U h; simp only [z0, z1] at h; subst h
  refine s_val 13 rfl rfl (.slice ao C.length cap) (rfl) ?_
  refine nr ?_; intro U h; simp only [z0, z1] at h; subst h
  have HO1 : OB _ 5 .u8 gb (some ⟨gb, 0, none⟩) 0 [] := OB.made kgb (Nat.le_refl _) (Nat.le_refl _) (Nat.zero_le _) rfl rfl (fun x hx => by cases hx)
  refine s_app bT 14 rfl rfl _ _ rfl rfl HO1 (l' := C) rfl (HN.gro (GG.trans G1)) (by simp only [List.length_nil]; omega) (by decide) (Nat.le_of_lt (lt_of_heap kgb)) ?_
  intro ao4 cap4 w3 HO2 BB
  rw [List.nil_append] at HO2
  simp only [List.nil_append]
  have G := below_gro G1 BB (Nat.le_of_eq egb)
  have bgb := size_base GG egb
  have HO := HO2.mono bgb
  clear HO1 HO2 BB G1 egb kgb
  replace HD := HD.gro G
  replace GG := GG.trans G
  clear G
  refine nr ?_; intro U h; simp only [z0, z1] at h; subst h
  refine s_val 15 rfl rfl (.agg (c50 ⟨ao4, C.length, cap4⟩ (-1) 0)) (run_bd 50 _ rfl [(0, .slice ao4 C.length cap4), (1, .int .i64 (-1))] rfl _ (by kernel_rfl)) ?_
  refine nr ?_; intro U h; simp only [z0, z1] at h; subst h
  refine s_box 16 rfl rfl 50 _ rfl _ rfl (c50 ⟨ao4, C.length, cap4⟩ (-1) 0) rfl ?_
  intro w4 g1 G eg1 kg1
  have bg1 := size_base GG eg1
  replace HD := HD.gro G
  replace HO := HO.gro G
  replace GG := GG.trans G
  clear G eg1
  refine nr ?_; intro U h; simp only [z0, z1] at h; subst h
  refine s_val 2 rfl rfl (.pointer (some ⟨p, 0, none⟩)) (rfl) ?_
  refine nr ?_; intro U h; simp only [z0, z1] at h; subst h
  refine s_val 3 rfl rfl (.pointer (some ⟨g1, 0, none⟩)) (rfl) ?_
  refine nr ?_; intro U h; simp only [z0, z1] at h; subst h
  refine wpList_nil ?_
  refine then_n ?_
  refine wp_ret ?_
  refine bodyPost_ret (results_tmp2 Try.results10 _ _ _) rfl ?_
  refine ⟨p, sg, g1, ao4, cap4, rfl, GG, bp, bsg, bg1, HD, ⟨?_, HO, hC, hm⟩⟩
  rw [← hC]
  exact kg1
theorem open_some {L : List Nat} {n : Nat} {rs : List (List Nat)} (h : opE L n = some rs) : (cntE L).g ≤ 9223372036854775807 ∧ (cntE L).u ≤ n - 2 ∧ (cntE L).c ≤ (cntE L).u ∧ rs.length = (cntE L).c := by
  by_cases h1 : 9223372036854775807 < (cntE L).g ∨ n - 2 < (cntE L).u ∨ (cntE L).u < (cntE L).c
  · rw [opE, if_pos h1] at h
    cases h
  · rw [opE, if_neg h1] at h
    cases hr : prs (reg L (cntE L).u) with
    | none => rw [hr] at h; cases h
    | some r =>
      rw [hr, Option.bind_some] at h
      by_cases hd : r.length = (cntE L).c
      · rw [if_pos hd] at h
        cases h
        omega
      · rw [if_neg hd] at h
        cases h
set_option maxRecDepth 100000 in
set_option maxHeartbeats 4000000 in
theorem slateOpens_small (w : World) (ao : Option Addr) (cap : Nat) (l : List Nat) (HN : NC w .u8 ao cap l) (hl : l.length ≤ 140737488355000) (h3 : (min (l.length / 64) 4096) < 3) : Calls Try.prog 3 #[.slice ao l.length cap] w fun e w' => e = .returned (.bool true) ∧ Gro w w' := by
  refine s_enter Try.func3 rfl Try.ntmps3 [.slice ao l.length cap] [.slice ao l.length cap, undef, undef, undef, undef, undef, undef, undef, undef, undef, undef, undef, undef, undef, undef, undef, undef, undef, undef, undef, undef, undef, undef, undef, undef, undef, undef, undef, undef, undef, undef, undef, undef, undef, undef, undef, undef, undef, undef, undef, undef, undef, undef, undef, undef, undef, undef, undef, undef, undef, undef, undef, undef, undef, undef, undef, undef, undef, undef, undef, undef, undef, undef, undef, undef, undef, undef, undef, undef, undef, undef, undef, undef, undef, undef, undef, undef, undef, undef, undef, undef, undef, undef] rfl ?_
  have GG := Gro.refl w
  obtain ⟨m, hmm⟩ : ∃ m, min (l.length / 64) 4096 = m := ⟨_, rfl⟩
  obtain ⟨C, hCC⟩ : ∃ C, C = l.take (m * 64) := ⟨_, rfl⟩
  have hC : C.length = m * 64 := by rw [hCC, List.length_take]; omega
  have hm4 : m ≤ 4096 := by omega
  rw [hmm] at h3
  refine wp_seq ?_
  refine wp_region_lit ?_
  refine s_val 2 rfl rfl (.bool false) (rfl) ?_
  refine nr ?_; intro U h; simp only [z0, z1] at h; subst h
  refine wpList_nil ?_
  refine then_n ?_
  refine wp_seq ?_
  refine wp_region_lit ?_
  refine s_val 11 rfl rfl (.slice ao l.length cap) (rfl) ?_
  refine nr ?_; intro U h; simp only [z0, z1] at h; subst h
  refine s_callx 12 rfl rfl _ 9 Try.call9 rfl rfl _ rfl [.slice ao l.length cap, .int .i64 4096] rfl (sectors_any _ ao cap l HN hl) (fun _ _ ⟨_, _, he, _⟩ => ⟨_, he⟩) ?_
  rintro v w1 ⟨ao2, cap2, he, G, HC⟩
  cases he
  replace GG := GG.trans G
  clear G
  rw [hmm, ← hCC] at HC
  rw [hmm, ← hCC]
  have hbyte := HC.nc.lt256
  refine nr ?_; intro U h; simp only [z0, z1] at h; subst h
  refine s_val 0 rfl rfl (.slice ao2 C.length cap2) (rfl) ?_
  refine nr ?_; intro U h; simp only [z0] at h; subst h
  refine wpList_nil ?_
  refine then_n ?_
  refine wp_seq ?_
  refine wp_region_lit ?_
  refine s_val 14 rfl rfl (.slice ao2 C.length cap2) (rfl) ?_
  refine nr ?_; intro U h; simp only [z0, z1] at h; subst h
  refine s_callx 15 rfl rfl _ 10 Try.call10 rfl rfl _ rfl [.slice ao2 C.length cap2] rfl (pair_any _ ao2 cap2 C HC.nc m hC hm4) (fun _ _ ⟨_, _, _, _, _, he, _⟩ => ⟨_, he⟩) ?_
  rintro v w2 ⟨p, sg, rp, ro, rc, he, G, bp, bsg, brp, HD, HR⟩
  cases he
  replace HC := HC.gro G
  replace GG := GG.trans G
  clear G
  refine nr ?_; intro U h; simp only [z0, z1] at h; subst h
  refine s_val 13 rfl rfl (.tuple #[.pointer (some ⟨p, 0, none⟩), .pointer (some ⟨rp, 0, none⟩)]) (rfl) ?_
  refine nr ?_; intro U h; simp only [z0, z1] at h; subst h
  refine s_val 16 rfl rfl (.pointer (some ⟨p, 0, none⟩)) (rfl) ?_
  refine nr ?_; intro U h; simp only [z0, z1] at h; subst h
  refine s_val 17 rfl rfl (.pointer (some ⟨rp, 0, none⟩)) (rfl) ?_
  refine nr ?_; intro U h; simp only [z0, z1] at h; subst h
  refine s_val 3 rfl rfl (.pointer (some ⟨p, 0, none⟩)) (rfl) ?_
  refine nr ?_; intro U h; simp only [z0, z1] at h; subst h
  refine s_val 4 rfl rfl (.pointer (some ⟨rp, 0, none⟩)) (rfl) ?_
  refine nr ?_; intro U h; simp only [z0, z1] at h; subst h
  refine wpList_nil ?_
  refine then_n ?_
  refine wp_seq ?_
  refine wp_seq ?_
  refine wp_region_opq ?_
  intro OPS hY
  have y2 := hY 2 20 rfl
  clear hY
  refine s_val 18 rfl rfl (.pointer (some ⟨p, 0, none⟩)) (rfl) ?_
  refine nr ?_; intro U h; simp only [z0, z1] at h; subst h
  refine s_val 19 rfl rfl (.bool false) (run_eqnp 24 _ _ _ rfl _ rfl rfl Try.underlying24 _) ?_
  refine nr ?_; intro U h; simp only [z0, z1] at h; subst h
  refine s_val 20 rfl rfl (.bool false) (rfl) ?_
  refine nr ?_; intro U h; simp only [z0, z1] at h; subst h
  refine s_gcallvY 21 rfl rfl y2 rfl _ 11 Try.call11 rfl rfl _ rfl [] rfl (fixed_true _) ?_
  intro w3 G
  replace HC := HC.gro G
  replace HD := HD.gro G
  replace HR := HR.gro G
  replace GG := GG.trans G
  clear G
  refine nr ?_; intro U h; simp only [z0, z1] at h; subst h
  refine s_gvalY 22 rfl rfl y2 rfl (.bool false) (run_nt _ _ rfl true rfl) ?_
  refine nr ?_; intro U h; simp only [z0, z1] at h; subst h
  refine s_val 23 rfl rfl (.bool false) (rfl) ?_
  refine nr ?_; intro U h; simp only [z0, z1] at h; subst h
  refine wpList_nil ?_
  refine then_n ?_
  refine wp_cond_false rfl ?_
  refine wp_skip ?_
  refine then_n ?_
  refine wp_seq ?_
  refine wp_region_lit ?_
  refine s_val 25 rfl rfl (.pointer (some ⟨p, 0, none⟩)) (rfl) ?_
  refine nr ?_; intro U h; simp only [z0, z1] at h; subst h
  refine s_callv 26 rfl rfl _ 12 Try.call12 rfl rfl _ rfl [.pointer (some ⟨p, 0, none⟩)] rfl (open_small _ p sg m C (-1) 0 HD (by omega)) ?_
  intro w4 G
  replace HC := HC.gro G
  replace HD := HD.gro G
  replace HR := HR.gro G
  replace GG := GG.trans G
  clear G
  refine nr ?_; intro U h; simp only [z0, z1] at h; subst h
  refine s_val 24 rfl rfl (.tuple #[.pointer none, .slice none 0 0, .int .i64 1]) (rfl) ?_
  refine nr ?_; intro U h; simp only [z0, z1] at h; subst h
  refine s_val 27 rfl rfl (.pointer none) (rfl) ?_
  refine nr ?_; intro U h; simp only [z0, z1] at h; subst h
  refine s_val 28 rfl rfl (.slice none 0 0) (rfl) ?_
  refine nr ?_; intro U h; simp only [z0, z1] at h; subst h
  refine s_val 29 rfl rfl (.int .i64 1) (rfl) ?_
  refine nr ?_; intro U h; simp only [z0, z1] at h; subst h
  refine s_val 5 rfl rfl (.pointer none) (rfl) ?_
  refine nr ?_; intro U h; simp only [z0, z1] at h; subst h
  refine s_val 6 rfl rfl (.slice none 0 0) (rfl) ?_
  refine nr ?_; intro U h; simp only [z0, z1] at h; subst h
  refine s_val 7 rfl rfl (.int .i64 1) (rfl) ?_
  refine nr ?_; intro U h; simp only [z0, z1] at h; subst h
  refine wpList_nil ?_
  refine then_n ?_
  refine wp_seq ?_
  refine wp_region_lit ?_
  refine s_val 31 rfl rfl (.pointer (some ⟨rp, 0, none⟩)) (rfl) ?_
  refine nr ?_; intro U h; simp only [z0, z1] at h; subst h
  refine s_callv 32 rfl rfl _ 13 Try.call13 rfl rfl _ rfl [.pointer (some ⟨rp, 0, none⟩)] rfl (ropen_small _ rp _ ro rc m C (-1) 0 HR (by omega)) ?_
  intro w5 G
  replace HC := HC.gro G
  replace HD := HD.gro G
  replace HR := HR.gro G
  replace GG := GG.trans G
  clear G
  refine nr ?_; intro U h; simp only [z0, z1] at h; subst h
  refine s_val 30 rfl rfl (.tuple #[.pointer none, .slice none 0 0, .int .i64 1]) (rfl) ?_
  refine nr ?_; intro U h; simp only [z0, z1] at h; subst h
  refine s_val 33 rfl rfl (.pointer none) (rfl) ?_
  refine nr ?_; intro U h; simp only [z0, z1] at h; subst h
  refine s_val 34 rfl rfl (.slice none 0 0) (rfl) ?_
  refine nr ?_; intro U h; simp only [z0, z1] at h; subst h
  refine s_val 35 rfl rfl (.int .i64 1) (rfl) ?_
  refine nr ?_; intro U h; simp only [z0, z1] at h; subst h
  refine s_val 8 rfl rfl (.pointer none) (rfl) ?_
  refine nr ?_; intro U h; simp only [z0, z1] at h; subst h
  refine s_val 9 rfl rfl (.slice none 0 0) (rfl) ?_
  refine nr ?_; intro U h; simp only [z0, z1] at h; subst h
  refine s_val 10 rfl rfl (.int .i64 1) (rfl) ?_
  refine nr ?_; intro U h; simp only [z0, z1] at h; subst h
  refine wpList_nil ?_
  refine then_n ?_
  refine wp_seq ?_
  refine wp_seq ?_
  refine wp_region_exA (A := ?Ax1) 22 [(0, 36), (1, 37), (2, 38), (3, 39), (4, 40), (5, 41), (6, 42), (7, 43), (8, 44), (9, 45), (10, 46), (11, 47), (12, 48), (13, 49), (14, 50), (15, 51), (16, 52), (17, 53), (18, 54), (19, 55), (20, 56), (21, 57)] [.val (.int .i64 1), .val (.int .i64 1), .val (.bool false), .val (.bool false), .val (.pointer none), .val (.bool true), .val (.pointer none), .val (.bool true), .val (.bool false), .val (.bool false), .val (.bool false), .val (.slice none 0 0), .val (.slice none 0 0), .val (.bool true), .val (.bool false), .val (.bool false), .val (.bool false), .val (.pointer (some ⟨p, 0, none⟩)), browE C, .val (.string (bas C)), .val (.slice ao2 C.length cap2), .val (.string (bas C))] follows (by kernel_rfl) rfl ?hAx1 (opsA_cons ?o0x1 (opsA_cons ?o1x1 (opsA_cons ?o2x1 (opsA_cons ?o3x1 (opsA_cons ?o4x1 (opsA_cons ?o5x1 (opsA_cons ?o6x1 (opsA_cons ?o7x1 (opsA_cons ?o8x1 (opsA_cons ?o9x1 (opsA_cons ?o10x1 (opsA_cons ?o11x1 (opsA_cons ?o12x1 (opsA_cons ?o13x1 (opsA_cons ?o14x1 (opsA_cons ?o15x1 (opsA_cons ?o16x1 (opsA_cons ?o17x1 (opsA_cons ?o18x1 (opsA_cons ?o19x1 (opsA_cons ?o20x1 (opsA_cons ?o21x1 opsA_nil)))))))))))))))))))))) ?restx1
  case hAx1 =>
    intro ptrs
    simp only [full, foldSlots, filledE, postE, List.foldl_cons, List.foldl_nil, List.getD_cons_zero, List.getD_cons_succ, fill_val, fill_brow, List.set_cons_zero, List.set_cons_succ]
    exact rfl
  case o0x1 => exact fun _ _ _ _ => opE_move (v := .int .i64 1) _ rfl rfl rfl
  case o1x1 => exact fun _ _ _ _ => opE_move (v := .int .i64 1) _ rfl rfl rfl
  case o2x1 => exact fun _ _ hw _ => opE_value (v := .bool false) rfl (run_neq_k 31 .i64 _ _ _ rfl Try.underlying31 1 1 rfl rfl false rfl _)
  case o3x1 => exact fun _ _ _ _ => opE_move (v := .bool false) _ rfl rfl rfl
  case o4x1 => exact fun _ _ _ _ => opE_move (v := .pointer none) _ rfl rfl rfl
  case o5x1 => exact fun _ _ hw _ => opE_value (v := .bool true) rfl (run_eqnn 29 _ _ _ rfl rfl rfl Try.underlying29 _)
  case o6x1 => exact fun _ _ _ _ => opE_move (v := .pointer none) _ rfl rfl rfl
  case o7x1 => exact fun _ _ hw _ => opE_value (v := .bool true) rfl (run_eqnn 34 _ _ _ rfl rfl rfl Try.underlying34 _)
  case o8x1 => exact fun _ _ hw _ => opE_value (v := .bool false) rfl (run_neB 4 _ _ _ rfl true true rfl rfl Try.underlying4 false rfl _)
  case o9x1 => exact fun _ _ _ _ => opE_pick (v := .bool false) _ _ _ rfl rfl false rfl rfl
  case o10x1 => exact fun _ _ _ _ => opE_move (v := .bool false) _ rfl rfl rfl
  case o11x1 => exact fun _ _ _ _ => opE_move (v := .slice none 0 0) _ rfl rfl rfl
  case o12x1 => exact fun _ _ _ _ => opE_move (v := .slice none 0 0) _ rfl rfl rfl
  case o13x1 => exact fun _ _ hw _ => opE_call (.val (.bool true)) rfl _ 14 Try.call14 rfl rfl _ rfl [.slice none 0 0, .slice none 0 0] rfl ((sameAll_t _ none 0 [] (LC.nil _) none 0 [] (LC.nil _) 0 0 rfl rfl (by decide) rfl).mono fun e w' ⟨he, hg⟩ => ⟨_, he, hg, rfl⟩)
  case o14x1 => exact fun _ _ hw _ => opE_value (v := .bool false) rfl (run_nt _ _ rfl true rfl)
  case o15x1 => exact fun _ _ _ _ => opE_pick (v := .bool false) _ _ _ rfl rfl false rfl rfl
  case o16x1 => exact fun _ _ _ _ => opE_move (v := .bool false) _ rfl rfl rfl
  case o17x1 => exact fun _ _ _ _ => opE_move (v := .pointer (some ⟨p, 0, none⟩)) _ rfl rfl rfl
  case o18x1 => exact fun _ _ hw _ => opE_call (browE C) rfl _ 15 Try.call15 rfl rfl _ rfl [.pointer (some ⟨p, 0, none⟩)] rfl ((bytes_len _ p sg m C (-1) 0 (HD.gro ((Gro.refl _).drew.trans hw))).mono fun e w' ⟨g, he, hg, _, hk⟩ => ⟨_, he, hg, g, rfl, hk⟩)
  case o19x1 =>
    intro ptrs w' hw hE
    obtain ⟨⟨gz, hz, oz⟩, _⟩ := hE
    exact opE_value (v := .string (bas C)) rfl (run_text_op bT 9 Try.underlying9 _ rfl (l := C) (by exact hz) (nc_all oz hbyte))
  case o20x1 => exact fun _ _ _ _ => opE_move (v := .slice ao2 C.length cap2) _ rfl rfl rfl
  case o21x1 => exact fun _ _ hw _ => opE_value (v := .string (bas C)) rfl (run_text_op bT 9 Try.underlying9 _ rfl (l := C) rfl (HC.gro ((Gro.refl _).drew.trans hw)).nc)
  intro ptrs w6 GD hxE
  simp only [List.drop_succ_cons, List.drop_zero]
  replace HC := HC.gro ((Gro.refl _).drew.trans GD)
  replace HD := HD.gro ((Gro.refl _).drew.trans GD)
  replace HR := HR.gro ((Gro.refl _).drew.trans GD)
  replace GG := GG.drew.trans GD
  clear GD
  refine s_gval 58 rfl rfl (.bool false) (run_nes_op _ _ _ rfl _ _ rfl rfl false (decide_eq_true rfl) _) ?_
  refine nr ?_; intro U h; simp only [z0, z1] at h; subst h
  refine s_val 59 rfl rfl (.bool false) (rfl) ?_
  refine nr ?_; intro U h; simp only [z0, z1] at h; subst h
  refine wpList_nil ?_
  refine then_n ?_
  refine wp_cond_false rfl ?_
  refine wp_skip ?_
  refine then_n ?_
  refine wp_seq ?_
  refine wp_region_exA (A := ?Ax2) 24 [(0, 60), (1, 61), (2, 62), (3, 63), (4, 64), (5, 65), (6, 66), (7, 67), (8, 68), (9, 69), (10, 70), (11, 71), (12, 72), (13, 73), (14, 74), (15, 75), (16, 76), (17, 77), (18, 78), (19, 79), (20, 80), (21, 81), (22, 82), (23, 2)] [.val (.pointer none), .val (.bool true), .val (.bool true), .val undef, .val undef, .val undef, .val undef, .val undef, .val undef, .val undef, .val undef, .val undef, .val undef, .val undef, .val undef, .val undef, .val undef, .val undef, .val undef, .val undef, .val undef, .val undef, .val (.bool true), .val (.bool true)] follows (by kernel_rfl) rfl ?hAx2 (opsA_cons ?o0x2 (opsA_cons ?o1x2 (opsA_cons ?o2x2 (opsA_cons ?o3x2 (opsA_cons ?o4x2 (opsA_cons ?o5x2 (opsA_cons ?o6x2 (opsA_cons ?o7x2 (opsA_cons ?o8x2 (opsA_cons ?o9x2 (opsA_cons ?o10x2 (opsA_cons ?o11x2 (opsA_cons ?o12x2 (opsA_cons ?o13x2 (opsA_cons ?o14x2 (opsA_cons ?o15x2 (opsA_cons ?o16x2 (opsA_cons ?o17x2 (opsA_cons ?o18x2 (opsA_cons ?o19x2 (opsA_cons ?o20x2 (opsA_cons ?o21x2 (opsA_cons ?o22x2 (opsA_cons ?o23x2 opsA_nil)))))))))))))))))))))))) ?restx2
  case hAx2 =>
    intro ptrs
    simp only [full, foldSlots, filledE, postE, List.foldl_cons, List.foldl_nil, List.getD_cons_zero, List.getD_cons_succ, fill_val, List.set_cons_zero, List.set_cons_succ]
    exact rfl
  case o0x2 => exact fun _ _ _ _ => opE_move (v := .pointer none) _ rfl rfl rfl
  case o1x2 => exact fun _ _ hw _ => opE_value (v := .bool true) rfl (run_eqnn 29 _ _ _ rfl rfl rfl Try.underlying29 _)
  case o2x2 => exact fun _ _ _ _ => opE_move (v := .bool true) _ rfl rfl rfl
  case o3x2 => exact fun _ _ _ _ => opE_skip rfl
  case o4x2 => exact fun _ _ _ _ => opE_skip rfl
  case o5x2 => exact fun _ _ _ _ => opE_skip rfl
  case o6x2 => exact fun _ _ _ _ => opE_skip rfl
  case o7x2 => exact fun _ _ _ _ => opE_skip rfl
  case o8x2 => exact fun _ _ _ _ => opE_skip rfl
  case o9x2 => exact fun _ _ _ _ => opE_skip rfl
  case o10x2 => exact fun _ _ _ _ => opE_skip rfl
  case o11x2 => exact fun _ _ _ _ => opE_skip rfl
  case o12x2 => exact fun _ _ _ _ => opE_skip rfl
  case o13x2 => exact fun _ _ _ _ => opE_skip rfl
  case o14x2 => exact fun _ _ _ _ => opE_skip rfl
  case o15x2 => exact fun _ _ _ _ => opE_skip rfl
  case o16x2 => exact fun _ _ _ _ => opE_skip rfl
  case o17x2 => exact fun _ _ _ _ => opE_skip rfl
  case o18x2 => exact fun _ _ _ _ => opE_skip rfl
  case o19x2 => exact fun _ _ _ _ => opE_skip rfl
  case o20x2 => exact fun _ _ _ _ => opE_skip rfl
  case o21x2 => exact fun _ _ _ _ => opE_skip rfl
  case o22x2 => exact fun _ _ _ _ => opE_pick (v := .bool true) _ _ _ rfl rfl true rfl rfl
  case o23x2 => exact fun _ _ _ _ => opE_assign (v := .bool true) _ rfl rfl rfl
  intro ptrs w7 GD hxE
  simp only [List.drop_succ_cons, List.drop_zero]
  replace HC := HC.gro ((Gro.refl _).drew.trans GD)
  replace HD := HD.gro ((Gro.refl _).drew.trans GD)
  replace HR := HR.gro ((Gro.refl _).drew.trans GD)
  replace GG := GG.drew.trans GD
  clear GD
  refine wpList_nil ?_
  refine then_n ?_
  refine wp_ret ?_
  refine bodyPost_ret (results_tmp Try.results3 _ _ _) rfl ?_
  exact ⟨rfl, GG⟩
set_option maxRecDepth 100000 in
set_option maxHeartbeats 4000000 in
theorem slateOpens_bad (w : World) (ao : Option Addr) (cap : Nat) (l : List Nat) (HN : NC w .u8 ao cap l) (hl : l.length ≤ 140737488355000) (h3 : 3 ≤ (min (l.length / 64) 4096)) (ho : opE (l.take ((min (l.length / 64) 4096) * 64)) (min (l.length / 64) 4096) = none) : Calls Try.prog 3 #[.slice ao l.length cap] w fun e w' => e = .returned (.bool true) ∧ Gro w w' := by
  refine s_enter Try.func3 rfl Try.ntmps3 [.slice ao l.length cap] [.slice ao l.length cap, undef, undef, undef, undef, undef, undef, undef, undef, undef, undef, undef, undef, undef, undef, undef, undef, undef, undef, undef, undef, undef, undef, undef, undef, undef, undef, undef, undef, undef, undef, undef, undef, undef, undef, undef, undef, undef, undef, undef, undef, undef, undef, undef, undef, undef, undef, undef, undef, undef, undef, undef, undef, undef, undef, undef, undef, undef, undef, undef, undef, undef, undef, undef, undef, undef, undef, undef, undef, undef, undef, undef, undef, undef, undef, undef, undef, undef, undef, undef, undef, undef, undef] rfl ?_
  have GG := Gro.refl w
  obtain ⟨m, hmm⟩ : ∃ m, min (l.length / 64) 4096 = m := ⟨_, rfl⟩
  obtain ⟨C, hCC⟩ : ∃ C, C = l.take (m * 64) := ⟨_, rfl⟩
  have hC : C.length = m * 64 := by rw [hCC, List.length_take]; omega
  have hm4 : m ≤ 4096 := by omega
  rw [hmm] at h3 ho
  rw [← hCC] at ho
  refine wp_seq ?_
  refine wp_region_lit ?_
  refine s_val 2 rfl rfl (.bool false) (rfl) ?_
  refine nr ?_; intro U h; simp only [z0, z1] at h; subst h
  refine wpList_nil ?_
  refine then_n ?_
  refine wp_seq ?_
  refine wp_region_lit ?_
  refine s_val 11 rfl rfl (.slice ao l.length cap) (rfl) ?_
  refine nr ?_; intro U h; simp only [z0, z1] at h; subst h
  refine s_callx 12 rfl rfl _ 9 Try.call9 rfl rfl _ rfl [.slice ao l.length cap, .int .i64 4096] rfl (sectors_any _ ao cap l HN hl) (fun _ _ ⟨_, _, he, _⟩ => ⟨_, he⟩) ?_
  rintro v w1 ⟨ao2, cap2, he, G, HC⟩
  cases he
  replace GG := GG.trans G
  clear G
  rw [hmm, ← hCC] at HC
  rw [hmm, ← hCC]
  have hbyte := HC.nc.lt256
  refine nr ?_; intro U h; simp only [z0, z1] at h; subst h
  refine s_val 0 rfl rfl (.slice ao2 C.length cap2) (rfl) ?_
  refine nr ?_; intro U h; simp only [z0] at h; subst h
  refine wpList_nil ?_
  refine then_n ?_
  refine wp_seq ?_
  refine wp_region_lit ?_
  refine s_val 14 rfl rfl (.slice ao2 C.length cap2) (rfl) ?_
  refine nr ?_; intro U h; simp only [z0, z1] at h; subst h
  refine s_callx 15 rfl rfl _ 10 Try.call10 rfl rfl _ rfl [.slice ao2 C.length cap2] rfl (pair_any _ ao2 cap2 C HC.nc m hC hm4) (fun _ _ ⟨_, _, _, _, _, he, _⟩ => ⟨_, he⟩) ?_
  rintro v w2 ⟨p, sg, rp, ro, rc, he, G, bp, bsg, brp, HD, HR⟩
  cases he
  replace HC := HC.gro G
  replace GG := GG.trans G
  clear G
  refine nr ?_; intro U h; simp only [z0, z1] at h; subst h
  refine s_val 13 rfl rfl (.tuple #[.pointer (some ⟨p, 0, none⟩), .pointer (some ⟨rp, 0, none⟩)]) (rfl) ?_
  refine nr ?_; intro U h; simp only [z0, z1] at h; subst h
  refine s_val 16 rfl rfl (.pointer (some ⟨p, 0, none⟩)) (rfl) ?_
  refine nr ?_; intro U h; simp only [z0, z1] at h; subst h
  refine s_val 17 rfl rfl (.pointer (some ⟨rp, 0, none⟩)) (rfl) ?_
  refine nr ?_; intro U h; simp only [z0, z1] at h; subst h
  refine s_val 3 rfl rfl (.pointer (some ⟨p, 0, none⟩)) (rfl) ?_
  refine nr ?_; intro U h; simp only [z0, z1] at h; subst h
  refine s_val 4 rfl rfl (.pointer (some ⟨rp, 0, none⟩)) (rfl) ?_
  refine nr ?_; intro U h; simp only [z0, z1] at h; subst h
  refine wpList_nil ?_
  refine then_n ?_
  refine wp_seq ?_
  refine wp_seq ?_
  refine wp_region_opq ?_
  intro OPS hY
  have y2 := hY 2 20 rfl
  clear hY
  refine s_val 18 rfl rfl (.pointer (some ⟨p, 0, none⟩)) (rfl) ?_
  refine nr ?_; intro U h; simp only [z0, z1] at h; subst h
  refine s_val 19 rfl rfl (.bool false) (run_eqnp 24 _ _ _ rfl _ rfl rfl Try.underlying24 _) ?_
  refine nr ?_; intro U h; simp only [z0, z1] at h; subst h
  refine s_val 20 rfl rfl (.bool false) (rfl) ?_
  refine nr ?_; intro U h; simp only [z0, z1] at h; subst h
  refine s_gcallvY 21 rfl rfl y2 rfl _ 11 Try.call11 rfl rfl _ rfl [] rfl (fixed_true _) ?_
  intro w3 G
  replace HC := HC.gro G
  replace HD := HD.gro G
  replace HR := HR.gro G
  replace GG := GG.trans G
  clear G
  refine nr ?_; intro U h; simp only [z0, z1] at h; subst h
  refine s_gvalY 22 rfl rfl y2 rfl (.bool false) (run_nt _ _ rfl true rfl) ?_
  refine nr ?_; intro U h; simp only [z0, z1] at h; subst h
  refine s_val 23 rfl rfl (.bool false) (rfl) ?_
  refine nr ?_; intro U h; simp only [z0, z1] at h; subst h
  refine wpList_nil ?_
  refine then_n ?_
  refine wp_cond_false rfl ?_
  refine wp_skip ?_
  refine then_n ?_
  refine wp_seq ?_
  refine wp_region_lit ?_
  refine s_val 25 rfl rfl (.pointer (some ⟨p, 0, none⟩)) (rfl) ?_
  refine nr ?_; intro U h; simp only [z0, z1] at h; subst h
  refine s_callv 26 rfl rfl _ 12 Try.call12 rfl rfl _ rfl [.pointer (some ⟨p, 0, none⟩)] rfl (open_bad _ p sg m C (-1) 0 HD h3 ho) ?_
  intro w4 G
  replace HC := HC.gro G
  replace HD := HD.gro G
  replace HR := HR.gro G
  replace GG := GG.trans G
  clear G
  refine nr ?_; intro U h; simp only [z0, z1] at h; subst h
  refine s_val 24 rfl rfl (.tuple #[.pointer none, .slice none 0 0, .int .i64 2]) (rfl) ?_
  refine nr ?_; intro U h; simp only [z0, z1] at h; subst h
  refine s_val 27 rfl rfl (.pointer none) (rfl) ?_
  refine nr ?_; intro U h; simp only [z0, z1] at h; subst h
  refine s_val 28 rfl rfl (.slice none 0 0) (rfl) ?_
  refine nr ?_; intro U h; simp only [z0, z1] at h; subst h
  refine s_val 29 rfl rfl (.int .i64 2) (rfl) ?_
  refine nr ?_; intro U h; simp only [z0, z1] at h; subst h
  refine s_val 5 rfl rfl (.pointer none) (rfl) ?_
  refine nr ?_; intro U h; simp only [z0, z1] at h; subst h
  refine s_val 6 rfl rfl (.slice none 0 0) (rfl) ?_
  refine nr ?_; intro U h; simp only [z0, z1] at h; subst h
  refine s_val 7 rfl rfl (.int .i64 2) (rfl) ?_
  refine nr ?_; intro U h; simp only [z0, z1] at h; subst h
  refine wpList_nil ?_
  refine then_n ?_
  refine wp_seq ?_
  refine wp_region_lit ?_
  refine s_val 31 rfl rfl (.pointer (some ⟨rp, 0, none⟩)) (rfl) ?_
  refine nr ?_; intro U h; simp only [z0, z1] at h; subst h
  refine s_callv 32 rfl rfl _ 13 Try.call13 rfl rfl _ rfl [.pointer (some ⟨rp, 0, none⟩)] rfl (ropen_bad _ rp _ ro rc m C (-1) 0 HR h3 ho) ?_
  intro w5 G
  replace HC := HC.gro G
  replace HD := HD.gro G
  replace HR := HR.gro G
  replace GG := GG.trans G
  clear G
  refine nr ?_; intro U h; simp only [z0, z1] at h; subst h
  refine s_val 30 rfl rfl (.tuple #[.pointer none, .slice none 0 0, .int .i64 2]) (rfl) ?_
  refine nr ?_; intro U h; simp only [z0, z1] at h; subst h
  refine s_val 33 rfl rfl (.pointer none) (rfl) ?_
  refine nr ?_; intro U h; simp only [z0, z1] at h; subst h
  refine s_val 34 rfl rfl (.slice none 0 0) (rfl) ?_
  refine nr ?_; intro U h; simp only [z0, z1] at h; subst h
  refine s_val 35 rfl rfl (.int .i64 2) (rfl) ?_
  refine nr ?_; intro U h; simp only [z0, z1] at h; subst h
  refine s_val 8 rfl rfl (.pointer none) (rfl) ?_
  refine nr ?_; intro U h; simp only [z0, z1] at h; subst h
  refine s_val 9 rfl rfl (.slice none 0 0) (rfl) ?_
  refine nr ?_; intro U h; simp only [z0, z1] at h; subst h
  refine s_val 10 rfl rfl (.int .i64 2) (rfl) ?_
  refine nr ?_; intro U h; simp only [z0, z1] at h; subst h
  refine wpList_nil ?_
  refine then_n ?_
  refine wp_seq ?_
  refine wp_seq ?_
  refine wp_region_exA (A := ?Ax3) 22 [(0, 36), (1, 37), (2, 38), (3, 39), (4, 40), (5, 41), (6, 42), (7, 43), (8, 44), (9, 45), (10, 46), (11, 47), (12, 48), (13, 49), (14, 50), (15, 51), (16, 52), (17, 53), (18, 54), (19, 55), (20, 56), (21, 57)] [.val (.int .i64 2), .val (.int .i64 2), .val (.bool false), .val (.bool false), .val (.pointer none), .val (.bool true), .val (.pointer none), .val (.bool true), .val (.bool false), .val (.bool false), .val (.bool false), .val (.slice none 0 0), .val (.slice none 0 0), .val (.bool true), .val (.bool false), .val (.bool false), .val (.bool false), .val (.pointer (some ⟨p, 0, none⟩)), browE C, .val (.string (bas C)), .val (.slice ao2 C.length cap2), .val (.string (bas C))] follows (by kernel_rfl) rfl ?hAx3 (opsA_cons ?o0x3 (opsA_cons ?o1x3 (opsA_cons ?o2x3 (opsA_cons ?o3x3 (opsA_cons ?o4x3 (opsA_cons ?o5x3 (opsA_cons ?o6x3 (opsA_cons ?o7x3 (opsA_cons ?o8x3 (opsA_cons ?o9x3 (opsA_cons ?o10x3 (opsA_cons ?o11x3 (opsA_cons ?o12x3 (opsA_cons ?o13x3 (opsA_cons ?o14x3 (opsA_cons ?o15x3 (opsA_cons ?o16x3 (opsA_cons ?o17x3 (opsA_cons ?o18x3 (opsA_cons ?o19x3 (opsA_cons ?o20x3 (opsA_cons ?o21x3 opsA_nil)))))))))))))))))))))) ?restx3
  case hAx3 =>
    intro ptrs
    simp only [full, foldSlots, filledE, postE, List.foldl_cons, List.foldl_nil, List.getD_cons_zero, List.getD_cons_succ, fill_val, fill_brow, List.set_cons_zero, List.set_cons_succ]
    exact rfl
  case o0x3 => exact fun _ _ _ _ => opE_move (v := .int .i64 2) _ rfl rfl rfl
  case o1x3 => exact fun _ _ _ _ => opE_move (v := .int .i64 2) _ rfl rfl rfl
  case o2x3 => exact fun _ _ hw _ => opE_value (v := .bool false) rfl (run_neq_k 31 .i64 _ _ _ rfl Try.underlying31 2 2 rfl rfl false rfl _)
  case o3x3 => exact fun _ _ _ _ => opE_move (v := .bool false) _ rfl rfl rfl
  case o4x3 => exact fun _ _ _ _ => opE_move (v := .pointer none) _ rfl rfl rfl
  case o5x3 => exact fun _ _ hw _ => opE_value (v := .bool true) rfl (run_eqnn 29 _ _ _ rfl rfl rfl Try.underlying29 _)
  case o6x3 => exact fun _ _ _ _ => opE_move (v := .pointer none) _ rfl rfl rfl
  case o7x3 => exact fun _ _ hw _ => opE_value (v := .bool true) rfl (run_eqnn 34 _ _ _ rfl rfl rfl Try.underlying34 _)
  case o8x3 => exact fun _ _ hw _ => opE_value (v := .bool false) rfl (run_neB 4 _ _ _ rfl true true rfl rfl Try.underlying4 false rfl _)
  case o9x3 => exact fun _ _ _ _ => opE_pick (v := .bool false) _ _ _ rfl rfl false rfl rfl
  case o10x3 => exact fun _ _ _ _ => opE_move (v := .bool false) _ rfl rfl rfl
  case o11x3 => exact fun _ _ _ _ => opE_move (v := .slice none 0 0) _ rfl rfl rfl
  case o12x3 => exact fun _ _ _ _ => opE_move (v := .slice none 0 0) _ rfl rfl rfl
  case o13x3 => exact fun _ _ hw _ => opE_call (.val (.bool true)) rfl _ 14 Try.call14 rfl rfl _ rfl [.slice none 0 0, .slice none 0 0] rfl ((sameAll_t _ none 0 [] (LC.nil _) none 0 [] (LC.nil _) 0 0 rfl rfl (by decide) rfl).mono fun e w' ⟨he, hg⟩ => ⟨_, he, hg, rfl⟩)
  case o14x3 => exact fun _ _ hw _ => opE_value (v := .bool false) rfl (run_nt _ _ rfl true rfl)
  case o15x3 => exact fun _ _ _ _ => opE_pick (v := .bool false) _ _ _ rfl rfl false rfl rfl
  case o16x3 => exact fun _ _ _ _ => opE_move (v := .bool false) _ rfl rfl rfl
  case o17x3 => exact fun _ _ _ _ => opE_move (v := .pointer (some ⟨p, 0, none⟩)) _ rfl rfl rfl
  case o18x3 => exact fun _ _ hw _ => opE_call (browE C) rfl _ 15 Try.call15 rfl rfl _ rfl [.pointer (some ⟨p, 0, none⟩)] rfl ((bytes_len _ p sg m C (-1) 0 (HD.gro ((Gro.refl _).drew.trans hw))).mono fun e w' ⟨g, he, hg, _, hk⟩ => ⟨_, he, hg, g, rfl, hk⟩)
  case o19x3 =>
    intro ptrs w' hw hE
    obtain ⟨⟨gz, hz, oz⟩, _⟩ := hE
    exact opE_value (v := .string (bas C)) rfl (run_text_op bT 9 Try.underlying9 _ rfl (l := C) (by exact hz) (nc_all oz hbyte))
  case o20x3 => exact fun _ _ _ _ => opE_move (v := .slice ao2 C.length cap2) _ rfl rfl rfl
  case o21x3 => exact fun _ _ hw _ => opE_value (v := .string (bas C)) rfl (run_text_op bT 9 Try.underlying9 _ rfl (l := C) rfl (HC.gro ((Gro.refl _).drew.trans hw)).nc)
  intro ptrs w6 GD hxE
  simp only [List.drop_succ_cons, List.drop_zero]
  replace HC := HC.gro ((Gro.refl _).drew.trans GD)
  replace HD := HD.gro ((Gro.refl _).drew.trans GD)
  replace HR := HR.gro ((Gro.refl _).drew.trans GD)
  replace GG := GG.drew.trans GD
  clear GD
  refine s_gval 58 rfl rfl (.bool false) (run_nes_op _ _ _ rfl _ _ rfl rfl false (decide_eq_true rfl) _) ?_
  refine nr ?_; intro U h; simp only [z0, z1] at h; subst h
  refine s_val 59 rfl rfl (.bool false) (rfl) ?_
  refine nr ?_; intro U h; simp only [z0, z1] at h; subst h
  refine wpList_nil ?_
  refine then_n ?_
  refine wp_cond_false rfl ?_
  refine wp_skip ?_
  refine then_n ?_
  refine wp_seq ?_
  refine wp_region_exA (A := ?Ax4) 24 [(0, 60), (1, 61), (2, 62), (3, 63), (4, 64), (5, 65), (6, 66), (7, 67), (8, 68), (9, 69), (10, 70), (11, 71), (12, 72), (13, 73), (14, 74), (15, 75), (16, 76), (17, 77), (18, 78), (19, 79), (20, 80), (21, 81), (22, 82), (23, 2)] [.val (.pointer none), .val (.bool true), .val (.bool true), .val undef, .val undef, .val undef, .val undef, .val undef, .val undef, .val undef, .val undef, .val undef, .val undef, .val undef, .val undef, .val undef, .val undef, .val undef, .val undef, .val undef, .val undef, .val undef, .val (.bool true), .val (.bool true)] follows (by kernel_rfl) rfl ?hAx4 (opsA_cons ?o0x4 (opsA_cons ?o1x4 (opsA_cons ?o2x4 (opsA_cons ?o3x4 (opsA_cons ?o4x4 (opsA_cons ?o5x4 (opsA_cons ?o6x4 (opsA_cons ?o7x4 (opsA_cons ?o8x4 (opsA_cons ?o9x4 (opsA_cons ?o10x4 (opsA_cons ?o11x4 (opsA_cons ?o12x4 (opsA_cons ?o13x4 (opsA_cons ?o14x4 (opsA_cons ?o15x4 (opsA_cons ?o16x4 (opsA_cons ?o17x4 (opsA_cons ?o18x4 (opsA_cons ?o19x4 (opsA_cons ?o20x4 (opsA_cons ?o21x4 (opsA_cons ?o22x4 (opsA_cons ?o23x4 opsA_nil)))))))))))))))))))))))) ?restx4
  case hAx4 =>
    intro ptrs
    simp only [full, foldSlots, filledE, postE, List.foldl_cons, List.foldl_nil, List.getD_cons_zero, List.getD_cons_succ, fill_val, List.set_cons_zero, List.set_cons_succ]
    exact rfl
  case o0x4 => exact fun _ _ _ _ => opE_move (v := .pointer none) _ rfl rfl rfl
  case o1x4 => exact fun _ _ hw _ => opE_value (v := .bool true) rfl (run_eqnn 29 _ _ _ rfl rfl rfl Try.underlying29 _)
  case o2x4 => exact fun _ _ _ _ => opE_move (v := .bool true) _ rfl rfl rfl
  case o3x4 => exact fun _ _ _ _ => opE_skip rfl
  case o4x4 => exact fun _ _ _ _ => opE_skip rfl
  case o5x4 => exact fun _ _ _ _ => opE_skip rfl
  case o6x4 => exact fun _ _ _ _ => opE_skip rfl
  case o7x4 => exact fun _ _ _ _ => opE_skip rfl
  case o8x4 => exact fun _ _ _ _ => opE_skip rfl
  case o9x4 => exact fun _ _ _ _ => opE_skip rfl
  case o10x4 => exact fun _ _ _ _ => opE_skip rfl
  case o11x4 => exact fun _ _ _ _ => opE_skip rfl
  case o12x4 => exact fun _ _ _ _ => opE_skip rfl
  case o13x4 => exact fun _ _ _ _ => opE_skip rfl
  case o14x4 => exact fun _ _ _ _ => opE_skip rfl
  case o15x4 => exact fun _ _ _ _ => opE_skip rfl
  case o16x4 => exact fun _ _ _ _ => opE_skip rfl
  case o17x4 => exact fun _ _ _ _ => opE_skip rfl
  case o18x4 => exact fun _ _ _ _ => opE_skip rfl
  case o19x4 => exact fun _ _ _ _ => opE_skip rfl
  case o20x4 => exact fun _ _ _ _ => opE_skip rfl
  case o21x4 => exact fun _ _ _ _ => opE_skip rfl
  case o22x4 => exact fun _ _ _ _ => opE_pick (v := .bool true) _ _ _ rfl rfl true rfl rfl
  case o23x4 => exact fun _ _ _ _ => opE_assign (v := .bool true) _ rfl rfl rfl
  intro ptrs w7 GD hxE
  simp only [List.drop_succ_cons, List.drop_zero]
  replace HC := HC.gro ((Gro.refl _).drew.trans GD)
  replace HD := HD.gro ((Gro.refl _).drew.trans GD)
  replace HR := HR.gro ((Gro.refl _).drew.trans GD)
  replace GG := GG.drew.trans GD
  clear GD
  refine wpList_nil ?_
  refine then_n ?_
  refine wp_ret ?_
  refine bodyPost_ret (results_tmp Try.results3 _ _ _) rfl ?_
  exact ⟨rfl, GG⟩
set_option maxRecDepth 100000 in
set_option maxHeartbeats 4000000 in
theorem slateOpens_ok (w : World) (ao : Option Addr) (cap : Nat) (l : List Nat) (HN : NC w .u8 ao cap l) (hl : l.length ≤ 140737488355000) (h3 : 3 ≤ (min (l.length / 64) 4096)) (rs : List (List Nat)) (ho : opE (l.take ((min (l.length / 64) 4096) * 64)) (min (l.length / 64) 4096) = some rs) : Calls Try.prog 3 #[.slice ao l.length cap] w fun e w' => e = .returned (.bool true) ∧ Gro w w' := by
  refine s_enter Try.func3 rfl Try.ntmps3 [.slice ao l.length cap] [.slice ao l.length cap, undef, undef, undef, undef, undef, undef, undef, undef, undef, undef, undef, undef, undef, undef, undef, undef, undef, undef, undef, undef, undef, undef, undef, undef, undef, undef, undef, undef, undef, undef, undef, undef, undef, undef, undef, undef, undef, undef, undef, undef, undef, undef, undef, undef, undef, undef, undef, undef, undef, undef, undef, undef, undef, undef, undef, undef, undef, undef, undef, undef, undef, undef, undef, undef, undef, undef, undef, undef, undef, undef, undef, undef, undef, undef, undef, undef, undef, undef, undef, undef, undef, undef] rfl ?_
  have GG := Gro.refl w
  obtain ⟨m, hmm⟩ : ∃ m, min (l.length / 64) 4096 = m := ⟨_, rfl⟩
  obtain ⟨C, hCC⟩ : ∃ C, C = l.take (m * 64) := ⟨_, rfl⟩
  have hC : C.length = m * 64 := by rw [hCC, List.length_take]; omega
  have hm4 : m ≤ 4096 := by omega
  rw [hmm] at h3 ho
  rw [← hCC] at ho
  refine wp_seq ?_
  refine wp_region_lit ?_
  refine s_val 2 rfl rfl (.bool false) (rfl) ?_
  refine nr ?_; intro U h; simp only [z0, z1] at h; subst h
  refine wpList_nil ?_
  refine then_n ?_
  refine wp_seq ?_
  refine wp_region_lit ?_
  refine s_val 11 rfl rfl (.slice ao l.length cap) (rfl) ?_
  refine nr ?_; intro U h; simp only [z0, z1] at h; subst h
  refine s_callx 12 rfl rfl _ 9 Try.call9 rfl rfl _ rfl [.slice ao l.length cap, .int .i64 4096] rfl (sectors_any _ ao cap l HN hl) (fun _ _ ⟨_, _, he, _⟩ => ⟨_, he⟩) ?_
  rintro v w1 ⟨ao2, cap2, he, G, HC⟩
  cases he
  replace GG := GG.trans G
  clear G
  rw [hmm, ← hCC] at HC
  rw [hmm, ← hCC]
  have hbyte := HC.nc.lt256
  refine nr ?_; intro U h; simp only [z0, z1] at h; subst h
  refine s_val 0 rfl rfl (.slice ao2 C.length cap2) (rfl) ?_
  refine nr ?_; intro U h; simp only [z0] at h; subst h
  refine wpList_nil ?_
  refine then_n ?_
  refine wp_seq ?_
  refine wp_region_lit ?_
  refine s_val 14 rfl rfl (.slice ao2 C.length cap2) (rfl) ?_
  refine nr ?_; intro U h; simp only [z0, z1] at h; subst h
  refine s_callx 15 rfl rfl _ 10 Try.call10 rfl rfl _ rfl [.slice ao2 C.length cap2] rfl (pair_any _ ao2 cap2 C HC.nc m hC hm4) (fun _ _ ⟨_, _, _, _, _, he, _⟩ => ⟨_, he⟩) ?_
  rintro v w2 ⟨p, sg, rp, ro, rc, he, G, bp, bsg, brp, HD, HR⟩
  cases he
  replace HC := HC.gro G
  replace GG := GG.trans G
  clear G
  refine nr ?_; intro U h; simp only [z0, z1] at h; subst h
  refine s_val 13 rfl rfl (.tuple #[.pointer (some ⟨p, 0, none⟩), .pointer (some ⟨rp, 0, none⟩)]) (rfl) ?_
  refine nr ?_; intro U h; simp only [z0, z1] at h; subst h
  refine s_val 16 rfl rfl (.pointer (some ⟨p, 0, none⟩)) (rfl) ?_
  refine nr ?_; intro U h; simp only [z0, z1] at h; subst h
  refine s_val 17 rfl rfl (.pointer (some ⟨rp, 0, none⟩)) (rfl) ?_
  refine nr ?_; intro U h; simp only [z0, z1] at h; subst h
  refine s_val 3 rfl rfl (.pointer (some ⟨p, 0, none⟩)) (rfl) ?_
  refine nr ?_; intro U h; simp only [z0, z1] at h; subst h
  refine s_val 4 rfl rfl (.pointer (some ⟨rp, 0, none⟩)) (rfl) ?_
  refine nr ?_; intro U h; simp only [z0, z1] at h; subst h
  refine wpList_nil ?_
  refine then_n ?_
  refine wp_seq ?_
  refine wp_seq ?_
  refine wp_region_opq ?_
  intro OPS hY
  have y2 := hY 2 20 rfl
  clear hY
  refine s_val 18 rfl rfl (.pointer (some ⟨p, 0, none⟩)) (rfl) ?_
  refine nr ?_; intro U h; simp only [z0, z1] at h; subst h
  refine s_val 19 rfl rfl (.bool false) (run_eqnp 24 _ _ _ rfl _ rfl rfl Try.underlying24 _) ?_
  refine nr ?_; intro U h; simp only [z0, z1] at h; subst h
  refine s_val 20 rfl rfl (.bool false) (rfl) ?_
  refine nr ?_; intro U h; simp only [z0, z1] at h; subst h
  refine s_gcallvY 21 rfl rfl y2 rfl _ 11 Try.call11 rfl rfl _ rfl [] rfl (fixed_true _) ?_
  intro w3 G
  replace HC := HC.gro G
  replace HD := HD.gro G
  replace HR := HR.gro G
  replace GG := GG.trans G
  clear G
  refine nr ?_; intro U h; simp only [z0, z1] at h; subst h
  refine s_gvalY 22 rfl rfl y2 rfl (.bool false) (run_nt _ _ rfl true rfl) ?_
  refine nr ?_; intro U h; simp only [z0, z1] at h; subst h
  refine s_val 23 rfl rfl (.bool false) (rfl) ?_
  refine nr ?_; intro U h; simp only [z0, z1] at h; subst h
  refine wpList_nil ?_
  refine then_n ?_
  refine wp_cond_false rfl ?_
  refine wp_skip ?_
  refine then_n ?_
  refine wp_seq ?_
  refine wp_region_lit ?_
  refine s_val 25 rfl rfl (.pointer (some ⟨p, 0, none⟩)) (rfl) ?_
  refine nr ?_; intro U h; simp only [z0, z1] at h; subst h
  refine s_callx 26 rfl rfl _ 12 Try.call12 rfl rfl _ rfl [.pointer (some ⟨p, 0, none⟩)] rfl (open_ok _ p sg m C (-1) 0 HD h3 rs ho) (fun _ _ ⟨_, _, _, _, he, _⟩ => ⟨_, he⟩) ?_
  rintro v w4 ⟨lp, ao5, cap5, q5, he, hq5, G, blp, HK, HL⟩
  cases he
  replace HC := HC.gro G
  replace HD := HD.gro G
  replace HR := HR.gro G
  replace GG := GG.trans G
  clear G
  refine nr ?_; intro U h; simp only [z0, z1] at h; subst h
  refine s_val 24 rfl rfl (.tuple #[.pointer (some ⟨lp, 0, none⟩), .slice ao5 q5.length cap5, .int .i64 0]) (rfl) ?_
  refine nr ?_; intro U h; simp only [z0, z1] at h; subst h
  refine s_val 27 rfl rfl (.pointer (some ⟨lp, 0, none⟩)) (rfl) ?_
  refine nr ?_; intro U h; simp only [z0, z1] at h; subst h
  refine s_val 28 rfl rfl (.slice ao5 q5.length cap5) (rfl) ?_
  refine nr ?_; intro U h; simp only [z0, z1] at h; subst h
  refine s_val 29 rfl rfl (.int .i64 0) (rfl) ?_
  refine nr ?_; intro U h; simp only [z0, z1] at h; subst h
  refine s_val 5 rfl rfl (.pointer (some ⟨lp, 0, none⟩)) (rfl) ?_
  refine nr ?_; intro U h; simp only [z0, z1] at h; subst h
  refine s_val 6 rfl rfl (.slice ao5 q5.length cap5) (rfl) ?_
  refine nr ?_; intro U h; simp only [z0, z1] at h; subst h
  refine s_val 7 rfl rfl (.int .i64 0) (rfl) ?_
  refine nr ?_; intro U h; simp only [z0, z1] at h; subst h
  refine wpList_nil ?_
  refine then_n ?_
  refine wp_seq ?_
  refine wp_region_lit ?_
  refine s_val 31 rfl rfl (.pointer (some ⟨rp, 0, none⟩)) (rfl) ?_
  refine nr ?_; intro U h; simp only [z0, z1] at h; subst h
  refine s_callx 32 rfl rfl _ 13 Try.call13 rfl rfl _ rfl [.pointer (some ⟨rp, 0, none⟩)] rfl (ropen_ok _ rp _ ro rc m C (-1) 0 HR h3 rs ho) (fun _ _ ⟨_, _, _, _, he, _⟩ => ⟨_, he⟩) ?_
  rintro v w5 ⟨mp, ao6, cap6, q6, he, hq6, G, bmp, HM, HQ⟩
  cases he
  replace HC := HC.gro G
  replace HD := HD.gro G
  replace HR := HR.gro G
  replace HK := HK.gro G
  replace HL := HL.gro G
  replace GG := GG.trans G
  clear G
  refine nr ?_; intro U h; simp only [z0, z1] at h; subst h
  have kmp := HM.box
  have hlt := open_some ho
  have hq5l : q5.length < 9223372036854775807 := by have := congrArg List.length hq5; rw [List.length_map] at this; omega
  refine s_val 30 rfl rfl (.tuple #[.pointer (some ⟨mp, 0, none⟩), .slice ao6 q6.length cap6, .int .i64 0]) (rfl) ?_
  refine nr ?_; intro U h; simp only [z0, z1] at h; subst h
  refine s_val 33 rfl rfl (.pointer (some ⟨mp, 0, none⟩)) (rfl) ?_
  refine nr ?_; intro U h; simp only [z0, z1] at h; subst h
  refine s_val 34 rfl rfl (.slice ao6 q6.length cap6) (rfl) ?_
  refine nr ?_; intro U h; simp only [z0, z1] at h; subst h
  refine s_val 35 rfl rfl (.int .i64 0) (rfl) ?_
  refine nr ?_; intro U h; simp only [z0, z1] at h; subst h
  refine s_val 8 rfl rfl (.pointer (some ⟨mp, 0, none⟩)) (rfl) ?_
  refine nr ?_; intro U h; simp only [z0, z1] at h; subst h
  refine s_val 9 rfl rfl (.slice ao6 q6.length cap6) (rfl) ?_
  refine nr ?_; intro U h; simp only [z0, z1] at h; subst h
  refine s_val 10 rfl rfl (.int .i64 0) (rfl) ?_
  refine nr ?_; intro U h; simp only [z0, z1] at h; subst h
  refine wpList_nil ?_
  refine then_n ?_
  refine wp_seq ?_
  refine wp_seq ?_
  refine wp_region_exA (A := ?Ax5) 22 [(0, 36), (1, 37), (2, 38), (3, 39), (4, 40), (5, 41), (6, 42), (7, 43), (8, 44), (9, 45), (10, 46), (11, 47), (12, 48), (13, 49), (14, 50), (15, 51), (16, 52), (17, 53), (18, 54), (19, 55), (20, 56), (21, 57)] [.val (.int .i64 0), .val (.int .i64 0), .val (.bool false), .val (.bool false), .val (.pointer (some ⟨lp, 0, none⟩)), .val (.bool false), .val (.pointer (some ⟨mp, 0, none⟩)), .val (.bool false), .val (.bool false), .val (.bool false), .val (.bool false), .val (.slice ao5 q5.length cap5), .val (.slice ao6 q6.length cap6), .val (.bool true), .val (.bool false), .val (.bool false), .val (.bool false), .val (.pointer (some ⟨p, 0, none⟩)), browE C, .val (.string (bas C)), .val (.slice ao2 C.length cap2), .val (.string (bas C))] follows (by kernel_rfl) rfl ?hAx5 (opsA_cons ?o0x5 (opsA_cons ?o1x5 (opsA_cons ?o2x5 (opsA_cons ?o3x5 (opsA_cons ?o4x5 (opsA_cons ?o5x5 (opsA_cons ?o6x5 (opsA_cons ?o7x5 (opsA_cons ?o8x5 (opsA_cons ?o9x5 (opsA_cons ?o10x5 (opsA_cons ?o11x5 (opsA_cons ?o12x5 (opsA_cons ?o13x5 (opsA_cons ?o14x5 (opsA_cons ?o15x5 (opsA_cons ?o16x5 (opsA_cons ?o17x5 (opsA_cons ?o18x5 (opsA_cons ?o19x5 (opsA_cons ?o20x5 (opsA_cons ?o21x5 opsA_nil)))))))))))))))))))))) ?restx5
  case hAx5 =>
    intro ptrs
    simp only [full, foldSlots, filledE, postE, List.foldl_cons, List.foldl_nil, List.getD_cons_zero, List.getD_cons_succ, fill_val, fill_brow, List.set_cons_zero, List.set_cons_succ]
    exact rfl
  case o0x5 => exact fun _ _ _ _ => opE_move (v := .int .i64 0) _ rfl rfl rfl
  case o1x5 => exact fun _ _ _ _ => opE_move (v := .int .i64 0) _ rfl rfl rfl
  case o2x5 => exact fun _ _ hw _ => opE_value (v := .bool false) rfl (run_neq_k 31 .i64 _ _ _ rfl Try.underlying31 0 0 rfl rfl false rfl _)
  case o3x5 => exact fun _ _ _ _ => opE_move (v := .bool false) _ rfl rfl rfl
  case o4x5 => exact fun _ _ _ _ => opE_move (v := .pointer (some ⟨lp, 0, none⟩)) _ rfl rfl rfl
  case o5x5 => exact fun _ _ hw _ => opE_value (v := .bool false) rfl (run_eqnp 29 _ _ _ rfl _ rfl rfl Try.underlying29 _)
  case o6x5 => exact fun _ _ _ _ => opE_move (v := .pointer (some ⟨mp, 0, none⟩)) _ rfl rfl rfl
  case o7x5 => exact fun _ _ hw _ => opE_value (v := .bool false) rfl (run_eqnp 34 _ _ _ rfl _ rfl rfl Try.underlying34 _)
  case o8x5 => exact fun _ _ hw _ => opE_value (v := .bool false) rfl (run_neB 4 _ _ _ rfl false false rfl rfl Try.underlying4 false rfl _)
  case o9x5 => exact fun _ _ _ _ => opE_pick (v := .bool false) _ _ _ rfl rfl false rfl rfl
  case o10x5 => exact fun _ _ _ _ => opE_move (v := .bool false) _ rfl rfl rfl
  case o11x5 => exact fun _ _ _ _ => opE_move (v := .slice ao5 q5.length cap5) _ rfl rfl rfl
  case o12x5 => exact fun _ _ _ _ => opE_move (v := .slice ao6 q6.length cap6) _ rfl rfl rfl
  case o13x5 => exact fun _ _ hw _ => opE_call (.val (.bool true)) rfl _ 14 Try.call14 rfl rfl _ rfl [.slice ao5 q5.length cap5, .slice ao6 q6.length cap6] rfl ((sameAll_t _ ao5 cap5 _ (HL.gro ((Gro.refl _).drew.trans hw)).lc ao6 cap6 _ (HQ.gro ((Gro.refl _).drew.trans hw)).lc q5.length q6.length (List.length_map _) (List.length_map _) hq5l (hq5.symm.trans hq6)).mono fun e w' ⟨he, hg⟩ => ⟨_, he, hg, rfl⟩)
  case o14x5 => exact fun _ _ hw _ => opE_value (v := .bool false) rfl (run_nt _ _ rfl true rfl)
  case o15x5 => exact fun _ _ _ _ => opE_pick (v := .bool false) _ _ _ rfl rfl false rfl rfl
  case o16x5 => exact fun _ _ _ _ => opE_move (v := .bool false) _ rfl rfl rfl
  case o17x5 => exact fun _ _ _ _ => opE_move (v := .pointer (some ⟨p, 0, none⟩)) _ rfl rfl rfl
  case o18x5 => exact fun _ _ hw _ => opE_call (browE C) rfl _ 15 Try.call15 rfl rfl _ rfl [.pointer (some ⟨p, 0, none⟩)] rfl ((bytes_len _ p sg m C (-1) 0 (HD.gro ((Gro.refl _).drew.trans hw))).mono fun e w' ⟨g, he, hg, _, hk⟩ => ⟨_, he, hg, g, rfl, hk⟩)
  case o19x5 =>
    intro ptrs w' hw hE
    obtain ⟨⟨gz, hz, oz⟩, _⟩ := hE
    exact opE_value (v := .string (bas C)) rfl (run_text_op bT 9 Try.underlying9 _ rfl (l := C) (by exact hz) (nc_all oz hbyte))
  case o20x5 => exact fun _ _ _ _ => opE_move (v := .slice ao2 C.length cap2) _ rfl rfl rfl
  case o21x5 => exact fun _ _ hw _ => opE_value (v := .string (bas C)) rfl (run_text_op bT 9 Try.underlying9 _ rfl (l := C) rfl (HC.gro ((Gro.refl _).drew.trans hw)).nc)
  intro ptrs w6 GD hxE
  simp only [List.drop_succ_cons, List.drop_zero]
  replace kmp := GD.has kmp
  replace HC := HC.gro ((Gro.refl _).drew.trans GD)
  replace HD := HD.gro ((Gro.refl _).drew.trans GD)
  replace HR := HR.gro ((Gro.refl _).drew.trans GD)
  replace HK := HK.gro ((Gro.refl _).drew.trans GD)
  replace HL := HL.gro ((Gro.refl _).drew.trans GD)
  replace HM := HM.gro ((Gro.refl _).drew.trans GD)
  replace HQ := HQ.gro ((Gro.refl _).drew.trans GD)
  replace GG := GG.drew.trans GD
  clear GD
  refine s_gval 58 rfl rfl (.bool false) (run_nes_op _ _ _ rfl _ _ rfl rfl false (decide_eq_true rfl) _) ?_
  refine nr ?_; intro U h; simp only [z0, z1] at h; subst h
  refine s_val 59 rfl rfl (.bool false) (rfl) ?_
  refine nr ?_; intro U h; simp only [z0, z1] at h; subst h
  refine wpList_nil ?_
  refine then_n ?_
  refine wp_cond_false rfl ?_
  refine wp_skip ?_
  refine then_n ?_
  refine wp_seq ?_
  refine wp_region_exA (A := ?Ax6) 14 [(0, 60), (1, 61), (2, 62), (3, 63), (4, 64), (5, 65), (6, 66), (7, 67), (8, 68), (9, 69), (10, 70), (11, 71), (12, 72), (13, 73)] [.val (.pointer (some ⟨lp, 0, none⟩)), .val (.bool false), .val (.bool false), .val (.pointer (some ⟨lp, 0, none⟩)), .val (.int .i64 (((cntE C).c : Nat) : Int)), .val (.pointer (some ⟨mp, 0, none⟩)), .val (.pointer (some ⟨mp, 0, none⟩)), .val (.pointer (some ⟨mp, 3, none⟩)), .val (.int .i64 (((cntE C).c : Nat) : Int)), .val (.bool true), .val (.bool true), .val (.pointer (some ⟨lp, 0, none⟩)), .val (.int .i64 ((m - 2 - (cntE C).u : Nat) : Int)), .val (.pointer (some ⟨mp, 0, none⟩))] follows (by kernel_rfl) rfl ?hAx6 (opsA_cons ?o0x6 (opsA_cons ?o1x6 (opsA_cons ?o2x6 (opsA_cons ?o3x6 (opsA_cons ?o4x6 (opsA_cons ?o5x6 (opsA_cons ?o6x6 (opsA_cons ?o7x6 (opsA_cons ?o8x6 (opsA_cons ?o9x6 (opsA_cons ?o10x6 (opsA_cons ?o11x6 (opsA_cons ?o12x6 (opsA_cons ?o13x6 opsA_nil)))))))))))))) ?restx6
  case hAx6 =>
    intro ptrs
    simp only [full, foldSlots, filledE, postE, List.foldl_cons, List.foldl_nil, List.getD_cons_zero, List.getD_cons_succ, fill_val, List.set_cons_zero, List.set_cons_succ]
    exact rfl
  case o0x6 => exact fun _ _ _ _ => opE_move (v := .pointer (some ⟨lp, 0, none⟩)) _ rfl rfl rfl
  case o1x6 => exact fun _ _ hw _ => opE_value (v := .bool false) rfl (run_eqnp 29 _ _ _ rfl _ rfl rfl Try.underlying29 _)
  case o2x6 => exact fun _ _ _ _ => opE_move (v := .bool false) _ rfl rfl rfl
  case o3x6 => exact fun _ _ _ _ => opE_move (v := .pointer (some ⟨lp, 0, none⟩)) _ rfl rfl rfl
  case o4x6 => exact fun _ _ hw _ => opE_call (.val (.int .i64 (((cntE C).c : Nat) : Int))) rfl _ 16 Try.call16 rfl rfl _ rfl [.pointer (some ⟨lp, 0, none⟩)] rfl ((len_any _ lp p (cntE C) false (HK.gro ((Gro.refl _).drew.trans hw)) (by omega)).mono fun e w' ⟨he, hg⟩ => ⟨_, he, hg, rfl⟩)
  case o5x6 => exact fun _ _ _ _ => opE_move (v := .pointer (some ⟨mp, 0, none⟩)) _ rfl rfl rfl
  case o6x6 => exact fun _ _ hw _ => opE_value (v := .pointer (some ⟨mp, 0, none⟩)) rfl (run_nc _ rfl _ rfl)
  case o7x6 => exact fun _ _ hw _ => opE_value (v := .pointer (some ⟨mp, 3, none⟩)) rfl (run_fld 42 _ 3 rfl _ _ rfl _ (by kernel_rfl))
  case o8x6 => exact fun _ _ hw _ => opE_value (v := .int .i64 (((cntE C).c : Nat) : Int)) rfl (run_ldc 3 _ rfl mp 3 rfl 42 _ (hw.has kmp) (na3 _) _ rfl)
  case o9x6 => exact fun _ _ hw _ => opE_value (v := .bool true) rfl (run_eq_k 3 .i64 _ _ _ rfl Try.underlying3 (((cntE C).c : Nat) : Int) (((cntE C).c : Nat) : Int) rfl rfl true (decide_eq_true (by omega)) _)
  case o10x6 => exact fun _ _ _ _ => opE_move (v := .bool true) _ rfl rfl rfl
  case o11x6 => exact fun _ _ _ _ => opE_move (v := .pointer (some ⟨lp, 0, none⟩)) _ rfl rfl rfl
  case o12x6 => exact fun _ _ hw _ => opE_call (.val (.int .i64 ((m - 2 - (cntE C).u : Nat) : Int))) rfl _ 17 Try.call17 rfl rfl _ rfl [.pointer (some ⟨lp, 0, none⟩)] rfl ((room_any _ lp p (cntE C) false (HK.gro ((Gro.refl _).drew.trans hw)) sg m C (-1) 0 (HD.gro ((Gro.refl _).drew.trans hw)) (by omega)).mono fun e w' ⟨he, hg⟩ => ⟨_, he, hg, rfl⟩)
  case o13x6 => exact fun _ _ _ _ => opE_move (v := .pointer (some ⟨mp, 0, none⟩)) _ rfl rfl rfl
  intro ptrs w7 GD hxE
  simp only [List.drop_succ_cons, List.drop_zero]
  replace kmp := GD.has kmp
  replace HC := HC.gro ((Gro.refl _).drew.trans GD)
  replace HD := HD.gro ((Gro.refl _).drew.trans GD)
  replace HR := HR.gro ((Gro.refl _).drew.trans GD)
  replace HK := HK.gro ((Gro.refl _).drew.trans GD)
  replace HL := HL.gro ((Gro.refl _).drew.trans GD)
  replace HM := HM.gro ((Gro.refl _).drew.trans GD)
  replace HQ := HQ.gro ((Gro.refl _).drew.trans GD)
  replace GG := GG.drew.trans GD
  clear GD
  refine s_gcallv 74 rfl rfl _ 18 Try.call18 rfl rfl _ rfl [.pointer (some ⟨mp, 0, none⟩)] rfl (rroom_any _ mp rp (cntE C) false (HM) _ ro rc m C (-1) 0 (HR) (by omega)) ?_
  intro w8 G
  replace kmp := G.has kmp
  replace HC := HC.gro G
  replace HD := HD.gro G
  replace HR := HR.gro G
  replace HK := HK.gro G
  replace HL := HL.gro G
  replace HM := HM.gro G
  replace HQ := HQ.gro G
  replace GG := GG.trans G
  clear G
  refine nr ?_; intro U h; simp only [z0, z1] at h; subst h
  refine s_gval 75 rfl rfl (.bool true) (run_eq_k 3 .i64 _ _ _ rfl Try.underlying3 ((m - 2 - (cntE C).u : Nat) : Int) ((m - 2 - (cntE C).u : Nat) : Int) rfl rfl true (decide_eq_true (by omega)) _) ?_
  refine nr ?_; intro U h; simp only [z0, z1] at h; subst h
  refine s_gval 76 rfl rfl (.bool true) (rfl) ?_
  refine nr ?_; intro U h; simp only [z0, z1] at h; subst h
  refine s_gval 77 rfl rfl (.bool true) (rfl) ?_
  refine nr ?_; intro U h; simp only [z0, z1] at h; subst h
  refine s_gval 78 rfl rfl (.pointer (some ⟨lp, 0, none⟩)) (rfl) ?_
  refine nr ?_; intro U h; simp only [z0, z1] at h; subst h
  refine s_gcallv 79 rfl rfl _ 19 Try.call19 rfl rfl _ rfl [.pointer (some ⟨lp, 0, none⟩)] rfl (down_any _ lp p (cntE C) false (HK)) ?_
  intro w9 G
  replace kmp := G.has kmp
  replace HC := HC.gro G
  replace HD := HD.gro G
  replace HR := HR.gro G
  replace HK := HK.gro G
  replace HL := HL.gro G
  replace HM := HM.gro G
  replace HQ := HQ.gro G
  replace GG := GG.trans G
  clear G
  refine nr ?_; intro U h; simp only [z0, z1] at h; subst h
  refine s_gval 80 rfl rfl (.bool true) (run_nt _ _ rfl false rfl) ?_
  refine nr ?_; intro U h; simp only [z0, z1] at h; subst h
  refine s_gval 81 rfl rfl (.bool true) (rfl) ?_
  refine nr ?_; intro U h; simp only [z0, z1] at h; subst h
  refine s_val 82 rfl rfl (.bool true) (rfl) ?_
  refine nr ?_; intro U h; simp only [z0, z1] at h; subst h
  refine s_val 2 rfl rfl (.bool true) (rfl) ?_
  refine nr ?_; intro U h; simp only [z0, z1] at h; subst h
  refine wpList_nil ?_
  refine then_n ?_
  refine wp_ret ?_
  refine bodyPost_ret (results_tmp Try.results3 _ _ _) rfl ?_
  exact ⟨rfl, GG⟩
theorem slateOpens_any (w : World) (ao : Option Addr) (cap : Nat) (l : List Nat) (HN : NC w .u8 ao cap l) (hl : l.length ≤ 140737488355000) : Calls Try.prog 3 #[.slice ao l.length cap] w fun e w' => e = .returned (.bool true) ∧ Gro w w' := by
  by_cases h3 : (min (l.length / 64) 4096) < 3
  · exact slateOpens_small w ao cap l HN hl h3
  · cases ho : opE (l.take ((min (l.length / 64) 4096) * 64)) (min (l.length / 64) 4096) with
    | none => exact slateOpens_bad w ao cap l HN hl (by omega) ho
    | some rs => exact slateOpens_ok w ao cap l HN hl (by omega) rs ho
end Go.Proofs.Ytaejjmoocnpdaaa
