/- From hand to hand an item comes to the nearest one. -/
import Derived.Test.YtjahegiopigblaaDC3
namespace Go.Proofs.Ytjahegiopigblaa
open Go.RowKit
def twA (p : Int × Int) : Array Value := #[.int .i64 p.1, .int .i64 p.2]
theorem ldTw0 {o : Oper} {A : Act} {w : World} {a b : Int} (y : Operand) (ho : o.op = .load 3 y) (g : Nat) (hx : A.eval y = .pointer (some ⟨g, 0, none⟩)) (hg : w.heap[g]? = some (.cells (twA (a, b)) 63 (0, 0))) : (execOp A.eval o).run Try.prog w = .ok (.value (.int .i64 a)) w :=
  run_ldc 3 y ho g 0 hx 63 _ hg (nac3 w) _ rfl
theorem ldTw1 {o : Oper} {A : Act} {w : World} {a b : Int} (y : Operand) (ho : o.op = .load 3 y) (g : Nat) (hx : A.eval y = .pointer (some ⟨g, 1, none⟩)) (hg : w.heap[g]? = some (.cells (twA (a, b)) 63 (0, 0))) : (execOp A.eval o).run Try.prog w = .ok (.value (.int .i64 b)) w :=
  run_ldc 3 y ho g 1 hx 63 _ hg (nac3 w) _ rfl
theorem run_iaTw {o : Oper} {A : Act} (x y : Operand) (ho : o.op = .indexAddr 63 x y) (g j : Nat) (hj : j < 2) (hx : A.eval x = .pointer (some ⟨g, 0, none⟩)) (hy : A.eval y = .int .i64 (j : Int)) (w : World) : (execOp A.eval o).run Try.prog w = .ok (.value (.pointer (some ⟨g, j, none⟩))) w := by
  have h : (Instr.indexAt 63 (.pointer (some ⟨g, 0, none⟩)) (.int .i64 (j : Int))).run Try.prog w = .ok (.pointer (some ⟨g, j, none⟩)) w := by
    have hjj : (j : Int) < 2 := by omega
    have hs : (sizeOf 3).run Try.prog w = .ok 1 w := by kernel_rfl
    simp only [Instr.indexAt, Sem.run_bind, run_underlying Try.underlying63, Result.andThen_ok]
    simp [Instr.sureAddr, asIntOf, hjj, add_at]
  unfold execOp
  simp only [ho, hx, hy, Sem.run_bind, h, Result.andThen_ok, Sem.run_pure]
theorem convIU2 {o : Oper} {A : Act} (x : Operand) (ho : o.op = .convert 3 58 x) (n : Nat) (hn : n < 18446744073709551616) (hx : A.eval x = .int .i64 (n : Int)) (w : World) : (execOp A.eval o).run Try.prog w = .ok (.value (.int .u64 (n : Int))) w := by
  have h := convIU x ho (n : Int) hx w
  have e : uN (n : Int) = n := by
    unfold uN
    omega
  rwa [e] at h
set_option maxRecDepth 100000 in
set_option maxHeartbeats 4000000 in
theorem copiesComes_any (ao : Option Addr) (cap : Nat) (l : List Nat) (k : Nat) (half at_ : Int) (w : World) (hk : k < top) (HL : RK kI w ao cap l) : Calls Try.prog 6 #[.slice ao l.length cap, .agg (idA k), .agg (twA (half, at_))] w (fun e w' => e = .returned (.bool true) ∧ Gro w w') := by
  refine s_enter Try.func6 rfl Try.ntmps6 [.slice ao l.length cap, .agg (idA k), .agg (twA (half, at_))] [.slice ao l.length cap, .agg (idA k), .agg (twA (half, at_)), undef, undef, undef, undef, undef, undef, undef, undef, undef, undef, undef, undef, undef, undef, undef, undef, undef, undef, undef, undef, undef, undef, undef, undef, undef, undef, undef, undef, undef, undef, undef, undef, undef, undef, undef, undef, undef, undef, undef, undef, undef, undef, undef, undef, undef, undef, undef, undef, undef, undef, undef, undef, undef, undef, undef, undef, undef, undef, undef, undef, undef, undef, undef, undef, undef, undef, undef, undef] rfl ?_
  have GG := Gro.refl w
  obtain ⟨t, ht⟩ : ∃ t, l.take 16 = t := ⟨_, rfl⟩
  have HT : RK kI w ao t.length t := ht ▸ HL.take 16
  have htl : t.length ≤ 16 := by rw [← ht, List.length_take]; omega
  obtain ⟨m3, hm3⟩ : ∃ m3, uN half % 3 = m3 := ⟨_, rfl⟩
  have hm3l : m3 < 3 := by omega
  have hhf : (1 : Int) ≤ ((1 + m3 : Nat) : Int) := by omega
  refine wp_seq ?_
  refine wp_region_lit ?_
  refine s_box 4 rfl rfl 23 _ rfl _ rfl (idA k) rfl ?_
  intro w1 g1 G eg1 kg1
  have bg1 := size_base GG eg1
  replace HL := HL.gro G
  replace HT := HT.gro G
  replace GG := GG.trans G
  clear G
  clear eg1
  refine nr ?_; intro U h; simp only [z0, z1] at h; subst h
  refine s_box 5 rfl rfl 63 _ rfl _ rfl (twA (half, at_)) rfl ?_
  intro w2 g2 G eg2 kg2
  have bg2 := size_base GG eg2
  replace kg1 := G.has kg1
  replace HL := HL.gro G
  replace HT := HT.gro G
  replace GG := GG.trans G
  clear G
  clear eg2
  refine nr ?_; intro U h; simp only [z0, z1] at h; subst h
  refine s_val 6 rfl rfl (.bool false) (rfl) ?_
  refine nr ?_; intro U h; simp only [z0, z1] at h; subst h
  refine wpList_nil ?_
  refine then_n ?_
  refine wp_seq ?_
  refine wp_region_exA (A := ?Ax1) 5 [(0, 12), (1, 13), (2, 14), (3, 15), (4, 7)] [.val (.pointer (some ⟨g2, 0, none⟩)), .val (.int .i64 half), .val (.pointer (some ⟨g2, 1, none⟩)), .val (.int .i64 at_), .val (.int .i64 half)] follows (by kernel_rfl) rfl ?hAx1 (opsA_cons ?o0x1 (opsA_cons ?o1x1 (opsA_cons ?o2x1 (opsA_cons ?o3x1 (opsA_cons ?o4x1 opsA_nil))))) ?restx1
  case hAx1 =>
    intro ptrs
    simp only [full, foldSlots, filledE, postE, List.foldl_cons, List.foldl_nil, List.getD_cons_zero, List.getD_cons_succ, fill_val, List.set_cons_zero, List.set_cons_succ]
    exact rfl
  case o0x1 => exact fun _ _ _ _ => opE_value (v := .pointer (some ⟨g2, 0, none⟩)) rfl (run_iaTw _ _ rfl g2 0 (by decide) rfl rfl _)
  case o1x1 => exact fun _ _ hw _ => opE_value (v := .int .i64 half) rfl (ldTw0 _ rfl g2 rfl (hw.has kg2))
  case o2x1 => exact fun _ _ _ _ => opE_value (v := .pointer (some ⟨g2, 1, none⟩)) rfl (run_iaTw _ _ rfl g2 1 (by decide) rfl rfl _)
  case o3x1 => exact fun _ _ hw _ => opE_value (v := .int .i64 at_) rfl (ldTw1 _ rfl g2 rfl (hw.has kg2))
  case o4x1 => exact fun _ _ _ _ => opE_assign (v := .int .i64 half) _ rfl rfl rfl
  intro ptrs w3 GD hxE
  simp only [List.drop_succ_cons, List.drop_zero]
  replace kg1 := GD.has kg1
  replace kg2 := GD.has kg2
  replace HL := HL.gro ((Gro.refl _).drew.trans GD)
  replace HT := HT.gro ((Gro.refl _).drew.trans GD)
  replace GG := GG.drew.trans GD
  clear GD
  refine s_val 8 rfl rfl (.int .i64 at_) (rfl) ?_
  refine nr ?_; intro U h; simp only [z0, z1] at h; subst h
  refine wpList_nil ?_
  refine then_n ?_
  refine wp_seq ?_
  refine wp_region_lit ?_
  refine s_val 16 rfl rfl (.slice ao l.length cap) (rfl) ?_
  refine nr ?_; intro U h; simp only [z0, z1] at h; subst h
  refine s_callv 17 rfl rfl _ 9 Try.call9 rfl rfl _ rfl [.slice ao l.length cap, .int .i64 16] rfl (Calls.valV (cutI_any ao cap l _ HL 16) (by rw [ht])) ?_
  intro w4 G
  replace kg1 := G.has kg1
  replace kg2 := G.has kg2
  replace HL := HL.gro G
  replace HT := HT.gro G
  replace GG := GG.trans G
  clear G
  refine nr ?_; intro U h; simp only [z0, z1] at h; subst h
  refine s_val 0 rfl rfl (.slice ao t.length t.length) (rfl) ?_
  refine nr ?_; intro U h; simp only [z0] at h; subst h
  refine wpList_nil ?_
  refine then_n ?_
  refine wp_seq ?_
  refine wp_seq ?_
  cases t0 : decide (((t.length : Nat) : Int) = 0)
  · have hpos : 0 < t.length := by have := of_decide_eq_false t0; omega
    obtain ⟨b, hb, hbl, hbn, _⟩ := best_spec k t t.length hpos
    have HA : All t := HT.alls
    have hnr : ∀ z ∈ t, nearN k z (t.getD b 0) = false := all_near hbn
    have hBt : (t.getD b 0) < top := HA _ (getD_inC hbl)
    obtain ⟨j, hj⟩ : ∃ j, uN at_ % t.length = j := ⟨_, rfl⟩
    have hjl : j < t.length := by rw [← hj]; exact Nat.mod_lt _ hpos
    refine wp_region_lit ?_
    refine s_val 18 rfl rfl (.slice ao t.length t.length) (rfl) ?_
    refine nr ?_; intro U h; simp only [z0, z1] at h; subst h
    refine s_val 19 rfl rfl (.int .i64 ((t.length : Nat) : Int)) (run_len Try.underlying24 _ rfl _ _ _ rfl _) ?_
    refine nr ?_; intro U h; simp only [z0, z1] at h; subst h
    refine s_val 20 rfl rfl (.bool false) (run_eq_k 3 .i64 _ _ _ rfl Try.underlying3 ((t.length : Nat) : Int) 0 rfl rfl false t0 _) ?_
    refine nr ?_; intro U h; simp only [z0, z1] at h; subst h
    refine wpList_nil ?_
    refine then_n ?_
    refine wp_cond_false rfl ?_
    refine wp_skip ?_
    refine then_n ?_
    refine wp_seq ?_
    refine wp_region_lit ?_
    refine s_val 22 rfl rfl (.int .i64 half) (rfl) ?_
    refine nr ?_; intro U h; simp only [z0, z1] at h; subst h
    refine s_val 23 rfl rfl (.int .u64 (((uN half) : Nat) : Int)) (convIU _ rfl half rfl _) ?_
    refine nr ?_; intro U h; simp only [z0, z1] at h; subst h
    refine s_val 24 rfl rfl (.int .u64 ((m3 : Nat) : Int)) (by rw [← hm3]; exact run_remN 58 58 _ _ rfl _ 3 rfl rfl (by decide) _) ?_
    refine nr ?_; intro U h; simp only [z0, z1] at h; subst h
    refine s_val 25 rfl rfl (.int .i64 ((m3 : Nat) : Int)) (convUI _ rfl m3 (by omega) rfl _) ?_
    refine nr ?_; intro U h; simp only [z0, z1] at h; subst h
    refine s_val 26 rfl rfl (.int .i64 ((1 + m3 : Nat) : Int)) (run_addI 3 _ _ _ rfl 1 ((m3 : Nat) : Int) ((1 + m3 : Nat) : Int) rfl rfl (by omega) (by omega) (by omega) _) ?_
    refine nr ?_; intro U h; simp only [z0, z1] at h; subst h
    refine s_val 7 rfl rfl (.int .i64 ((1 + m3 : Nat) : Int)) (rfl) ?_
    refine nr ?_; intro U h; simp only [z0, z1] at h; subst h
    refine wpList_nil ?_
    refine then_n ?_
    refine wp_seq ?_
    refine wp_region_lit ?_
    refine s_val 27 rfl rfl (.slice ao t.length t.length) (rfl) ?_
    refine nr ?_; intro U h; simp only [z0, z1] at h; subst h
    refine s_val 28 rfl rfl (.int .i64 at_) (rfl) ?_
    refine nr ?_; intro U h; simp only [z0, z1] at h; subst h
    refine s_val 29 rfl rfl (.int .u64 (((uN at_) : Nat) : Int)) (convIU _ rfl at_ rfl _) ?_
    refine nr ?_; intro U h; simp only [z0, z1] at h; subst h
    refine s_val 30 rfl rfl (.slice ao t.length t.length) (rfl) ?_
    refine nr ?_; intro U h; simp only [z0, z1] at h; subst h
    refine s_val 31 rfl rfl (.int .i64 ((t.length : Nat) : Int)) (run_len Try.underlying24 _ rfl _ _ _ rfl _) ?_
    refine nr ?_; intro U h; simp only [z0, z1] at h; subst h
    refine s_val 32 rfl rfl (.int .u64 ((t.length : Nat) : Int)) (convIU2 _ rfl t.length (by omega) rfl _) ?_
    refine nr ?_; intro U h; simp only [z0, z1] at h; subst h
    refine s_val 33 rfl rfl (.int .u64 ((j : Nat) : Int)) (by rw [← hj]; exact run_remN 58 58 _ _ rfl _ t.length rfl rfl (by omega) _) ?_
    refine nr ?_; intro U h; simp only [z0, z1] at h; subst h
    refine s_val 34 rfl rfl (.int .i64 ((j : Nat) : Int)) (convUI _ rfl j (by omega) rfl _) ?_
    refine nr ?_; intro U h; simp only [z0, z1] at h; subst h
    refine s_val 35 rfl rfl (.pointer (pK kI ao j 0)) (run_ixK rIk (HT) _ _ rfl rfl j rfl hjl) ?_
    refine nr ?_; intro U h; simp only [z0, z1] at h; subst h
    refine s_val 36 rfl rfl (.agg (idA (t.getD j 0))) (run_ldKI (HT) _ rfl j rfl hjl) ?_
    refine nr ?_; intro U h; simp only [z0, z1] at h; subst h
    refine s_alloc 9 rfl rfl 23 rfl _ zero23 (idA 0) rfl ?_
    intro w5 g3 G eg3 kg3
    have bg3 := size_base GG eg3
    have dg1g3 := lt_new kg1 eg3
    have dg2g3 := lt_new kg2 eg3
    have dHLg3 := HL.ne eg3
    have dHTg3 := HT.ne eg3
    replace kg1 := G.has kg1
    replace kg2 := G.has kg2
    replace HL := HL.gro G
    replace HT := HT.gro G
    replace GG := GG.trans G
    clear G
    clear eg3
    refine nr ?_; intro U h; simp only [z0, z1] at h; subst h
    refine s_store rfl rfl 23 _ _ rfl g3 0 rfl (.agg (idA (t.getD j 0))) rfl 23 _ kg3 (idA (t.getD j 0)) rfl (size23' _) (idA_fit _ _) (idA_one _) (idA (t.getD j 0)) (splice_whole _ _ (idA_sz _ _)) ?_
    intro w6 St
    replace kg1 := St.has (by omega) kg1
    replace kg2 := St.has (by omega) kg2
    replace HL := HL.st St dHLg3
    replace HT := HT.st St dHTg3
    replace GG := GG.store St bg3
    replace kg3 := St.new
    clear St
    refine wpList_nil ?_
    refine then_n ?_
    refine wp_seq ?_
    refine wp_seq ?_
    refine wp_region_lit ?_
    refine s_val 37 rfl rfl (.slice ao t.length t.length) (rfl) ?_
    refine nr ?_; intro U h; simp only [z0, z1] at h; subst h
    refine s_val 38 rfl rfl (.int .i64 ((t.length : Nat) : Int)) (run_len Try.underlying24 _ rfl _ _ _ rfl _) ?_
    refine nr ?_; intro U h; simp only [z0, z1] at h; subst h
    refine s_val 39 rfl rfl (.int .i64 0) (rfl) ?_
    refine nr ?_; intro U h; simp only [z0, z1] at h; subst h
    refine wpList_nil ?_
    refine then_n ?_
    refine wp_block ?_
    refine wp_loopN (fun mz az wv => ∃ (i : Nat) (x : Nat) (us1 : Nat → Value), mz = t.length - i ∧ az = ⟨[.slice ao t.length t.length, .agg (idA k), .agg (twA (half, at_)), undef, .pointer (some ⟨g1, 0, none⟩), .pointer (some ⟨g2, 0, none⟩), us1 0, .int .i64 ((1 + m3 : Nat) : Int), .int .i64 at_, .pointer (some ⟨g3, 0, none⟩), us1 1, us1 2, .pointer (some ⟨g2, 0, none⟩), .int .i64 half, .pointer (some ⟨g2, 1, none⟩), .int .i64 at_, .slice ao l.length cap, .slice ao t.length t.length, .slice ao t.length t.length, .int .i64 ((t.length : Nat) : Int), .bool false, undef, .int .i64 half, .int .u64 (((uN half) : Nat) : Int), .int .u64 ((m3 : Nat) : Int), .int .i64 ((m3 : Nat) : Int), .int .i64 ((1 + m3 : Nat) : Int), .slice ao t.length t.length, .int .i64 at_, .int .u64 (((uN at_) : Nat) : Int), .slice ao t.length t.length, .int .i64 ((t.length : Nat) : Int), .int .u64 ((t.length : Nat) : Int), .int .u64 ((j : Nat) : Int), .int .i64 ((j : Nat) : Int), .pointer (pK kI ao j 0), .agg (idA (t.getD j 0)), .slice ao t.length t.length, .int .i64 ((t.length : Nat) : Int), .int .i64 ((i : Nat) : Int), us1 3, us1 4, us1 5, us1 6, us1 7, us1 8, us1 9, us1 10, us1 11, us1 12, us1 13, us1 14, us1 15, us1 16, us1 17, us1 18, us1 19, us1 20, us1 21, us1 22, undef, undef, undef, undef, undef, undef, undef, undef, undef, undef, undef].toArray, []⟩ ∧ Gro w wv ∧ RK kI wv ao t.length t ∧ wv.heap[g1]? = some (.cells (idA k) 23 (0, 0)) ∧ wv.heap[g3]? = some (.cells (idA x) 23 (0, 0)) ∧ i ≤ t.length ∧ x ∈ t ∧ rkC k t x + i < t.length ∧ NE ao (t.flatMap kI.E).length g3) ?_ _ ⟨0, (t.getD j 0), (fun kz => ([.bool false, undef, undef, undef, undef, undef, undef, undef, undef, undef, undef, undef, undef, undef, undef, undef, undef, undef, undef, undef, undef, undef, undef] : List Value).getD kz undef), rfl, rfl, GG, HT, kg1, kg3, Nat.zero_le _, getD_inC hjl, rk_lt (getD_inC hjl), dHTg3⟩
    clear GG kg1 kg3 HL HT
    rintro mz az wv ⟨i, x, us1, rfl, rfl, GG, HT, kg1, kg3, hi, hxt, hrk, dHT9⟩
    have hx : x < top := HA x hxt
    refine wp_seq ?_
    cases t1 : decide (((i : Nat) : Int) < ((t.length : Nat) : Int))
    · exfalso
      have := of_decide_eq_false t1
      omega
    · have hlt : i < t.length := by have := of_decide_eq_true t1; omega
      refine wp_region_lit ?_
      refine s_val 40 rfl rfl (.bool true) (run_lssT 3 _ _ _ rfl ((i : Nat) : Int) ((t.length : Nat) : Int) rfl rfl true t1 _) ?_
      refine nr ?_; intro U h; simp only [z0, z1] at h; subst h
      refine wpList_nil ?_
      refine then_n ?_
      refine wp_seq ?_
      refine wp_cond_true rfl ?_
      refine wp_skip ?_
      refine then_n ?_
      refine wp_seq ?_
      refine wp_block ?_
      refine wp_seq ?_
      have hlw := want_len x t ((1 + m3 : Nat) : Int)
      refine wp_region_lit ?_
      refine s_val 41 rfl rfl (.agg (idA x)) (ldI0 _ rfl g3 rfl (kg3)) ?_
      refine nr ?_; intro U h; simp only [z0, z1] at h; subst h
      refine s_val 42 rfl rfl (.slice ao t.length t.length) (rfl) ?_
      refine nr ?_; intro U h; simp only [z0, z1] at h; subst h
      refine s_val 43 rfl rfl (.int .i64 ((1 + m3 : Nat) : Int)) (rfl) ?_
      refine nr ?_; intro U h; simp only [z0, z1] at h; subst h
      refine s_callx 44 rfl rfl _ 26 Try.call26 rfl rfl _ rfl [.agg (idA x), .slice ao t.length t.length, .int .i64 ((1 + m3 : Nat) : Int)] rfl (rwantK _ ao t.length t HT (by omega) x hx ((1 + m3 : Nat) : Int)) (by rintro _ _ ⟨_, _, he, _, _⟩; exact ⟨_, he⟩) ?_
      rintro v w7 ⟨ao1, cap1, he, G, HR1⟩
      cases he
      replace kg1 := G.has kg1
      replace kg3 := G.has kg3
      replace HT := HT.gro G
      replace GG := GG.trans G
      clear G
      refine nr ?_; intro U h; simp only [z0, z1] at h; subst h
      refine s_val 10 rfl rfl (.slice ao1 (want x t ((1 + m3 : Nat) : Int)).length cap1) (rfl) ?_
      refine nr ?_; intro U h; simp only [z0, z1] at h; subst h
      refine wpList_nil ?_
      refine then_n ?_
      refine wp_seq ?_
      refine wp_seq ?_
      rcases Classical.em (x = (t.getD b 0)) with e2 | e2
      · skip
        have hr := (ow_root (k := k) (a := x) HA (fun z hz => by rw [e2]; exact hnr z hz) ((1 + m3 : Nat) : Int)).1
        refine wp_region_lit ?_
        refine s_val 45 rfl rfl (.agg (idA x)) (ldI0 _ rfl g3 rfl (kg3)) ?_
        refine nr ?_; intro U h; simp only [z0, z1] at h; subst h
        refine s_val 46 rfl rfl (.slice ao1 (want x t ((1 + m3 : Nat) : Int)).length cap1) (rfl) ?_
        refine nr ?_; intro U h; simp only [z0, z1] at h; subst h
        refine s_val 47 rfl rfl (.agg (idA k)) (ldI0 _ rfl g1 rfl (kg1)) ?_
        refine nr ?_; intro U h; simp only [z0, z1] at h; subst h
        refine s_callv 48 rfl rfl _ 12 Try.call12 rfl rfl _ rfl [.agg (idA x), .slice ao1 (want x t ((1 + m3 : Nat) : Int)).length cap1, .agg (idA k)] rfl (Calls.bool (root_any x _ _ (want x t ((1 + m3 : Nat) : Int)) k _ hx hk HR1 (by omega)) hr) ?_
        intro w8 G
        replace kg1 := G.has kg1
        replace kg3 := G.has kg3
        replace HT := HT.gro G
        replace HR1 := HR1.gro G
        replace GG := GG.trans G
        clear G
        refine nr ?_; intro U h; simp only [z0, z1] at h; subst h
        refine wpList_nil ?_
        refine then_n ?_
        refine wp_cond_true rfl ?_
        refine wp_exit ?_
        refine then_x ?_
        refine blk_xn (by decide) ?_
        refine then_x ?_
        refine then_x ?_
        refine blk_x ?_
        refine then_n ?_
        refine wp_seq ?_
        have t3 : decide (x = (t.getD b 0)) = true := decide_eq_true e2
        refine wp_region_exA (A := ?Ax2) 10 [(0, 60), (1, 61), (2, 62), (3, 63), (4, 64), (5, 65), (6, 66), (7, 67), (8, 68), (9, 69)] [.val (.bool true), .val (.bool true), .val (.agg (idA x)), .val (.slice ao t.length t.length), .val (.agg (idA k)), .val (.slice ao t.length t.length), .val (.int .i64 ((b : Nat) : Int)), .val (.pointer (pK kI ao b 0)), .val (.agg (idA (t.getD b 0))), .val (.bool true)] follows (by kernel_rfl) rfl ?hAx2 (opsA_cons ?o0x2 (opsA_cons ?o1x2 (opsA_cons ?o2x2 (opsA_cons ?o3x2 (opsA_cons ?o4x2 (opsA_cons ?o5x2 (opsA_cons ?o6x2 (opsA_cons ?o7x2 (opsA_cons ?o8x2 (opsA_cons ?o9x2 opsA_nil)))))))))) ?restx2
        case hAx2 =>
          intro ptrs
          simp only [full, foldSlots, filledE, postE, List.foldl_cons, List.foldl_nil, List.getD_cons_zero, List.getD_cons_succ, fill_val, List.set_cons_zero, List.set_cons_succ]
          exact rfl
        case o0x2 =>
          intro ptrs w' hw hE
          exact opE_call (.val (.bool true)) rfl _ 11 Try.call11 rfl rfl _ rfl [] rfl ((fixed_any _).mono fun e w' ⟨he, hg⟩ => ⟨_, he, hg, rfl⟩)
        case o1x2 => exact fun _ _ _ _ => opE_move (v := .bool true) _ rfl rfl rfl
        case o2x2 => exact fun _ _ hw _ => opE_value (v := .agg (idA x)) rfl (ldI0 _ rfl g3 rfl (hw.has kg3))
        case o3x2 => exact fun _ _ _ _ => opE_move (v := .slice ao t.length t.length) _ rfl rfl rfl
        case o4x2 => exact fun _ _ hw _ => opE_value (v := .agg (idA k)) rfl (ldI0 _ rfl g1 rfl (hw.has kg1))
        case o5x2 => exact fun _ _ _ _ => opE_move (v := .slice ao t.length t.length) _ rfl rfl rfl
        case o6x2 =>
          intro ptrs w' hw hE
          exact opE_call (.val (.int .i64 ((b : Nat) : Int))) rfl _ 27 Try.call27 rfl rfl _ rfl [.agg (idA k), .slice ao t.length t.length] rfl ((rnestK k hk _ ao t.length t ((HT).gro ((Gro.refl _).drew.trans hw)) (by omega) b hb).mono fun e w' ⟨he, hg⟩ => ⟨_, he, hg, rfl⟩)
        case o7x2 => exact fun _ _ hw _ => opE_value (v := .pointer (pK kI ao b 0)) rfl (run_ixK rIk ((HT).gro ((Gro.refl _).drew.trans hw)) _ _ rfl rfl b rfl hbl)
        case o8x2 => exact fun _ _ hw _ => opE_value (v := .agg (idA (t.getD b 0))) rfl (run_ldKI ((HT).gro ((Gro.refl _).drew.trans hw)) _ rfl b rfl hbl)
        case o9x2 => exact fun _ _ _ _ => opE_value (v := .bool true) rfl (run_eqI _ _ _ rfl _ _ rfl rfl hx (atI HT hbl) true t3)
        intro ptrs w9 GD hxE
        simp only [List.drop_succ_cons, List.drop_zero]
        replace kg1 := GD.has kg1
        replace kg3 := GD.has kg3
        replace HT := HT.gro ((Gro.refl _).drew.trans GD)
        replace HR1 := HR1.gro ((Gro.refl _).drew.trans GD)
        replace GG := GG.drew.trans GD
        clear GD
        refine s_val 70 rfl rfl (.bool true) (rfl) ?_
        refine nr ?_; intro U h; simp only [z0, z1] at h; subst h
        refine s_val 6 rfl rfl (.bool true) (rfl) ?_
        refine nr ?_; intro U h; simp only [z0, z1] at h; subst h
        refine wpList_nil ?_
        refine then_n ?_
        refine wp_ret ?_
        refine bodyPost_ret (results_tmp Try.results6 _ _ _) rfl ?_
        exact ⟨rfl, GG⟩
      · skip
        obtain ⟨b1, hr, hw, hb1, hb2⟩ := ow_rises (a := x) HA hxt hk (getD_inC hbl) e2 hnr hhf
        have hb1t := HA b1 hb1
        refine wp_region_lit ?_
        refine s_val 45 rfl rfl (.agg (idA x)) (ldI0 _ rfl g3 rfl (kg3)) ?_
        refine nr ?_; intro U h; simp only [z0, z1] at h; subst h
        refine s_val 46 rfl rfl (.slice ao1 (want x t ((1 + m3 : Nat) : Int)).length cap1) (rfl) ?_
        refine nr ?_; intro U h; simp only [z0, z1] at h; subst h
        refine s_val 47 rfl rfl (.agg (idA k)) (ldI0 _ rfl g1 rfl (kg1)) ?_
        refine nr ?_; intro U h; simp only [z0, z1] at h; subst h
        refine s_callv 48 rfl rfl _ 12 Try.call12 rfl rfl _ rfl [.agg (idA x), .slice ao1 (want x t ((1 + m3 : Nat) : Int)).length cap1, .agg (idA k)] rfl (Calls.bool (root_any x _ _ (want x t ((1 + m3 : Nat) : Int)) k _ hx hk HR1 (by omega)) hr) ?_
        intro w8 G
        replace kg1 := G.has kg1
        replace kg3 := G.has kg3
        replace HT := HT.gro G
        replace HR1 := HR1.gro G
        replace GG := GG.trans G
        clear G
        refine nr ?_; intro U h; simp only [z0, z1] at h; subst h
        refine wpList_nil ?_
        refine then_n ?_
        refine wp_cond_false rfl ?_
        refine wp_skip ?_
        refine then_n ?_
        refine wp_seq ?_
        refine wp_region_lit ?_
        refine s_val 49 rfl rfl (.agg (idA x)) (ldI0 _ rfl g3 rfl (kg3)) ?_
        refine nr ?_; intro U h; simp only [z0, z1] at h; subst h
        refine s_val 50 rfl rfl (.slice ao1 (want x t ((1 + m3 : Nat) : Int)).length cap1) (rfl) ?_
        refine nr ?_; intro U h; simp only [z0, z1] at h; subst h
        refine s_val 51 rfl rfl (.agg (idA k)) (ldI0 _ rfl g1 rfl (kg1)) ?_
        refine nr ?_; intro U h; simp only [z0, z1] at h; subst h
        refine s_callx 52 rfl rfl _ 15 Try.call15 rfl rfl _ rfl [.agg (idA x), .slice ao1 (want x t ((1 + m3 : Nat) : Int)).length cap1, .agg (idA k)] rfl (RowR.to hw (RowN.r (owed_any x _ _ (want x t ((1 + m3 : Nat) : Int)) k _ hx hk HR1 (by omega)))) (by rintro _ _ ⟨_, _, he, _, _⟩; exact ⟨_, he⟩) ?_
        rintro v w9 ⟨ao2, cap2, he, G, HR2⟩
        cases he
        replace kg1 := G.has kg1
        replace kg3 := G.has kg3
        replace HT := HT.gro G
        replace HR1 := HR1.gro G
        replace GG := GG.trans G
        clear G
        refine nr ?_; intro U h; simp only [z0, z1] at h; subst h
        refine s_val 11 rfl rfl (.slice ao2 ([b1]).length cap2) (rfl) ?_
        refine nr ?_; intro U h; simp only [z0, z1] at h; subst h
        refine wpList_nil ?_
        refine then_n ?_
        refine wp_seq ?_
        refine wp_seq ?_
        refine wp_region_lit ?_
        refine s_val 53 rfl rfl (.slice ao2 ([b1]).length cap2) (rfl) ?_
        refine nr ?_; intro U h; simp only [z0, z1] at h; subst h
        refine s_val 54 rfl rfl (.int .i64 ((([b1]).length : Nat) : Int)) (run_len Try.underlying24 _ rfl _ _ _ rfl _) ?_
        refine nr ?_; intro U h; simp only [z0, z1] at h; subst h
        refine s_val 55 rfl rfl (.bool false) (run_neq_k 3 .i64 _ _ _ rfl Try.underlying3 1 1 rfl rfl false (by decide) _) ?_
        refine nr ?_; intro U h; simp only [z0, z1] at h; subst h
        refine wpList_nil ?_
        refine then_n ?_
        refine wp_cond_false rfl ?_
        refine wp_skip ?_
        refine then_n ?_
        refine wp_region_lit ?_
        refine s_val 56 rfl rfl (.slice ao2 ([b1]).length cap2) (rfl) ?_
        refine nr ?_; intro U h; simp only [z0, z1] at h; subst h
        refine s_val 57 rfl rfl (.pointer (pK kI ao2 0 0)) (run_ixK rIk (HR2) _ _ rfl rfl 0 rfl Nat.zero_lt_one) ?_
        refine nr ?_; intro U h; simp only [z0, z1] at h; subst h
        refine s_val 58 rfl rfl (.agg (idA b1)) (run_ldKI HR2 _ rfl 0 rfl Nat.zero_lt_one) ?_
        refine nr ?_; intro U h; simp only [z0, z1] at h; subst h
        refine s_store rfl rfl 23 _ _ rfl g3 0 rfl (.agg (idA b1)) rfl 23 _ kg3 (idA b1) rfl (size23' _) (idA_fit _ _) (idA_one _) (idA b1) (splice_whole _ _ (idA_sz _ _)) ?_
        intro w10 St
        replace kg1 := St.has (by omega) kg1
        replace HT := HT.st St dHTg3
        clear HR1
        clear HR2
        replace GG := GG.store St bg3
        replace kg3 := St.new
        clear St
        refine wpList_nil ?_
        refine blk_n ?_
        refine then_n ?_
        refine wp_region_lit ?_
        refine s_val 59 rfl rfl (.int .i64 ((i + 1 : Nat) : Int)) (run_addI 3 _ _ _ rfl ((i : Nat) : Int) 1 ((i + 1 : Nat) : Int) rfl rfl (by omega) (by omega) (by omega) _) ?_
        refine nr ?_; intro U h; simp only [z0, z1] at h; subst h
        refine s_val 39 rfl rfl (.int .i64 ((i + 1 : Nat) : Int)) (rfl) ?_
        refine nr ?_; intro U h; simp only [z0, z1] at h; subst h
        refine wpList_nil ?_
        refine then_n ?_
        exact ⟨_, by omega, i + 1, b1, (fun kz => ([us1 0, .slice ao1 (want x t ((1 + m3 : Nat) : Int)).length cap1, .slice ao2 ([b1]).length cap2, .bool true, .agg (idA x), .slice ao t.length t.length, .int .i64 ((1 + m3 : Nat) : Int), .slice ao1 (want x t ((1 + m3 : Nat) : Int)).length cap1, .agg (idA x), .slice ao1 (want x t ((1 + m3 : Nat) : Int)).length cap1, .agg (idA k), .bool false, .agg (idA x), .slice ao1 (want x t ((1 + m3 : Nat) : Int)).length cap1, .agg (idA k), .slice ao2 ([b1]).length cap2, .slice ao2 ([b1]).length cap2, .int .i64 ((([b1]).length : Nat) : Int), .bool false, .slice ao2 ([b1]).length cap2, .pointer (pK kI ao2 0 0), .agg (idA b1), .int .i64 ((i + 1 : Nat) : Int)] : List Value).getD kz undef), rfl, rfl, GG, HT, kg1, kg3, by omega, hb1, by have := rk_less hb1 hb2; omega, dHT9⟩
  · refine wp_region_lit ?_
    refine s_val 18 rfl rfl (.slice ao t.length t.length) (rfl) ?_
    refine nr ?_; intro U h; simp only [z0, z1] at h; subst h
    refine s_val 19 rfl rfl (.int .i64 ((t.length : Nat) : Int)) (run_len Try.underlying24 _ rfl _ _ _ rfl _) ?_
    refine nr ?_; intro U h; simp only [z0, z1] at h; subst h
    refine s_val 20 rfl rfl (.bool true) (run_eq_k 3 .i64 _ _ _ rfl Try.underlying3 ((t.length : Nat) : Int) 0 rfl rfl true t0 _) ?_
    refine nr ?_; intro U h; simp only [z0, z1] at h; subst h
    refine wpList_nil ?_
    refine then_n ?_
    refine wp_cond_true rfl ?_
    refine wp_seq ?_
    refine wp_region_lit ?_
    refine s_callv 21 rfl rfl _ 11 Try.call11 rfl rfl _ rfl [] rfl (fixed_any _) ?_
    intro w5 G
    replace kg1 := G.has kg1
    replace kg2 := G.has kg2
    replace HL := HL.gro G
    replace HT := HT.gro G
    replace GG := GG.trans G
    clear G
    refine nr ?_; intro U h; simp only [z0, z1] at h; subst h
    refine s_val 6 rfl rfl (.bool true) (rfl) ?_
    refine nr ?_; intro U h; simp only [z0, z1] at h; subst h
    refine wpList_nil ?_
    refine then_n ?_
    refine wp_ret ?_
    refine then_r ?_
    refine bodyPost_ret (results_tmp Try.results6 _ _ _) rfl ?_
    exact ⟨rfl, GG⟩
end Go.Proofs.Ytjahegiopigblaa
