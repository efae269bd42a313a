/- The document's side: a record read, an item taken, what the records say. -/
import Derived.Test.YtgfnjekpafempaaGG6
import Derived.Test.YtgfnjekpafempaaGV11
import Derived.Test.YtgfnjekpafempaaGE8
namespace Go.Proofs.Ytgfnjekpafempaa
open Go.RowKit
theorem run_geqU {P : Program} {o : Oper} {A : Act} (t t2 : TypeId) (x y : Operand) (ho : o.op = .binOp .geq t x y t2) (a b : Nat) (hx : A.eval x = .int .u64 (a : Int)) (hy : A.eval y = .int .u64 (b : Int)) (p : Bool) (hp : decide (b ≤ a) = p) (w : World) : (execOp A.eval o).run P w = .ok (.value (.bool p)) w := by
  subst hp
  refine run_binop .geq t x y t2 ho _ _ _ hx hy (by simp [eqGuard]) ?_
  simp [go_sem]
theorem run_leqU {P : Program} {o : Oper} {A : Act} (t t2 : TypeId) (x y : Operand) (ho : o.op = .binOp .leq t x y t2) (a b : Nat) (hx : A.eval x = .int .u64 (a : Int)) (hy : A.eval y = .int .u64 (b : Int)) (p : Bool) (hp : decide (a ≤ b) = p) (w : World) : (execOp A.eval o).run P w = .ok (.value (.bool p)) w := by
  subst hp
  refine run_binop .leq t x y t2 ho _ _ _ hx hy (by simp [eqGuard]) ?_
  simp [go_sem]
theorem rdv_k0 {r : List Nat} (hr : ∀ b ∈ r, b < 256) {n a e : Nat} (h : getE r 0 = (n, a, e)) (c : ¬ (e = 0 ∧ 1 ≤ n ∧ n ≤ 2)) : readV r = none := by
  rw [readV_eq hr h]
  by_cases he : e = 0
  · rw [if_neg (fun k => k he), if_neg (by omega), if_neg (by omega)]
  · rw [if_pos he]
theorem rdv_k1 {r : List Nat} (hr : ∀ b ∈ r, b < 256) {n a e : Nat} (h : getE r 0 = (n, a, e)) (hn : n = 1) (he : e = 0) {m b f : Nat} (g : getE r ((a : Nat) : Int) = (m, b, f)) : readV r = if f = 0 ∧ b = r.length ∧ 1 ≤ m ∧ m ≤ 1048576 then some (.inl m) else none := by
  rw [readV_eq hr h, if_neg (fun k => k he), if_pos hn]
  unfold rbV
  rw [g]
  simp only
  by_cases c : f = 0 ∧ b = r.length ∧ m ≤ 1048576
  · rw [if_pos c, Option.bind_some]
    by_cases d : 1 ≤ m
    · rw [if_pos d, if_pos ⟨c.1, c.2.1, d, c.2.2⟩]
    · rw [if_neg d, if_neg (fun x => d x.2.2.1)]
  · rw [if_neg c, Option.bind_none, if_neg (fun x => c ⟨x.1, x.2.1, x.2.2.2⟩)]
theorem rdv_k2 {r : List Nat} (hr : ∀ b ∈ r, b < 256) {n a e : Nat} (h : getE r 0 = (n, a, e)) (hn : n = 2) (he : e = 0) {y a2 e2 : Nat} (g2 : getV r ((a : Nat) : Int) = (y, a2, e2)) {m b f : Nat} (g3 : getE r ((a2 : Nat) : Int) = (m, b, f)) {z c d : Nat} (g4 : getV r ((b : Nat) : Int) = (z, c, d)) {t : List Nat} {k q : Nat} (g5 : getT r ((c : Nat) : Int) 64 = (t, k, q)) :
    readV r = if e2 = 0 ∧ f = 0 ∧ 1 ≤ m ∧ m < 4611686018427387904 ∧ d = 0 ∧ q = 0 ∧ k = r.length then some (.inr ⟨y, m, z, t⟩) else none := by
  rw [readV_eq hr h, if_neg (fun k => k he), if_neg (by omega), if_pos hn]
  unfold riV
  rw [g2]
  simp only
  by_cases c1 : e2 = 0
  · rw [if_pos c1]
    unfold rvV
    rw [g3]
    simp only
    by_cases c2 : f = 0 ∧ 1 ≤ m ∧ m ≤ 4611686018427387903
    · rw [if_pos c2, g4]
      simp only
      by_cases c3 : d = 0
      · rw [if_pos c3]
        simp only
        rw [g5]
        simp only
        by_cases c4 : q = 0 ∧ k = r.length
        · rw [if_pos c4, if_pos ⟨c1, c2.1, c2.2.1, by omega, c3, c4.1, c4.2⟩]
          rfl
        · rw [if_neg c4, if_neg (fun x => c4 ⟨x.2.2.2.2.2.1, x.2.2.2.2.2.2⟩)]
          rfl
      · rw [if_neg c3, if_neg (fun x => c3 x.2.2.2.2.1)]
        rfl
    · rw [if_neg c2, if_neg (fun x => c2 ⟨x.2.1, x.2.2.1, by omega⟩)]
      rfl
  · rw [if_neg c1, if_neg (fun x => c1 x.1)]
    rfl
/-- What the document's reader answers. -/
def RrP (w : World) : Option (Nat ⊕ It) → Ending → World → Prop
  | none, e, w' => ∃ n : Int, e = .returned (.tuple #[.agg (itA zM), .int .i64 n, .bool false]) ∧ Gro w w'
  | some (.inl n), e, w' => e = .returned (.tuple #[.agg (itA zM), .int .i64 (n : Int), .bool true]) ∧ Gro w w'
  | some (.inr x), e, w' => ∃ ao cap, e = .returned (.tuple #[.agg (itA (x.im ao cap)), .int .i64 0, .bool true]) ∧ Gro w w' ∧ OB w' 5 .u8 w.heap.size ao cap x.val
set_option maxRecDepth 100000 in
set_option maxHeartbeats 4000000 in
theorem rread_any (w : World) (ao : Option Addr) (cap : Nat) (r : List Nat) (HR : NC w .u8 ao cap r) (hlen : r.length ≤ 140737488355000) : Calls Try.prog 68 #[.slice ao r.length cap] w (RrP w (readV r)) := by
  obtain ⟨n, a, e, h⟩ := tri (getE r 0)
  obtain ⟨m1, b1, f1, u1⟩ := tri (getE r ((a : Nat) : Int))
  obtain ⟨y, a2, e2, u2⟩ := tri (getV r ((a : Nat) : Int))
  obtain ⟨m, b, f, u3⟩ := tri (getE r ((a2 : Nat) : Int))
  obtain ⟨z, c, d, u4⟩ := tri (getV r ((b : Nat) : Int))
  obtain ⟨t, k, q, u5⟩ := tri (getT r ((c : Nat) : Int) 64)
  refine s_enter Try.func68 rfl Try.ntmps68 [.slice ao r.length cap] [.slice ao r.length cap, undef, undef, undef, undef, undef, undef, undef, undef, undef, undef, undef, undef, undef, undef, undef, undef, undef, undef, undef, undef, undef, undef, undef, undef, undef, undef, undef, undef, undef, undef, undef, undef, undef, undef, undef, undef, undef, undef, undef, undef, undef, undef, undef, undef, undef, undef, undef, undef, undef, undef, undef, undef, undef, undef, undef, undef, undef, undef, undef, undef, undef, undef, undef, undef, undef, undef, undef, undef, undef, undef, undef, undef, undef, undef, undef, undef, undef, undef, undef, undef, undef, undef, undef, undef, undef, undef, undef, undef, undef, undef, undef, undef, undef, undef, undef, undef, undef, undef, undef, undef, undef, undef, undef, undef, undef, undef, undef, undef, undef, undef, undef, undef, undef, undef, undef, undef, undef, undef, undef, undef, undef] rfl ?_
  have GG := Gro.refl w
  refine wp_seq ?_
  refine wp_region_lit ?_
  refine s_alloc 2 rfl rfl 56 rfl _ zeroIt (itA zM) rfl ?_
  intro w1 g1 G eg1 kg1
  have bg1 := size_base GG eg1
  have dHRg1 := HR.ne eg1
  replace HR := HR.gro G
  replace GG := GG.trans G
  clear G
  clear eg1
  refine nr ?_; intro U h; simp only [z0, z1] at h; subst h
  refine s_val 3 rfl rfl (.int .i64 0) (rfl) ?_
  refine nr ?_; intro U h; simp only [z0, z1] at h; subst h
  refine s_val 4 rfl rfl (.bool false) (rfl) ?_
  refine nr ?_; intro U h; simp only [z0, z1] at h; subst h
  refine wpList_nil ?_
  refine then_n ?_
  refine wp_seq ?_
  refine wp_region_lit ?_
  refine s_val 16 rfl rfl (.slice ao r.length cap) (rfl) ?_
  refine nr ?_; intro U h; simp only [z0, z1] at h; subst h
  refine s_callv 17 rfl rfl _ 82 Try.call82 rfl rfl _ rfl [.slice ao r.length cap, .int .i64 0] rfl (rgetNum_v ao cap r _ HR 0 hlen n a e h) ?_
  intro w2 G
  replace kg1 := G.has kg1
  replace HR := HR.gro G
  replace GG := GG.trans G
  clear G
  refine nr ?_; intro U h; simp only [z0, z1] at h; subst h
  refine s_val 15 rfl rfl (.tuple #[.int .u64 ((n : Nat) : Int), .int .i64 ((a : Nat) : Int), .int .i64 ((e : Nat) : Int)]) (rfl) ?_
  refine nr ?_; intro U h; simp only [z0, z1] at h; subst h
  refine s_val 18 rfl rfl (.int .u64 ((n : Nat) : Int)) (rfl) ?_
  refine nr ?_; intro U h; simp only [z0, z1] at h; subst h
  refine s_val 19 rfl rfl (.int .i64 ((a : Nat) : Int)) (rfl) ?_
  refine nr ?_; intro U h; simp only [z0, z1] at h; subst h
  refine s_val 20 rfl rfl (.int .i64 ((e : Nat) : Int)) (rfl) ?_
  refine nr ?_; intro U h; simp only [z0, z1] at h; subst h
  refine s_val 5 rfl rfl (.int .u64 ((n : Nat) : Int)) (rfl) ?_
  refine nr ?_; intro U h; simp only [z0, z1] at h; subst h
  refine s_val 6 rfl rfl (.int .i64 ((a : Nat) : Int)) (rfl) ?_
  refine nr ?_; intro U h; simp only [z0, z1] at h; subst h
  refine s_val 7 rfl rfl (.int .i64 ((e : Nat) : Int)) (rfl) ?_
  refine nr ?_; intro U h; simp only [z0, z1] at h; subst h
  refine wpList_nil ?_
  refine then_n ?_
  refine wp_seq ?_
  refine wp_seq ?_
  cases h1 : decide (((e : Nat) : Int) = 0)
  · refine wp_region_opq ?_
    intro OPS hY
    have y2 := hY 2 23 rfl
    have y6 := hY 6 27 rfl
    clear hY
    refine s_val 21 rfl rfl (.int .i64 ((e : Nat) : Int)) (rfl) ?_
    refine nr ?_; intro U h; simp only [z0, z1] at h; subst h
    refine s_val 22 rfl rfl (.bool true) (run_neq_k 26 .i64 _ _ _ rfl Try.underlying26 ((e : Nat) : Int) 0 rfl rfl true h1 _) ?_
    refine nr ?_; intro U h; simp only [z0, z1] at h; subst h
    refine s_val 23 rfl rfl (.bool true) (rfl) ?_
    refine nr ?_; intro U h; simp only [z0, z1] at h; subst h
    refine s_skipY 24 rfl rfl y2 rfl ?_
    refine nr ?_; intro U h; simp only [z0, z1] at h; subst h
    refine s_skipY 25 rfl rfl y2 rfl ?_
    refine nr ?_; intro U h; simp only [z0, z1] at h; subst h
    refine s_val 26 rfl rfl (.bool true) (rfl) ?_
    refine nr ?_; intro U h; simp only [z0, z1] at h; subst h
    refine s_val 27 rfl rfl (.bool true) (rfl) ?_
    refine nr ?_; intro U h; simp only [z0, z1] at h; subst h
    refine s_skipY 28 rfl rfl y6 rfl ?_
    refine nr ?_; intro U h; simp only [z0, z1] at h; subst h
    refine s_skipY 29 rfl rfl y6 rfl ?_
    refine nr ?_; intro U h; simp only [z0, z1] at h; subst h
    refine s_val 30 rfl rfl (.bool true) (rfl) ?_
    refine nr ?_; intro U h; simp only [z0, z1] at h; subst h
    refine wpList_nil ?_
    refine then_n ?_
    refine wp_cond_true rfl ?_
    refine wp_seq ?_
    refine wp_region_lit ?_
    refine s_val 31 rfl rfl (.agg (itA zM)) (run_bd 56 _ rfl [] rfl _ (bdI0 _)) ?_
    refine nr ?_; intro U h; simp only [z0, z1] at h; subst h
    refine s_store rfl rfl 56 _ _ rfl g1 0 rfl (.agg (itA zM)) rfl 56 _ kg1 (itA zM) rfl (siIt' _) (itA_fit _ _) (itA_one _) (itA zM) (splice_whole _ _ (itA_sz _ _)) ?_
    intro w3 St
    replace HR := HR.st St dHRg1
    replace GG := GG.store St bg1
    replace kg1 := St.new
    clear St
    refine s_val 3 rfl rfl (.int .i64 0) (rfl) ?_
    refine nr ?_; intro U h; simp only [z0, z1] at h; subst h
    refine s_val 4 rfl rfl (.bool false) (rfl) ?_
    refine nr ?_; intro U h; simp only [z0, z1] at h; subst h
    refine wpList_nil ?_
    refine then_n ?_
    refine wp_ret ?_
    refine then_r ?_
    refine bodyPost_ret (results_cell_tmp2 Try.results68 _ _ g1 56 _ (0, 0) _ rfl (.int .i64 0) (.bool false) rfl rfl kg1 Try.underlying56 rfl (siIt' _)) rfl ?_
    have ch1 := of_decide_eq_false h1
    have hv : readV r = none := rdv_k0 HR.lt256 h (by omega)
    rw [hv]
    exact ⟨_, rfl, GG⟩
  · cases h2 : decide (n < 1)
    · cases h3 : decide (2 < n)
      · refine wp_region_opq ?_
        intro OPS hY
        have y2 := hY 2 23 rfl
        have y6 := hY 6 27 rfl
        clear hY
        refine s_val 21 rfl rfl (.int .i64 ((e : Nat) : Int)) (rfl) ?_
        refine nr ?_; intro U h; simp only [z0, z1] at h; subst h
        refine s_val 22 rfl rfl (.bool false) (run_neq_k 26 .i64 _ _ _ rfl Try.underlying26 ((e : Nat) : Int) 0 rfl rfl false h1 _) ?_
        refine nr ?_; intro U h; simp only [z0, z1] at h; subst h
        refine s_val 23 rfl rfl (.bool false) (rfl) ?_
        refine nr ?_; intro U h; simp only [z0, z1] at h; subst h
        refine s_gvalY 24 rfl rfl y2 rfl (.int .u64 ((n : Nat) : Int)) (rfl) ?_
        refine nr ?_; intro U h; simp only [z0, z1] at h; subst h
        refine s_gvalY 25 rfl rfl y2 rfl (.bool false) (run_lssU 75 75 _ _ rfl n 1 rfl rfl false h2 _) ?_
        refine nr ?_; intro U h; simp only [z0, z1] at h; subst h
        refine s_val 26 rfl rfl (.bool false) (rfl) ?_
        refine nr ?_; intro U h; simp only [z0, z1] at h; subst h
        refine s_val 27 rfl rfl (.bool false) (rfl) ?_
        refine nr ?_; intro U h; simp only [z0, z1] at h; subst h
        refine s_gvalY 28 rfl rfl y6 rfl (.int .u64 ((n : Nat) : Int)) (rfl) ?_
        refine nr ?_; intro U h; simp only [z0, z1] at h; subst h
        refine s_gvalY 29 rfl rfl y6 rfl (.bool false) (run_gtrU 75 75 _ _ rfl n 2 rfl rfl false h3 _) ?_
        refine nr ?_; intro U h; simp only [z0, z1] at h; subst h
        refine s_val 30 rfl rfl (.bool false) (rfl) ?_
        refine nr ?_; intro U h; simp only [z0, z1] at h; subst h
        refine wpList_nil ?_
        refine then_n ?_
        refine wp_cond_false rfl ?_
        refine wp_skip ?_
        refine then_n ?_
        refine wp_seq ?_
        refine wp_seq ?_
        cases h4 : decide (((n : Nat) : Int) = 1)
        · refine wp_region_lit ?_
          refine s_val 32 rfl rfl (.int .u64 ((n : Nat) : Int)) (rfl) ?_
          refine nr ?_; intro U h; simp only [z0, z1] at h; subst h
          refine s_val 33 rfl rfl (.bool false) (run_eq_k 75 .u64 _ _ _ rfl Try.underlying75 ((n : Nat) : Int) 1 rfl rfl false h4 _) ?_
          refine nr ?_; intro U h; simp only [z0, z1] at h; subst h
          refine wpList_nil ?_
          refine then_n ?_
          refine wp_cond_false rfl ?_
          refine wp_skip ?_
          refine then_n ?_
          refine wp_seq ?_
          refine wp_region_lit ?_
          refine s_val 62 rfl rfl (.slice ao r.length cap) (rfl) ?_
          refine nr ?_; intro U h; simp only [z0, z1] at h; subst h
          refine s_val 63 rfl rfl (.int .i64 ((a : Nat) : Int)) (rfl) ?_
          refine nr ?_; intro U h; simp only [z0, z1] at h; subst h
          refine s_callv 64 rfl rfl _ 83 Try.call83 rfl rfl _ rfl [.slice ao r.length cap, .int .i64 ((a : Nat) : Int)] rfl (rgetID_v ao cap r _ HR ((a : Nat) : Int) hlen y a2 e2 u2) ?_
          intro w3 G
          replace kg1 := G.has kg1
          replace HR := HR.gro G
          replace GG := GG.trans G
          clear G
          refine nr ?_; intro U h; simp only [z0, z1] at h; subst h
          refine s_val 61 rfl rfl (.tuple #[.agg (idA y), .int .i64 ((a2 : Nat) : Int), .int .i64 ((e2 : Nat) : Int)]) (rfl) ?_
          refine nr ?_; intro U h; simp only [z0, z1] at h; subst h
          refine s_val 65 rfl rfl (.agg (idA y)) (rfl) ?_
          refine nr ?_; intro U h; simp only [z0, z1] at h; subst h
          refine s_val 66 rfl rfl (.int .i64 ((a2 : Nat) : Int)) (rfl) ?_
          refine nr ?_; intro U h; simp only [z0, z1] at h; subst h
          refine s_val 67 rfl rfl (.int .i64 ((e2 : Nat) : Int)) (rfl) ?_
          refine nr ?_; intro U h; simp only [z0, z1] at h; subst h
          refine s_alloc 11 rfl rfl 52 rfl _ zero23 (idA 0) rfl ?_
          intro w4 g2 G eg2 kg2
          have bg2 := size_base GG eg2
          have dg1g2 := lt_new kg1 eg2
          have dHRg2 := HR.ne eg2
          replace kg1 := G.has kg1
          replace HR := HR.gro G
          replace GG := GG.trans G
          clear G
          clear eg2
          refine nr ?_; intro U h; simp only [z0, z1] at h; subst h
          refine s_store rfl rfl 52 _ _ rfl g2 0 rfl (.agg (idA y)) rfl 52 _ kg2 (idA y) rfl (size23' _) (idA_fit _ _) (idA_one _) (idA y) (splice_whole _ _ (idA_sz _ _)) ?_
          intro w5 St
          replace kg1 := St.has (by omega) kg1
          replace HR := HR.st St dHRg2
          replace GG := GG.store St bg2
          replace kg2 := St.new
          clear St
          refine s_val 6 rfl rfl (.int .i64 ((a2 : Nat) : Int)) (rfl) ?_
          refine nr ?_; intro U h; simp only [z0, z1] at h; subst h
          refine s_val 7 rfl rfl (.int .i64 ((e2 : Nat) : Int)) (rfl) ?_
          refine nr ?_; intro U h; simp only [z0, z1] at h; subst h
          refine wpList_nil ?_
          refine then_n ?_
          refine wp_seq ?_
          refine wp_seq ?_
          cases i1 : decide (((e2 : Nat) : Int) = 0)
          · refine wp_region_lit ?_
            refine s_val 68 rfl rfl (.int .i64 ((e2 : Nat) : Int)) (rfl) ?_
            refine nr ?_; intro U h; simp only [z0, z1] at h; subst h
            refine s_val 69 rfl rfl (.bool true) (run_neq_k 26 .i64 _ _ _ rfl Try.underlying26 ((e2 : Nat) : Int) 0 rfl rfl true i1 _) ?_
            refine nr ?_; intro U h; simp only [z0, z1] at h; subst h
            refine wpList_nil ?_
            refine then_n ?_
            refine wp_cond_true rfl ?_
            refine wp_seq ?_
            refine wp_region_lit ?_
            refine s_val 70 rfl rfl (.agg (itA zM)) (run_bd 56 _ rfl [] rfl _ (bdI0 _)) ?_
            refine nr ?_; intro U h; simp only [z0, z1] at h; subst h
            refine s_store rfl rfl 56 _ _ rfl g1 0 rfl (.agg (itA zM)) rfl 56 _ kg1 (itA zM) rfl (siIt' _) (itA_fit _ _) (itA_one _) (itA zM) (splice_whole _ _ (itA_sz _ _)) ?_
            intro w6 St
            replace kg2 := St.has (by omega) kg2
            replace HR := HR.st St dHRg1
            replace GG := GG.store St bg1
            replace kg1 := St.new
            clear St
            refine s_val 3 rfl rfl (.int .i64 0) (rfl) ?_
            refine nr ?_; intro U h; simp only [z0, z1] at h; subst h
            refine s_val 4 rfl rfl (.bool false) (rfl) ?_
            refine nr ?_; intro U h; simp only [z0, z1] at h; subst h
            refine wpList_nil ?_
            refine then_n ?_
            refine wp_ret ?_
            refine then_r ?_
            refine bodyPost_ret (results_cell_tmp2 Try.results68 _ _ g1 56 _ (0, 0) _ rfl (.int .i64 0) (.bool false) rfl rfl kg1 Try.underlying56 rfl (siIt' _)) rfl ?_
            have ch1 := of_decide_eq_true h1
            have ch2 := of_decide_eq_false h2
            have ch3 := of_decide_eq_false h3
            have ch4 := of_decide_eq_false h4
            have ci1 := of_decide_eq_false i1
            have hv : readV r = none := by rw [rdv_k2 HR.lt256 h (by omega) (by omega) u2 u3 u4 u5]; exact if_neg (by omega)
            rw [hv]
            exact ⟨_, rfl, GG⟩
          · refine wp_region_lit ?_
            refine s_val 68 rfl rfl (.int .i64 ((e2 : Nat) : Int)) (rfl) ?_
            refine nr ?_; intro U h; simp only [z0, z1] at h; subst h
            refine s_val 69 rfl rfl (.bool false) (run_neq_k 26 .i64 _ _ _ rfl Try.underlying26 ((e2 : Nat) : Int) 0 rfl rfl false i1 _) ?_
            refine nr ?_; intro U h; simp only [z0, z1] at h; subst h
            refine wpList_nil ?_
            refine then_n ?_
            refine wp_cond_false rfl ?_
            refine wp_skip ?_
            refine then_n ?_
            refine wp_seq ?_
            refine wp_region_lit ?_
            refine s_val 72 rfl rfl (.slice ao r.length cap) (rfl) ?_
            refine nr ?_; intro U h; simp only [z0, z1] at h; subst h
            refine s_val 73 rfl rfl (.int .i64 ((a2 : Nat) : Int)) (rfl) ?_
            refine nr ?_; intro U h; simp only [z0, z1] at h; subst h
            refine s_callv 74 rfl rfl _ 82 Try.call82 rfl rfl _ rfl [.slice ao r.length cap, .int .i64 ((a2 : Nat) : Int)] rfl (rgetNum_v ao cap r _ HR ((a2 : Nat) : Int) hlen m b f u3) ?_
            intro w6 G
            replace kg1 := G.has kg1
            replace kg2 := G.has kg2
            replace HR := HR.gro G
            replace GG := GG.trans G
            clear G
            refine nr ?_; intro U h; simp only [z0, z1] at h; subst h
            refine s_val 71 rfl rfl (.tuple #[.int .u64 ((m : Nat) : Int), .int .i64 ((b : Nat) : Int), .int .i64 ((f : Nat) : Int)]) (rfl) ?_
            refine nr ?_; intro U h; simp only [z0, z1] at h; subst h
            refine s_val 75 rfl rfl (.int .u64 ((m : Nat) : Int)) (rfl) ?_
            refine nr ?_; intro U h; simp only [z0, z1] at h; subst h
            refine s_val 76 rfl rfl (.int .i64 ((b : Nat) : Int)) (rfl) ?_
            refine nr ?_; intro U h; simp only [z0, z1] at h; subst h
            refine s_val 77 rfl rfl (.int .i64 ((f : Nat) : Int)) (rfl) ?_
            refine nr ?_; intro U h; simp only [z0, z1] at h; subst h
            refine s_val 12 rfl rfl (.int .u64 ((m : Nat) : Int)) (rfl) ?_
            refine nr ?_; intro U h; simp only [z0, z1] at h; subst h
            refine s_val 6 rfl rfl (.int .i64 ((b : Nat) : Int)) (rfl) ?_
            refine nr ?_; intro U h; simp only [z0, z1] at h; subst h
            refine s_val 7 rfl rfl (.int .i64 ((f : Nat) : Int)) (rfl) ?_
            refine nr ?_; intro U h; simp only [z0, z1] at h; subst h
            refine wpList_nil ?_
            refine then_n ?_
            refine wp_seq ?_
            refine wp_seq ?_
            cases i2 : decide (((f : Nat) : Int) = 0)
            · refine wp_region_opq ?_
              intro OPS hY
              have y2 := hY 2 80 rfl
              have y6 := hY 6 84 rfl
              clear hY
              refine s_val 78 rfl rfl (.int .i64 ((f : Nat) : Int)) (rfl) ?_
              refine nr ?_; intro U h; simp only [z0, z1] at h; subst h
              refine s_val 79 rfl rfl (.bool true) (run_neq_k 26 .i64 _ _ _ rfl Try.underlying26 ((f : Nat) : Int) 0 rfl rfl true i2 _) ?_
              refine nr ?_; intro U h; simp only [z0, z1] at h; subst h
              refine s_val 80 rfl rfl (.bool true) (rfl) ?_
              refine nr ?_; intro U h; simp only [z0, z1] at h; subst h
              refine s_skipY 81 rfl rfl y2 rfl ?_
              refine nr ?_; intro U h; simp only [z0, z1] at h; subst h
              refine s_skipY 82 rfl rfl y2 rfl ?_
              refine nr ?_; intro U h; simp only [z0, z1] at h; subst h
              refine s_val 83 rfl rfl (.bool true) (rfl) ?_
              refine nr ?_; intro U h; simp only [z0, z1] at h; subst h
              refine s_val 84 rfl rfl (.bool true) (rfl) ?_
              refine nr ?_; intro U h; simp only [z0, z1] at h; subst h
              refine s_skipY 85 rfl rfl y6 rfl ?_
              refine nr ?_; intro U h; simp only [z0, z1] at h; subst h
              refine s_skipY 86 rfl rfl y6 rfl ?_
              refine nr ?_; intro U h; simp only [z0, z1] at h; subst h
              refine s_val 87 rfl rfl (.bool true) (rfl) ?_
              refine nr ?_; intro U h; simp only [z0, z1] at h; subst h
              refine wpList_nil ?_
              refine then_n ?_
              refine wp_cond_true rfl ?_
              refine wp_seq ?_
              refine wp_region_lit ?_
              refine s_val 88 rfl rfl (.agg (itA zM)) (run_bd 56 _ rfl [] rfl _ (bdI0 _)) ?_
              refine nr ?_; intro U h; simp only [z0, z1] at h; subst h
              refine s_store rfl rfl 56 _ _ rfl g1 0 rfl (.agg (itA zM)) rfl 56 _ kg1 (itA zM) rfl (siIt' _) (itA_fit _ _) (itA_one _) (itA zM) (splice_whole _ _ (itA_sz _ _)) ?_
              intro w7 St
              replace kg2 := St.has (by omega) kg2
              replace HR := HR.st St dHRg1
              replace GG := GG.store St bg1
              replace kg1 := St.new
              clear St
              refine s_val 3 rfl rfl (.int .i64 0) (rfl) ?_
              refine nr ?_; intro U h; simp only [z0, z1] at h; subst h
              refine s_val 4 rfl rfl (.bool false) (rfl) ?_
              refine nr ?_; intro U h; simp only [z0, z1] at h; subst h
              refine wpList_nil ?_
              refine then_n ?_
              refine wp_ret ?_
              refine then_r ?_
              refine bodyPost_ret (results_cell_tmp2 Try.results68 _ _ g1 56 _ (0, 0) _ rfl (.int .i64 0) (.bool false) rfl rfl kg1 Try.underlying56 rfl (siIt' _)) rfl ?_
              have ch1 := of_decide_eq_true h1
              have ch2 := of_decide_eq_false h2
              have ch3 := of_decide_eq_false h3
              have ch4 := of_decide_eq_false h4
              have ci1 := of_decide_eq_true i1
              have ci2 := of_decide_eq_false i2
              have hv : readV r = none := by rw [rdv_k2 HR.lt256 h (by omega) (by omega) u2 u3 u4 u5]; exact if_neg (by omega)
              rw [hv]
              exact ⟨_, rfl, GG⟩
            · cases i3 : decide (m < 1)
              · cases i4 : decide (4611686018427387904 ≤ m)
                · refine wp_region_opq ?_
                  intro OPS hY
                  have y2 := hY 2 80 rfl
                  have y6 := hY 6 84 rfl
                  clear hY
                  refine s_val 78 rfl rfl (.int .i64 ((f : Nat) : Int)) (rfl) ?_
                  refine nr ?_; intro U h; simp only [z0, z1] at h; subst h
                  refine s_val 79 rfl rfl (.bool false) (run_neq_k 26 .i64 _ _ _ rfl Try.underlying26 ((f : Nat) : Int) 0 rfl rfl false i2 _) ?_
                  refine nr ?_; intro U h; simp only [z0, z1] at h; subst h
                  refine s_val 80 rfl rfl (.bool false) (rfl) ?_
                  refine nr ?_; intro U h; simp only [z0, z1] at h; subst h
                  refine s_gvalY 81 rfl rfl y2 rfl (.int .u64 ((m : Nat) : Int)) (rfl) ?_
                  refine nr ?_; intro U h; simp only [z0, z1] at h; subst h
                  refine s_gvalY 82 rfl rfl y2 rfl (.bool false) (run_lssU 75 75 _ _ rfl m 1 rfl rfl false i3 _) ?_
                  refine nr ?_; intro U h; simp only [z0, z1] at h; subst h
                  refine s_val 83 rfl rfl (.bool false) (rfl) ?_
                  refine nr ?_; intro U h; simp only [z0, z1] at h; subst h
                  refine s_val 84 rfl rfl (.bool false) (rfl) ?_
                  refine nr ?_; intro U h; simp only [z0, z1] at h; subst h
                  refine s_gvalY 85 rfl rfl y6 rfl (.int .u64 ((m : Nat) : Int)) (rfl) ?_
                  refine nr ?_; intro U h; simp only [z0, z1] at h; subst h
                  refine s_gvalY 86 rfl rfl y6 rfl (.bool false) (run_geqU 75 75 _ _ rfl m 4611686018427387904 rfl rfl false i4 _) ?_
                  refine nr ?_; intro U h; simp only [z0, z1] at h; subst h
                  refine s_val 87 rfl rfl (.bool false) (rfl) ?_
                  refine nr ?_; intro U h; simp only [z0, z1] at h; subst h
                  refine wpList_nil ?_
                  refine then_n ?_
                  refine wp_cond_false rfl ?_
                  refine wp_skip ?_
                  refine then_n ?_
                  refine wp_seq ?_
                  refine wp_region_lit ?_
                  refine s_val 90 rfl rfl (.slice ao r.length cap) (rfl) ?_
                  refine nr ?_; intro U h; simp only [z0, z1] at h; subst h
                  refine s_val 91 rfl rfl (.int .i64 ((b : Nat) : Int)) (rfl) ?_
                  refine nr ?_; intro U h; simp only [z0, z1] at h; subst h
                  refine s_callv 92 rfl rfl _ 83 Try.call83 rfl rfl _ rfl [.slice ao r.length cap, .int .i64 ((b : Nat) : Int)] rfl (rgetID_v ao cap r _ HR ((b : Nat) : Int) hlen z c d u4) ?_
                  intro w7 G
                  replace kg1 := G.has kg1
                  replace kg2 := G.has kg2
                  replace HR := HR.gro G
                  replace GG := GG.trans G
                  clear G
                  refine nr ?_; intro U h; simp only [z0, z1] at h; subst h
                  refine s_val 89 rfl rfl (.tuple #[.agg (idA z), .int .i64 ((c : Nat) : Int), .int .i64 ((d : Nat) : Int)]) (rfl) ?_
                  refine nr ?_; intro U h; simp only [z0, z1] at h; subst h
                  refine s_val 93 rfl rfl (.agg (idA z)) (rfl) ?_
                  refine nr ?_; intro U h; simp only [z0, z1] at h; subst h
                  refine s_val 94 rfl rfl (.int .i64 ((c : Nat) : Int)) (rfl) ?_
                  refine nr ?_; intro U h; simp only [z0, z1] at h; subst h
                  refine s_val 95 rfl rfl (.int .i64 ((d : Nat) : Int)) (rfl) ?_
                  refine nr ?_; intro U h; simp only [z0, z1] at h; subst h
                  refine s_alloc 13 rfl rfl 52 rfl _ zero23 (idA 0) rfl ?_
                  intro w8 g3 G eg3 kg3
                  have bg3 := size_base GG eg3
                  have dg1g3 := lt_new kg1 eg3
                  have dg2g3 := lt_new kg2 eg3
                  have dHRg3 := HR.ne eg3
                  replace kg1 := G.has kg1
                  replace kg2 := G.has kg2
                  replace HR := HR.gro G
                  replace GG := GG.trans G
                  clear G
                  clear eg3
                  refine nr ?_; intro U h; simp only [z0, z1] at h; subst h
                  refine s_store rfl rfl 52 _ _ rfl g3 0 rfl (.agg (idA z)) rfl 52 _ kg3 (idA z) rfl (size23' _) (idA_fit _ _) (idA_one _) (idA z) (splice_whole _ _ (idA_sz _ _)) ?_
                  intro w9 St
                  replace kg1 := St.has (by omega) kg1
                  replace kg2 := St.has (by omega) kg2
                  replace HR := HR.st St dHRg3
                  replace GG := GG.store St bg3
                  replace kg3 := St.new
                  clear St
                  refine s_val 6 rfl rfl (.int .i64 ((c : Nat) : Int)) (rfl) ?_
                  refine nr ?_; intro U h; simp only [z0, z1] at h; subst h
                  refine s_val 7 rfl rfl (.int .i64 ((d : Nat) : Int)) (rfl) ?_
                  refine nr ?_; intro U h; simp only [z0, z1] at h; subst h
                  refine wpList_nil ?_
                  refine then_n ?_
                  refine wp_seq ?_
                  refine wp_seq ?_
                  cases i5 : decide (((d : Nat) : Int) = 0)
                  · refine wp_region_lit ?_
                    refine s_val 96 rfl rfl (.int .i64 ((d : Nat) : Int)) (rfl) ?_
                    refine nr ?_; intro U h; simp only [z0, z1] at h; subst h
                    refine s_val 97 rfl rfl (.bool true) (run_neq_k 26 .i64 _ _ _ rfl Try.underlying26 ((d : Nat) : Int) 0 rfl rfl true i5 _) ?_
                    refine nr ?_; intro U h; simp only [z0, z1] at h; subst h
                    refine wpList_nil ?_
                    refine then_n ?_
                    refine wp_cond_true rfl ?_
                    refine wp_seq ?_
                    refine wp_region_lit ?_
                    refine s_val 98 rfl rfl (.agg (itA zM)) (run_bd 56 _ rfl [] rfl _ (bdI0 _)) ?_
                    refine nr ?_; intro U h; simp only [z0, z1] at h; subst h
                    refine s_store rfl rfl 56 _ _ rfl g1 0 rfl (.agg (itA zM)) rfl 56 _ kg1 (itA zM) rfl (siIt' _) (itA_fit _ _) (itA_one _) (itA zM) (splice_whole _ _ (itA_sz _ _)) ?_
                    intro w10 St
                    replace kg2 := St.has (by omega) kg2
                    replace kg3 := St.has (by omega) kg3
                    replace HR := HR.st St dHRg1
                    replace GG := GG.store St bg1
                    replace kg1 := St.new
                    clear St
                    refine s_val 3 rfl rfl (.int .i64 0) (rfl) ?_
                    refine nr ?_; intro U h; simp only [z0, z1] at h; subst h
                    refine s_val 4 rfl rfl (.bool false) (rfl) ?_
                    refine nr ?_; intro U h; simp only [z0, z1] at h; subst h
                    refine wpList_nil ?_
                    refine then_n ?_
                    refine wp_ret ?_
                    refine then_r ?_
                    refine bodyPost_ret (results_cell_tmp2 Try.results68 _ _ g1 56 _ (0, 0) _ rfl (.int .i64 0) (.bool false) rfl rfl kg1 Try.underlying56 rfl (siIt' _)) rfl ?_
                    have ch1 := of_decide_eq_true h1
                    have ch2 := of_decide_eq_false h2
                    have ch3 := of_decide_eq_false h3
                    have ch4 := of_decide_eq_false h4
                    have ci1 := of_decide_eq_true i1
                    have ci2 := of_decide_eq_true i2
                    have ci3 := of_decide_eq_false i3
                    have ci4 := of_decide_eq_false i4
                    have ci5 := of_decide_eq_false i5
                    have hv : readV r = none := by rw [rdv_k2 HR.lt256 h (by omega) (by omega) u2 u3 u4 u5]; exact if_neg (by omega)
                    rw [hv]
                    exact ⟨_, rfl, GG⟩
                  · refine wp_region_lit ?_
                    refine s_val 96 rfl rfl (.int .i64 ((d : Nat) : Int)) (rfl) ?_
                    refine nr ?_; intro U h; simp only [z0, z1] at h; subst h
                    refine s_val 97 rfl rfl (.bool false) (run_neq_k 26 .i64 _ _ _ rfl Try.underlying26 ((d : Nat) : Int) 0 rfl rfl false i5 _) ?_
                    refine nr ?_; intro U h; simp only [z0, z1] at h; subst h
                    refine wpList_nil ?_
                    refine then_n ?_
                    refine wp_cond_false rfl ?_
                    refine wp_skip ?_
                    refine then_n ?_
                    refine wp_seq ?_
                    refine wp_region_lit ?_
                    refine s_val 100 rfl rfl (.slice ao r.length cap) (rfl) ?_
                    refine nr ?_; intro U h; simp only [z0, z1] at h; subst h
                    refine s_val 101 rfl rfl (.int .i64 ((c : Nat) : Int)) (rfl) ?_
                    refine nr ?_; intro U h; simp only [z0, z1] at h; subst h
                    refine s_callx 102 rfl rfl _ 84 Try.call84 rfl rfl _ rfl [.slice ao r.length cap, .int .i64 ((c : Nat) : Int), .int .i64 64] rfl (rgetText_v ao cap r _ HR ((c : Nat) : Int) hlen t k q u5) (by rintro _ _ ⟨_, _, he, _, _⟩; exact ⟨_, he⟩) ?_
                    have lzg1 := lt_of_heap kg1
                    have lzg2 := lt_of_heap kg2
                    have lzg3 := lt_of_heap kg3
                    rintro v w10 ⟨ao1, cap1, he, G, HO1⟩
                    cases he
                    have dHO1g1 := HO1.neB lzg1
                    have dHO1g2 := HO1.neB lzg2
                    have dHO1g3 := HO1.neB lzg3
                    replace HO1 := HO1.mono GG.size
                    replace kg1 := G.has kg1
                    replace kg2 := G.has kg2
                    replace kg3 := G.has kg3
                    replace HR := HR.gro G
                    replace GG := GG.trans G
                    clear G
                    refine nr ?_; intro U h; simp only [z0, z1] at h; subst h
                    refine s_val 99 rfl rfl (.tuple #[.slice ao1 t.length cap1, .int .i64 ((k : Nat) : Int), .int .i64 ((q : Nat) : Int)]) (rfl) ?_
                    refine nr ?_; intro U h; simp only [z0, z1] at h; subst h
                    refine s_val 103 rfl rfl (.slice ao1 t.length cap1) (rfl) ?_
                    refine nr ?_; intro U h; simp only [z0, z1] at h; subst h
                    refine s_val 104 rfl rfl (.int .i64 ((k : Nat) : Int)) (rfl) ?_
                    refine nr ?_; intro U h; simp only [z0, z1] at h; subst h
                    refine s_val 105 rfl rfl (.int .i64 ((q : Nat) : Int)) (rfl) ?_
                    refine nr ?_; intro U h; simp only [z0, z1] at h; subst h
                    refine s_val 14 rfl rfl (.slice ao1 t.length cap1) (rfl) ?_
                    refine nr ?_; intro U h; simp only [z0, z1] at h; subst h
                    refine s_val 6 rfl rfl (.int .i64 ((k : Nat) : Int)) (rfl) ?_
                    refine nr ?_; intro U h; simp only [z0, z1] at h; subst h
                    refine s_val 7 rfl rfl (.int .i64 ((q : Nat) : Int)) (rfl) ?_
                    refine nr ?_; intro U h; simp only [z0, z1] at h; subst h
                    refine wpList_nil ?_
                    refine then_n ?_
                    refine wp_seq ?_
                    refine wp_seq ?_
                    cases i6 : decide (((q : Nat) : Int) = 0)
                    · refine wp_region_opq ?_
                      intro OPS hY
                      have y2 := hY 2 108 rfl
                      clear hY
                      refine s_val 106 rfl rfl (.int .i64 ((q : Nat) : Int)) (rfl) ?_
                      refine nr ?_; intro U h; simp only [z0, z1] at h; subst h
                      refine s_val 107 rfl rfl (.bool true) (run_neq_k 26 .i64 _ _ _ rfl Try.underlying26 ((q : Nat) : Int) 0 rfl rfl true i6 _) ?_
                      refine nr ?_; intro U h; simp only [z0, z1] at h; subst h
                      refine s_val 108 rfl rfl (.bool true) (rfl) ?_
                      refine nr ?_; intro U h; simp only [z0, z1] at h; subst h
                      refine s_skipY 109 rfl rfl y2 rfl ?_
                      refine nr ?_; intro U h; simp only [z0, z1] at h; subst h
                      refine s_skipY 110 rfl rfl y2 rfl ?_
                      refine nr ?_; intro U h; simp only [z0, z1] at h; subst h
                      refine s_skipY 111 rfl rfl y2 rfl ?_
                      refine nr ?_; intro U h; simp only [z0, z1] at h; subst h
                      refine s_skipY 112 rfl rfl y2 rfl ?_
                      refine nr ?_; intro U h; simp only [z0, z1] at h; subst h
                      refine s_val 113 rfl rfl (.bool true) (rfl) ?_
                      refine nr ?_; intro U h; simp only [z0, z1] at h; subst h
                      refine wpList_nil ?_
                      refine then_n ?_
                      refine wp_cond_true rfl ?_
                      refine wp_seq ?_
                      refine wp_region_lit ?_
                      refine s_val 114 rfl rfl (.agg (itA zM)) (run_bd 56 _ rfl [] rfl _ (bdI0 _)) ?_
                      refine nr ?_; intro U h; simp only [z0, z1] at h; subst h
                      refine s_store rfl rfl 56 _ _ rfl g1 0 rfl (.agg (itA zM)) rfl 56 _ kg1 (itA zM) rfl (siIt' _) (itA_fit _ _) (itA_one _) (itA zM) (splice_whole _ _ (itA_sz _ _)) ?_
                      intro w11 St
                      replace kg2 := St.has (by omega) kg2
                      replace kg3 := St.has (by omega) kg3
                      replace HR := HR.st St dHRg1
                      replace HO1 := HO1.st St dHO1g1
                      replace GG := GG.store St bg1
                      replace kg1 := St.new
                      clear St
                      refine s_val 3 rfl rfl (.int .i64 0) (rfl) ?_
                      refine nr ?_; intro U h; simp only [z0, z1] at h; subst h
                      refine s_val 4 rfl rfl (.bool false) (rfl) ?_
                      refine nr ?_; intro U h; simp only [z0, z1] at h; subst h
                      refine wpList_nil ?_
                      refine then_n ?_
                      refine wp_ret ?_
                      refine then_r ?_
                      refine bodyPost_ret (results_cell_tmp2 Try.results68 _ _ g1 56 _ (0, 0) _ rfl (.int .i64 0) (.bool false) rfl rfl kg1 Try.underlying56 rfl (siIt' _)) rfl ?_
                      have ch1 := of_decide_eq_true h1
                      have ch2 := of_decide_eq_false h2
                      have ch3 := of_decide_eq_false h3
                      have ch4 := of_decide_eq_false h4
                      have ci1 := of_decide_eq_true i1
                      have ci2 := of_decide_eq_true i2
                      have ci3 := of_decide_eq_false i3
                      have ci4 := of_decide_eq_false i4
                      have ci5 := of_decide_eq_true i5
                      have ci6 := of_decide_eq_false i6
                      have hv : readV r = none := by rw [rdv_k2 HR.lt256 h (by omega) (by omega) u2 u3 u4 u5]; exact if_neg (by omega)
                      rw [hv]
                      exact ⟨_, rfl, GG⟩
                    · cases i7 : decide (((k : Nat) : Int) = ((r.length : Nat) : Int))
                      · refine wp_region_opq ?_
                        intro OPS hY
                        have y2 := hY 2 108 rfl
                        clear hY
                        refine s_val 106 rfl rfl (.int .i64 ((q : Nat) : Int)) (rfl) ?_
                        refine nr ?_; intro U h; simp only [z0, z1] at h; subst h
                        refine s_val 107 rfl rfl (.bool false) (run_neq_k 26 .i64 _ _ _ rfl Try.underlying26 ((q : Nat) : Int) 0 rfl rfl false i6 _) ?_
                        refine nr ?_; intro U h; simp only [z0, z1] at h; subst h
                        refine s_val 108 rfl rfl (.bool false) (rfl) ?_
                        refine nr ?_; intro U h; simp only [z0, z1] at h; subst h
                        refine s_gvalY 109 rfl rfl y2 rfl (.int .i64 ((k : Nat) : Int)) (rfl) ?_
                        refine nr ?_; intro U h; simp only [z0, z1] at h; subst h
                        refine s_gvalY 110 rfl rfl y2 rfl (.slice ao r.length cap) (rfl) ?_
                        refine nr ?_; intro U h; simp only [z0, z1] at h; subst h
                        refine s_gvalY 111 rfl rfl y2 rfl (.int .i64 ((r.length : Nat) : Int)) (run_len Try.underlying30 _ rfl _ _ _ rfl _) ?_
                        refine nr ?_; intro U h; simp only [z0, z1] at h; subst h
                        refine s_gvalY 112 rfl rfl y2 rfl (.bool true) (run_neq_k 3 .i64 _ _ _ rfl Try.underlying3 ((k : Nat) : Int) ((r.length : Nat) : Int) rfl rfl true i7 _) ?_
                        refine nr ?_; intro U h; simp only [z0, z1] at h; subst h
                        refine s_val 113 rfl rfl (.bool true) (rfl) ?_
                        refine nr ?_; intro U h; simp only [z0, z1] at h; subst h
                        refine wpList_nil ?_
                        refine then_n ?_
                        refine wp_cond_true rfl ?_
                        refine wp_seq ?_
                        refine wp_region_lit ?_
                        refine s_val 114 rfl rfl (.agg (itA zM)) (run_bd 56 _ rfl [] rfl _ (bdI0 _)) ?_
                        refine nr ?_; intro U h; simp only [z0, z1] at h; subst h
                        refine s_store rfl rfl 56 _ _ rfl g1 0 rfl (.agg (itA zM)) rfl 56 _ kg1 (itA zM) rfl (siIt' _) (itA_fit _ _) (itA_one _) (itA zM) (splice_whole _ _ (itA_sz _ _)) ?_
                        intro w11 St
                        replace kg2 := St.has (by omega) kg2
                        replace kg3 := St.has (by omega) kg3
                        replace HR := HR.st St dHRg1
                        replace HO1 := HO1.st St dHO1g1
                        replace GG := GG.store St bg1
                        replace kg1 := St.new
                        clear St
                        refine s_val 3 rfl rfl (.int .i64 0) (rfl) ?_
                        refine nr ?_; intro U h; simp only [z0, z1] at h; subst h
                        refine s_val 4 rfl rfl (.bool false) (rfl) ?_
                        refine nr ?_; intro U h; simp only [z0, z1] at h; subst h
                        refine wpList_nil ?_
                        refine then_n ?_
                        refine wp_ret ?_
                        refine then_r ?_
                        refine bodyPost_ret (results_cell_tmp2 Try.results68 _ _ g1 56 _ (0, 0) _ rfl (.int .i64 0) (.bool false) rfl rfl kg1 Try.underlying56 rfl (siIt' _)) rfl ?_
                        have ch1 := of_decide_eq_true h1
                        have ch2 := of_decide_eq_false h2
                        have ch3 := of_decide_eq_false h3
                        have ch4 := of_decide_eq_false h4
                        have ci1 := of_decide_eq_true i1
                        have ci2 := of_decide_eq_true i2
                        have ci3 := of_decide_eq_false i3
                        have ci4 := of_decide_eq_false i4
                        have ci5 := of_decide_eq_true i5
                        have ci6 := of_decide_eq_true i6
                        have ci7 := of_decide_eq_false i7
                        have hv : readV r = none := by rw [rdv_k2 HR.lt256 h (by omega) (by omega) u2 u3 u4 u5]; exact if_neg (by omega)
                        rw [hv]
                        exact ⟨_, rfl, GG⟩
                      · refine wp_region_opq ?_
                        intro OPS hY
                        have y2 := hY 2 108 rfl
                        clear hY
                        refine s_val 106 rfl rfl (.int .i64 ((q : Nat) : Int)) (rfl) ?_
                        refine nr ?_; intro U h; simp only [z0, z1] at h; subst h
                        refine s_val 107 rfl rfl (.bool false) (run_neq_k 26 .i64 _ _ _ rfl Try.underlying26 ((q : Nat) : Int) 0 rfl rfl false i6 _) ?_
                        refine nr ?_; intro U h; simp only [z0, z1] at h; subst h
                        refine s_val 108 rfl rfl (.bool false) (rfl) ?_
                        refine nr ?_; intro U h; simp only [z0, z1] at h; subst h
                        refine s_gvalY 109 rfl rfl y2 rfl (.int .i64 ((k : Nat) : Int)) (rfl) ?_
                        refine nr ?_; intro U h; simp only [z0, z1] at h; subst h
                        refine s_gvalY 110 rfl rfl y2 rfl (.slice ao r.length cap) (rfl) ?_
                        refine nr ?_; intro U h; simp only [z0, z1] at h; subst h
                        refine s_gvalY 111 rfl rfl y2 rfl (.int .i64 ((r.length : Nat) : Int)) (run_len Try.underlying30 _ rfl _ _ _ rfl _) ?_
                        refine nr ?_; intro U h; simp only [z0, z1] at h; subst h
                        refine s_gvalY 112 rfl rfl y2 rfl (.bool false) (run_neq_k 3 .i64 _ _ _ rfl Try.underlying3 ((k : Nat) : Int) ((r.length : Nat) : Int) rfl rfl false i7 _) ?_
                        refine nr ?_; intro U h; simp only [z0, z1] at h; subst h
                        refine s_val 113 rfl rfl (.bool false) (rfl) ?_
                        refine nr ?_; intro U h; simp only [z0, z1] at h; subst h
                        refine wpList_nil ?_
                        refine then_n ?_
                        refine wp_cond_false rfl ?_
                        refine wp_skip ?_
                        refine then_n ?_
                        refine wp_seq ?_
                        refine wp_region_lit ?_
                        refine s_val 115 rfl rfl (.agg (idA y)) (ldI0 _ rfl g2 rfl (kg2)) ?_
                        refine nr ?_; intro U h; simp only [z0, z1] at h; subst h
                        refine s_val 116 rfl rfl (.int .u64 ((m : Nat) : Int)) (rfl) ?_
                        refine nr ?_; intro U h; simp only [z0, z1] at h; subst h
                        refine s_val 117 rfl rfl (.int .i64 ((m : Nat) : Int)) (convU2 _ rfl m (by have := of_decide_eq_false i4; omega) rfl _) ?_
                        refine nr ?_; intro U h; simp only [z0, z1] at h; subst h
                        refine s_val 118 rfl rfl (.agg (idA z)) (ldI0 _ rfl g3 rfl (kg3)) ?_
                        refine nr ?_; intro U h; simp only [z0, z1] at h; subst h
                        refine s_val 119 rfl rfl (.agg (veA (mkV ((m : Nat) : Int) z))) (run_bd 54 _ rfl [(0, .int .i64 ((m : Nat) : Int)), (1, .agg (idA z))] rfl _ (bdV01 ((m : Nat) : Int) z _)) ?_
                        refine nr ?_; intro U h; simp only [z0, z1] at h; subst h
                        refine s_val 120 rfl rfl (.slice ao1 t.length cap1) (rfl) ?_
                        refine nr ?_; intro U h; simp only [z0, z1] at h; subst h
                        refine s_val 121 rfl rfl (.agg (itA (mkI y (mkV ((m : Nat) : Int) z) ao1 cap1 t))) (run_bd 56 _ rfl [(0, .agg (idA y)), (1, .agg (veA (mkV ((m : Nat) : Int) z))), (2, .slice ao1 t.length cap1)] rfl _ (bdI012 y (mkV ((m : Nat) : Int) z) ao1 cap1 t _)) ?_
                        refine nr ?_; intro U h; simp only [z0, z1] at h; subst h
                        refine s_store rfl rfl 56 _ _ rfl g1 0 rfl (.agg (itA (mkI y (mkV ((m : Nat) : Int) z) ao1 cap1 t))) rfl 56 _ kg1 (itA (mkI y (mkV ((m : Nat) : Int) z) ao1 cap1 t)) rfl (siIt' _) (itA_fit _ _) (itA_one _) (itA (mkI y (mkV ((m : Nat) : Int) z) ao1 cap1 t)) (splice_whole _ _ (itA_sz _ _)) ?_
                        intro w11 St
                        replace kg2 := St.has (by omega) kg2
                        replace kg3 := St.has (by omega) kg3
                        replace HR := HR.st St dHRg1
                        replace HO1 := HO1.st St dHO1g1
                        replace GG := GG.store St bg1
                        replace kg1 := St.new
                        clear St
                        refine s_val 3 rfl rfl (.int .i64 0) (rfl) ?_
                        refine nr ?_; intro U h; simp only [z0, z1] at h; subst h
                        refine s_val 4 rfl rfl (.bool true) (rfl) ?_
                        refine nr ?_; intro U h; simp only [z0, z1] at h; subst h
                        refine wpList_nil ?_
                        refine then_n ?_
                        refine wp_ret ?_
                        refine bodyPost_ret (results_cell_tmp2 Try.results68 _ _ g1 56 _ (0, 0) _ rfl (.int .i64 0) (.bool true) rfl rfl kg1 Try.underlying56 rfl (siIt' _)) rfl ?_
                        have ch1 := of_decide_eq_true h1
                        have ch2 := of_decide_eq_false h2
                        have ch3 := of_decide_eq_false h3
                        have ch4 := of_decide_eq_false h4
                        have ci1 := of_decide_eq_true i1
                        have ci2 := of_decide_eq_true i2
                        have ci3 := of_decide_eq_false i3
                        have ci4 := of_decide_eq_false i4
                        have ci5 := of_decide_eq_true i5
                        have ci6 := of_decide_eq_true i6
                        have ci7 := of_decide_eq_true i7
                        have hv : readV r = some (.inr ⟨y, m, z, t⟩) := by rw [rdv_k2 HR.lt256 h (by omega) (by omega) u2 u3 u4 u5]; exact if_pos ⟨by omega, by omega, by omega, by omega, by omega, by omega, by omega⟩
                        rw [hv]
                        exact ⟨_, _, rfl, GG, HO1⟩
                · refine wp_region_opq ?_
                  intro OPS hY
                  have y2 := hY 2 80 rfl
                  have y6 := hY 6 84 rfl
                  clear hY
                  refine s_val 78 rfl rfl (.int .i64 ((f : Nat) : Int)) (rfl) ?_
                  refine nr ?_; intro U h; simp only [z0, z1] at h; subst h
                  refine s_val 79 rfl rfl (.bool false) (run_neq_k 26 .i64 _ _ _ rfl Try.underlying26 ((f : Nat) : Int) 0 rfl rfl false i2 _) ?_
                  refine nr ?_; intro U h; simp only [z0, z1] at h; subst h
                  refine s_val 80 rfl rfl (.bool false) (rfl) ?_
                  refine nr ?_; intro U h; simp only [z0, z1] at h; subst h
                  refine s_gvalY 81 rfl rfl y2 rfl (.int .u64 ((m : Nat) : Int)) (rfl) ?_
                  refine nr ?_; intro U h; simp only [z0, z1] at h; subst h
                  refine s_gvalY 82 rfl rfl y2 rfl (.bool false) (run_lssU 75 75 _ _ rfl m 1 rfl rfl false i3 _) ?_
                  refine nr ?_; intro U h; simp only [z0, z1] at h; subst h
                  refine s_val 83 rfl rfl (.bool false) (rfl) ?_
                  refine nr ?_; intro U h; simp only [z0, z1] at h; subst h
                  refine s_val 84 rfl rfl (.bool false) (rfl) ?_
                  refine nr ?_; intro U h; simp only [z0, z1] at h; subst h
                  refine s_gvalY 85 rfl rfl y6 rfl (.int .u64 ((m : Nat) : Int)) (rfl) ?_
                  refine nr ?_; intro U h; simp only [z0, z1] at h; subst h
                  refine s_gvalY 86 rfl rfl y6 rfl (.bool true) (run_geqU 75 75 _ _ rfl m 4611686018427387904 rfl rfl true i4 _) ?_
                  refine nr ?_; intro U h; simp only [z0, z1] at h; subst h
                  refine s_val 87 rfl rfl (.bool true) (rfl) ?_
                  refine nr ?_; intro U h; simp only [z0, z1] at h; subst h
                  refine wpList_nil ?_
                  refine then_n ?_
                  refine wp_cond_true rfl ?_
                  refine wp_seq ?_
                  refine wp_region_lit ?_
                  refine s_val 88 rfl rfl (.agg (itA zM)) (run_bd 56 _ rfl [] rfl _ (bdI0 _)) ?_
                  refine nr ?_; intro U h; simp only [z0, z1] at h; subst h
                  refine s_store rfl rfl 56 _ _ rfl g1 0 rfl (.agg (itA zM)) rfl 56 _ kg1 (itA zM) rfl (siIt' _) (itA_fit _ _) (itA_one _) (itA zM) (splice_whole _ _ (itA_sz _ _)) ?_
                  intro w7 St
                  replace kg2 := St.has (by omega) kg2
                  replace HR := HR.st St dHRg1
                  replace GG := GG.store St bg1
                  replace kg1 := St.new
                  clear St
                  refine s_val 3 rfl rfl (.int .i64 0) (rfl) ?_
                  refine nr ?_; intro U h; simp only [z0, z1] at h; subst h
                  refine s_val 4 rfl rfl (.bool false) (rfl) ?_
                  refine nr ?_; intro U h; simp only [z0, z1] at h; subst h
                  refine wpList_nil ?_
                  refine then_n ?_
                  refine wp_ret ?_
                  refine then_r ?_
                  refine bodyPost_ret (results_cell_tmp2 Try.results68 _ _ g1 56 _ (0, 0) _ rfl (.int .i64 0) (.bool false) rfl rfl kg1 Try.underlying56 rfl (siIt' _)) rfl ?_
                  have ch1 := of_decide_eq_true h1
                  have ch2 := of_decide_eq_false h2
                  have ch3 := of_decide_eq_false h3
                  have ch4 := of_decide_eq_false h4
                  have ci1 := of_decide_eq_true i1
                  have ci2 := of_decide_eq_true i2
                  have ci3 := of_decide_eq_false i3
                  have ci4 := of_decide_eq_true i4
                  have hv : readV r = none := by rw [rdv_k2 HR.lt256 h (by omega) (by omega) u2 u3 u4 u5]; exact if_neg (by omega)
                  rw [hv]
                  exact ⟨_, rfl, GG⟩
              · refine wp_region_opq ?_
                intro OPS hY
                have y2 := hY 2 80 rfl
                have y6 := hY 6 84 rfl
                clear hY
                refine s_val 78 rfl rfl (.int .i64 ((f : Nat) : Int)) (rfl) ?_
                refine nr ?_; intro U h; simp only [z0, z1] at h; subst h
                refine s_val 79 rfl rfl (.bool false) (run_neq_k 26 .i64 _ _ _ rfl Try.underlying26 ((f : Nat) : Int) 0 rfl rfl false i2 _) ?_
                refine nr ?_; intro U h; simp only [z0, z1] at h; subst h
                refine s_val 80 rfl rfl (.bool false) (rfl) ?_
                refine nr ?_; intro U h; simp only [z0, z1] at h; subst h
                refine s_gvalY 81 rfl rfl y2 rfl (.int .u64 ((m : Nat) : Int)) (rfl) ?_
                refine nr ?_; intro U h; simp only [z0, z1] at h; subst h
                refine s_gvalY 82 rfl rfl y2 rfl (.bool true) (run_lssU 75 75 _ _ rfl m 1 rfl rfl true i3 _) ?_
                refine nr ?_; intro U h; simp only [z0, z1] at h; subst h
                refine s_val 83 rfl rfl (.bool true) (rfl) ?_
                refine nr ?_; intro U h; simp only [z0, z1] at h; subst h
                refine s_val 84 rfl rfl (.bool true) (rfl) ?_
                refine nr ?_; intro U h; simp only [z0, z1] at h; subst h
                refine s_skipY 85 rfl rfl y6 rfl ?_
                refine nr ?_; intro U h; simp only [z0, z1] at h; subst h
                refine s_skipY 86 rfl rfl y6 rfl ?_
                refine nr ?_; intro U h; simp only [z0, z1] at h; subst h
                refine s_val 87 rfl rfl (.bool true) (rfl) ?_
                refine nr ?_; intro U h; simp only [z0, z1] at h; subst h
                refine wpList_nil ?_
                refine then_n ?_
                refine wp_cond_true rfl ?_
                refine wp_seq ?_
                refine wp_region_lit ?_
                refine s_val 88 rfl rfl (.agg (itA zM)) (run_bd 56 _ rfl [] rfl _ (bdI0 _)) ?_
                refine nr ?_; intro U h; simp only [z0, z1] at h; subst h
                refine s_store rfl rfl 56 _ _ rfl g1 0 rfl (.agg (itA zM)) rfl 56 _ kg1 (itA zM) rfl (siIt' _) (itA_fit _ _) (itA_one _) (itA zM) (splice_whole _ _ (itA_sz _ _)) ?_
                intro w7 St
                replace kg2 := St.has (by omega) kg2
                replace HR := HR.st St dHRg1
                replace GG := GG.store St bg1
                replace kg1 := St.new
                clear St
                refine s_val 3 rfl rfl (.int .i64 0) (rfl) ?_
                refine nr ?_; intro U h; simp only [z0, z1] at h; subst h
                refine s_val 4 rfl rfl (.bool false) (rfl) ?_
                refine nr ?_; intro U h; simp only [z0, z1] at h; subst h
                refine wpList_nil ?_
                refine then_n ?_
                refine wp_ret ?_
                refine then_r ?_
                refine bodyPost_ret (results_cell_tmp2 Try.results68 _ _ g1 56 _ (0, 0) _ rfl (.int .i64 0) (.bool false) rfl rfl kg1 Try.underlying56 rfl (siIt' _)) rfl ?_
                have ch1 := of_decide_eq_true h1
                have ch2 := of_decide_eq_false h2
                have ch3 := of_decide_eq_false h3
                have ch4 := of_decide_eq_false h4
                have ci1 := of_decide_eq_true i1
                have ci2 := of_decide_eq_true i2
                have ci3 := of_decide_eq_true i3
                have hv : readV r = none := by rw [rdv_k2 HR.lt256 h (by omega) (by omega) u2 u3 u4 u5]; exact if_neg (by omega)
                rw [hv]
                exact ⟨_, rfl, GG⟩
        · refine wp_region_lit ?_
          refine s_val 32 rfl rfl (.int .u64 ((n : Nat) : Int)) (rfl) ?_
          refine nr ?_; intro U h; simp only [z0, z1] at h; subst h
          refine s_val 33 rfl rfl (.bool true) (run_eq_k 75 .u64 _ _ _ rfl Try.underlying75 ((n : Nat) : Int) 1 rfl rfl true h4 _) ?_
          refine nr ?_; intro U h; simp only [z0, z1] at h; subst h
          refine wpList_nil ?_
          refine then_n ?_
          refine wp_cond_true rfl ?_
          refine wp_seq ?_
          refine wp_region_lit ?_
          refine s_val 35 rfl rfl (.slice ao r.length cap) (rfl) ?_
          refine nr ?_; intro U h; simp only [z0, z1] at h; subst h
          refine s_val 36 rfl rfl (.int .i64 ((a : Nat) : Int)) (rfl) ?_
          refine nr ?_; intro U h; simp only [z0, z1] at h; subst h
          refine s_callv 37 rfl rfl _ 82 Try.call82 rfl rfl _ rfl [.slice ao r.length cap, .int .i64 ((a : Nat) : Int)] rfl (rgetNum_v ao cap r _ HR ((a : Nat) : Int) hlen m1 b1 f1 u1) ?_
          intro w3 G
          replace kg1 := G.has kg1
          replace HR := HR.gro G
          replace GG := GG.trans G
          clear G
          refine nr ?_; intro U h; simp only [z0, z1] at h; subst h
          refine s_val 34 rfl rfl (.tuple #[.int .u64 ((m1 : Nat) : Int), .int .i64 ((b1 : Nat) : Int), .int .i64 ((f1 : Nat) : Int)]) (rfl) ?_
          refine nr ?_; intro U h; simp only [z0, z1] at h; subst h
          refine s_val 38 rfl rfl (.int .u64 ((m1 : Nat) : Int)) (rfl) ?_
          refine nr ?_; intro U h; simp only [z0, z1] at h; subst h
          refine s_val 39 rfl rfl (.int .i64 ((b1 : Nat) : Int)) (rfl) ?_
          refine nr ?_; intro U h; simp only [z0, z1] at h; subst h
          refine s_val 40 rfl rfl (.int .i64 ((f1 : Nat) : Int)) (rfl) ?_
          refine nr ?_; intro U h; simp only [z0, z1] at h; subst h
          refine s_val 8 rfl rfl (.int .u64 ((m1 : Nat) : Int)) (rfl) ?_
          refine nr ?_; intro U h; simp only [z0, z1] at h; subst h
          refine s_val 9 rfl rfl (.int .i64 ((b1 : Nat) : Int)) (rfl) ?_
          refine nr ?_; intro U h; simp only [z0, z1] at h; subst h
          refine s_val 10 rfl rfl (.int .i64 ((f1 : Nat) : Int)) (rfl) ?_
          refine nr ?_; intro U h; simp only [z0, z1] at h; subst h
          refine wpList_nil ?_
          refine then_n ?_
          refine wp_seq ?_
          cases h5 : decide (((f1 : Nat) : Int) = 0)
          · refine wp_region_opq ?_
            intro OPS hY
            have y6 := hY 6 47 rfl
            have y12 := hY 12 53 rfl
            have y16 := hY 16 57 rfl
            clear hY
            refine s_val 41 rfl rfl (.agg (itA zM)) (run_bd 56 _ rfl [] rfl _ (bdI0 _)) ?_
            refine nr ?_; intro U h; simp only [z0, z1] at h; subst h
            refine s_val 42 rfl rfl (.int .u64 ((m1 : Nat) : Int)) (rfl) ?_
            refine nr ?_; intro U h; simp only [z0, z1] at h; subst h
            refine s_val 43 rfl rfl (.int .u64 (((m1 % 4611686018427387904) : Nat) : Int)) (run_remN 75 75 _ _ rfl m1 4611686018427387904 rfl rfl (by decide) _) ?_
            refine nr ?_; intro U h; simp only [z0, z1] at h; subst h
            refine s_val 44 rfl rfl (.int .i64 (((m1 % 4611686018427387904) : Nat) : Int)) (convU2 _ rfl (m1 % 4611686018427387904) (by omega) rfl _) ?_
            refine nr ?_; intro U h; simp only [z0, z1] at h; subst h
            refine s_val 45 rfl rfl (.int .i64 ((f1 : Nat) : Int)) (rfl) ?_
            refine nr ?_; intro U h; simp only [z0, z1] at h; subst h
            refine s_val 46 rfl rfl (.bool false) (run_eq_k 26 .i64 _ _ _ rfl Try.underlying26 ((f1 : Nat) : Int) 0 rfl rfl false h5 _) ?_
            refine nr ?_; intro U h; simp only [z0, z1] at h; subst h
            refine s_val 47 rfl rfl (.bool false) (rfl) ?_
            refine nr ?_; intro U h; simp only [z0, z1] at h; subst h
            refine s_skipY 48 rfl rfl y6 rfl ?_
            refine nr ?_; intro U h; simp only [z0, z1] at h; subst h
            refine s_skipY 49 rfl rfl y6 rfl ?_
            refine nr ?_; intro U h; simp only [z0, z1] at h; subst h
            refine s_skipY 50 rfl rfl y6 rfl ?_
            refine nr ?_; intro U h; simp only [z0, z1] at h; subst h
            refine s_skipY 51 rfl rfl y6 rfl ?_
            refine nr ?_; intro U h; simp only [z0, z1] at h; subst h
            refine s_val 52 rfl rfl (.bool false) (rfl) ?_
            refine nr ?_; intro U h; simp only [z0, z1] at h; subst h
            refine s_val 53 rfl rfl (.bool false) (rfl) ?_
            refine nr ?_; intro U h; simp only [z0, z1] at h; subst h
            refine s_skipY 54 rfl rfl y12 rfl ?_
            refine nr ?_; intro U h; simp only [z0, z1] at h; subst h
            refine s_skipY 55 rfl rfl y12 rfl ?_
            refine nr ?_; intro U h; simp only [z0, z1] at h; subst h
            refine s_val 56 rfl rfl (.bool false) (rfl) ?_
            refine nr ?_; intro U h; simp only [z0, z1] at h; subst h
            refine s_val 57 rfl rfl (.bool false) (rfl) ?_
            refine nr ?_; intro U h; simp only [z0, z1] at h; subst h
            refine s_skipY 58 rfl rfl y16 rfl ?_
            refine nr ?_; intro U h; simp only [z0, z1] at h; subst h
            refine s_skipY 59 rfl rfl y16 rfl ?_
            refine nr ?_; intro U h; simp only [z0, z1] at h; subst h
            refine s_val 60 rfl rfl (.bool false) (rfl) ?_
            refine nr ?_; intro U h; simp only [z0, z1] at h; subst h
            refine s_store rfl rfl 56 _ _ rfl g1 0 rfl (.agg (itA zM)) rfl 56 _ kg1 (itA zM) rfl (siIt' _) (itA_fit _ _) (itA_one _) (itA zM) (splice_whole _ _ (itA_sz _ _)) ?_
            intro w4 St
            replace HR := HR.st St dHRg1
            replace GG := GG.store St bg1
            replace kg1 := St.new
            clear St
            refine s_val 3 rfl rfl (.int .i64 (((m1 % 4611686018427387904) : Nat) : Int)) (rfl) ?_
            refine nr ?_; intro U h; simp only [z0, z1] at h; subst h
            refine s_val 4 rfl rfl (.bool false) (rfl) ?_
            refine nr ?_; intro U h; simp only [z0, z1] at h; subst h
            refine wpList_nil ?_
            refine then_n ?_
            refine wp_ret ?_
            refine then_r ?_
            refine bodyPost_ret (results_cell_tmp2 Try.results68 _ _ g1 56 _ (0, 0) _ rfl (.int .i64 (((m1 % 4611686018427387904) : Nat) : Int)) (.bool false) rfl rfl kg1 Try.underlying56 rfl (siIt' _)) rfl ?_
            have ch1 := of_decide_eq_true h1
            have ch2 := of_decide_eq_false h2
            have ch3 := of_decide_eq_false h3
            have ch4 := of_decide_eq_true h4
            have ch5 := of_decide_eq_false h5
            have hv : readV r = none := by rw [rdv_k1 HR.lt256 h (by omega) (by omega) u1]; exact if_neg (by omega)
            rw [hv]
            exact ⟨_, rfl, GG⟩
          · cases h6 : decide (((b1 : Nat) : Int) = ((r.length : Nat) : Int))
            · refine wp_region_opq ?_
              intro OPS hY
              have y6 := hY 6 47 rfl
              have y12 := hY 12 53 rfl
              have y16 := hY 16 57 rfl
              clear hY
              refine s_val 41 rfl rfl (.agg (itA zM)) (run_bd 56 _ rfl [] rfl _ (bdI0 _)) ?_
              refine nr ?_; intro U h; simp only [z0, z1] at h; subst h
              refine s_val 42 rfl rfl (.int .u64 ((m1 : Nat) : Int)) (rfl) ?_
              refine nr ?_; intro U h; simp only [z0, z1] at h; subst h
              refine s_val 43 rfl rfl (.int .u64 (((m1 % 4611686018427387904) : Nat) : Int)) (run_remN 75 75 _ _ rfl m1 4611686018427387904 rfl rfl (by decide) _) ?_
              refine nr ?_; intro U h; simp only [z0, z1] at h; subst h
              refine s_val 44 rfl rfl (.int .i64 (((m1 % 4611686018427387904) : Nat) : Int)) (convU2 _ rfl (m1 % 4611686018427387904) (by omega) rfl _) ?_
              refine nr ?_; intro U h; simp only [z0, z1] at h; subst h
              refine s_val 45 rfl rfl (.int .i64 ((f1 : Nat) : Int)) (rfl) ?_
              refine nr ?_; intro U h; simp only [z0, z1] at h; subst h
              refine s_val 46 rfl rfl (.bool true) (run_eq_k 26 .i64 _ _ _ rfl Try.underlying26 ((f1 : Nat) : Int) 0 rfl rfl true h5 _) ?_
              refine nr ?_; intro U h; simp only [z0, z1] at h; subst h
              refine s_val 47 rfl rfl (.bool true) (rfl) ?_
              refine nr ?_; intro U h; simp only [z0, z1] at h; subst h
              refine s_gvalY 48 rfl rfl y6 rfl (.int .i64 ((b1 : Nat) : Int)) (rfl) ?_
              refine nr ?_; intro U h; simp only [z0, z1] at h; subst h
              refine s_gvalY 49 rfl rfl y6 rfl (.slice ao r.length cap) (rfl) ?_
              refine nr ?_; intro U h; simp only [z0, z1] at h; subst h
              refine s_gvalY 50 rfl rfl y6 rfl (.int .i64 ((r.length : Nat) : Int)) (run_len Try.underlying30 _ rfl _ _ _ rfl _) ?_
              refine nr ?_; intro U h; simp only [z0, z1] at h; subst h
              refine s_gvalY 51 rfl rfl y6 rfl (.bool false) (run_eq_k 3 .i64 _ _ _ rfl Try.underlying3 ((b1 : Nat) : Int) ((r.length : Nat) : Int) rfl rfl false h6 _) ?_
              refine nr ?_; intro U h; simp only [z0, z1] at h; subst h
              refine s_val 52 rfl rfl (.bool false) (rfl) ?_
              refine nr ?_; intro U h; simp only [z0, z1] at h; subst h
              refine s_val 53 rfl rfl (.bool false) (rfl) ?_
              refine nr ?_; intro U h; simp only [z0, z1] at h; subst h
              refine s_skipY 54 rfl rfl y12 rfl ?_
              refine nr ?_; intro U h; simp only [z0, z1] at h; subst h
              refine s_skipY 55 rfl rfl y12 rfl ?_
              refine nr ?_; intro U h; simp only [z0, z1] at h; subst h
              refine s_val 56 rfl rfl (.bool false) (rfl) ?_
              refine nr ?_; intro U h; simp only [z0, z1] at h; subst h
              refine s_val 57 rfl rfl (.bool false) (rfl) ?_
              refine nr ?_; intro U h; simp only [z0, z1] at h; subst h
              refine s_skipY 58 rfl rfl y16 rfl ?_
              refine nr ?_; intro U h; simp only [z0, z1] at h; subst h
              refine s_skipY 59 rfl rfl y16 rfl ?_
              refine nr ?_; intro U h; simp only [z0, z1] at h; subst h
              refine s_val 60 rfl rfl (.bool false) (rfl) ?_
              refine nr ?_; intro U h; simp only [z0, z1] at h; subst h
              refine s_store rfl rfl 56 _ _ rfl g1 0 rfl (.agg (itA zM)) rfl 56 _ kg1 (itA zM) rfl (siIt' _) (itA_fit _ _) (itA_one _) (itA zM) (splice_whole _ _ (itA_sz _ _)) ?_
              intro w4 St
              replace HR := HR.st St dHRg1
              replace GG := GG.store St bg1
              replace kg1 := St.new
              clear St
              refine s_val 3 rfl rfl (.int .i64 (((m1 % 4611686018427387904) : Nat) : Int)) (rfl) ?_
              refine nr ?_; intro U h; simp only [z0, z1] at h; subst h
              refine s_val 4 rfl rfl (.bool false) (rfl) ?_
              refine nr ?_; intro U h; simp only [z0, z1] at h; subst h
              refine wpList_nil ?_
              refine then_n ?_
              refine wp_ret ?_
              refine then_r ?_
              refine bodyPost_ret (results_cell_tmp2 Try.results68 _ _ g1 56 _ (0, 0) _ rfl (.int .i64 (((m1 % 4611686018427387904) : Nat) : Int)) (.bool false) rfl rfl kg1 Try.underlying56 rfl (siIt' _)) rfl ?_
              have ch1 := of_decide_eq_true h1
              have ch2 := of_decide_eq_false h2
              have ch3 := of_decide_eq_false h3
              have ch4 := of_decide_eq_true h4
              have ch5 := of_decide_eq_true h5
              have ch6 := of_decide_eq_false h6
              have hv : readV r = none := by rw [rdv_k1 HR.lt256 h (by omega) (by omega) u1]; exact if_neg (by omega)
              rw [hv]
              exact ⟨_, rfl, GG⟩
            · cases h7 : decide (1 ≤ m1)
              · refine wp_region_opq ?_
                intro OPS hY
                have y6 := hY 6 47 rfl
                have y12 := hY 12 53 rfl
                have y16 := hY 16 57 rfl
                clear hY
                refine s_val 41 rfl rfl (.agg (itA zM)) (run_bd 56 _ rfl [] rfl _ (bdI0 _)) ?_
                refine nr ?_; intro U h; simp only [z0, z1] at h; subst h
                refine s_val 42 rfl rfl (.int .u64 ((m1 : Nat) : Int)) (rfl) ?_
                refine nr ?_; intro U h; simp only [z0, z1] at h; subst h
                refine s_val 43 rfl rfl (.int .u64 (((m1 % 4611686018427387904) : Nat) : Int)) (run_remN 75 75 _ _ rfl m1 4611686018427387904 rfl rfl (by decide) _) ?_
                refine nr ?_; intro U h; simp only [z0, z1] at h; subst h
                refine s_val 44 rfl rfl (.int .i64 (((m1 % 4611686018427387904) : Nat) : Int)) (convU2 _ rfl (m1 % 4611686018427387904) (by omega) rfl _) ?_
                refine nr ?_; intro U h; simp only [z0, z1] at h; subst h
                refine s_val 45 rfl rfl (.int .i64 ((f1 : Nat) : Int)) (rfl) ?_
                refine nr ?_; intro U h; simp only [z0, z1] at h; subst h
                refine s_val 46 rfl rfl (.bool true) (run_eq_k 26 .i64 _ _ _ rfl Try.underlying26 ((f1 : Nat) : Int) 0 rfl rfl true h5 _) ?_
                refine nr ?_; intro U h; simp only [z0, z1] at h; subst h
                refine s_val 47 rfl rfl (.bool true) (rfl) ?_
                refine nr ?_; intro U h; simp only [z0, z1] at h; subst h
                refine s_gvalY 48 rfl rfl y6 rfl (.int .i64 ((b1 : Nat) : Int)) (rfl) ?_
                refine nr ?_; intro U h; simp only [z0, z1] at h; subst h
                refine s_gvalY 49 rfl rfl y6 rfl (.slice ao r.length cap) (rfl) ?_
                refine nr ?_; intro U h; simp only [z0, z1] at h; subst h
                refine s_gvalY 50 rfl rfl y6 rfl (.int .i64 ((r.length : Nat) : Int)) (run_len Try.underlying30 _ rfl _ _ _ rfl _) ?_
                refine nr ?_; intro U h; simp only [z0, z1] at h; subst h
                refine s_gvalY 51 rfl rfl y6 rfl (.bool true) (run_eq_k 3 .i64 _ _ _ rfl Try.underlying3 ((b1 : Nat) : Int) ((r.length : Nat) : Int) rfl rfl true h6 _) ?_
                refine nr ?_; intro U h; simp only [z0, z1] at h; subst h
                refine s_val 52 rfl rfl (.bool true) (rfl) ?_
                refine nr ?_; intro U h; simp only [z0, z1] at h; subst h
                refine s_val 53 rfl rfl (.bool true) (rfl) ?_
                refine nr ?_; intro U h; simp only [z0, z1] at h; subst h
                refine s_gvalY 54 rfl rfl y12 rfl (.int .u64 ((m1 : Nat) : Int)) (rfl) ?_
                refine nr ?_; intro U h; simp only [z0, z1] at h; subst h
                refine s_gvalY 55 rfl rfl y12 rfl (.bool false) (run_geqU 75 75 _ _ rfl m1 1 rfl rfl false h7 _) ?_
                refine nr ?_; intro U h; simp only [z0, z1] at h; subst h
                refine s_val 56 rfl rfl (.bool false) (rfl) ?_
                refine nr ?_; intro U h; simp only [z0, z1] at h; subst h
                refine s_val 57 rfl rfl (.bool false) (rfl) ?_
                refine nr ?_; intro U h; simp only [z0, z1] at h; subst h
                refine s_skipY 58 rfl rfl y16 rfl ?_
                refine nr ?_; intro U h; simp only [z0, z1] at h; subst h
                refine s_skipY 59 rfl rfl y16 rfl ?_
                refine nr ?_; intro U h; simp only [z0, z1] at h; subst h
                refine s_val 60 rfl rfl (.bool false) (rfl) ?_
                refine nr ?_; intro U h; simp only [z0, z1] at h; subst h
                refine s_store rfl rfl 56 _ _ rfl g1 0 rfl (.agg (itA zM)) rfl 56 _ kg1 (itA zM) rfl (siIt' _) (itA_fit _ _) (itA_one _) (itA zM) (splice_whole _ _ (itA_sz _ _)) ?_
                intro w4 St
                replace HR := HR.st St dHRg1
                replace GG := GG.store St bg1
                replace kg1 := St.new
                clear St
                refine s_val 3 rfl rfl (.int .i64 (((m1 % 4611686018427387904) : Nat) : Int)) (rfl) ?_
                refine nr ?_; intro U h; simp only [z0, z1] at h; subst h
                refine s_val 4 rfl rfl (.bool false) (rfl) ?_
                refine nr ?_; intro U h; simp only [z0, z1] at h; subst h
                refine wpList_nil ?_
                refine then_n ?_
                refine wp_ret ?_
                refine then_r ?_
                refine bodyPost_ret (results_cell_tmp2 Try.results68 _ _ g1 56 _ (0, 0) _ rfl (.int .i64 (((m1 % 4611686018427387904) : Nat) : Int)) (.bool false) rfl rfl kg1 Try.underlying56 rfl (siIt' _)) rfl ?_
                have ch1 := of_decide_eq_true h1
                have ch2 := of_decide_eq_false h2
                have ch3 := of_decide_eq_false h3
                have ch4 := of_decide_eq_true h4
                have ch5 := of_decide_eq_true h5
                have ch6 := of_decide_eq_true h6
                have ch7 := of_decide_eq_false h7
                have hv : readV r = none := by rw [rdv_k1 HR.lt256 h (by omega) (by omega) u1]; exact if_neg (by omega)
                rw [hv]
                exact ⟨_, rfl, GG⟩
              · cases h8 : decide (m1 ≤ 1048576)
                · refine wp_region_opq ?_
                  intro OPS hY
                  have y6 := hY 6 47 rfl
                  have y12 := hY 12 53 rfl
                  have y16 := hY 16 57 rfl
                  clear hY
                  refine s_val 41 rfl rfl (.agg (itA zM)) (run_bd 56 _ rfl [] rfl _ (bdI0 _)) ?_
                  refine nr ?_; intro U h; simp only [z0, z1] at h; subst h
                  refine s_val 42 rfl rfl (.int .u64 ((m1 : Nat) : Int)) (rfl) ?_
                  refine nr ?_; intro U h; simp only [z0, z1] at h; subst h
                  refine s_val 43 rfl rfl (.int .u64 (((m1 % 4611686018427387904) : Nat) : Int)) (run_remN 75 75 _ _ rfl m1 4611686018427387904 rfl rfl (by decide) _) ?_
                  refine nr ?_; intro U h; simp only [z0, z1] at h; subst h
                  refine s_val 44 rfl rfl (.int .i64 (((m1 % 4611686018427387904) : Nat) : Int)) (convU2 _ rfl (m1 % 4611686018427387904) (by omega) rfl _) ?_
                  refine nr ?_; intro U h; simp only [z0, z1] at h; subst h
                  refine s_val 45 rfl rfl (.int .i64 ((f1 : Nat) : Int)) (rfl) ?_
                  refine nr ?_; intro U h; simp only [z0, z1] at h; subst h
                  refine s_val 46 rfl rfl (.bool true) (run_eq_k 26 .i64 _ _ _ rfl Try.underlying26 ((f1 : Nat) : Int) 0 rfl rfl true h5 _) ?_
                  refine nr ?_; intro U h; simp only [z0, z1] at h; subst h
                  refine s_val 47 rfl rfl (.bool true) (rfl) ?_
                  refine nr ?_; intro U h; simp only [z0, z1] at h; subst h
                  refine s_gvalY 48 rfl rfl y6 rfl (.int .i64 ((b1 : Nat) : Int)) (rfl) ?_
                  refine nr ?_; intro U h; simp only [z0, z1] at h; subst h
                  refine s_gvalY 49 rfl rfl y6 rfl (.slice ao r.length cap) (rfl) ?_
                  refine nr ?_; intro U h; simp only [z0, z1] at h; subst h
                  refine s_gvalY 50 rfl rfl y6 rfl (.int .i64 ((r.length : Nat) : Int)) (run_len Try.underlying30 _ rfl _ _ _ rfl _) ?_
                  refine nr ?_; intro U h; simp only [z0, z1] at h; subst h
                  refine s_gvalY 51 rfl rfl y6 rfl (.bool true) (run_eq_k 3 .i64 _ _ _ rfl Try.underlying3 ((b1 : Nat) : Int) ((r.length : Nat) : Int) rfl rfl true h6 _) ?_
                  refine nr ?_; intro U h; simp only [z0, z1] at h; subst h
                  refine s_val 52 rfl rfl (.bool true) (rfl) ?_
                  refine nr ?_; intro U h; simp only [z0, z1] at h; subst h
                  refine s_val 53 rfl rfl (.bool true) (rfl) ?_
                  refine nr ?_; intro U h; simp only [z0, z1] at h; subst h
                  refine s_gvalY 54 rfl rfl y12 rfl (.int .u64 ((m1 : Nat) : Int)) (rfl) ?_
                  refine nr ?_; intro U h; simp only [z0, z1] at h; subst h
                  refine s_gvalY 55 rfl rfl y12 rfl (.bool true) (run_geqU 75 75 _ _ rfl m1 1 rfl rfl true h7 _) ?_
                  refine nr ?_; intro U h; simp only [z0, z1] at h; subst h
                  refine s_val 56 rfl rfl (.bool true) (rfl) ?_
                  refine nr ?_; intro U h; simp only [z0, z1] at h; subst h
                  refine s_val 57 rfl rfl (.bool true) (rfl) ?_
                  refine nr ?_; intro U h; simp only [z0, z1] at h; subst h
                  refine s_gvalY 58 rfl rfl y16 rfl (.int .u64 ((m1 : Nat) : Int)) (rfl) ?_
                  refine nr ?_; intro U h; simp only [z0, z1] at h; subst h
                  refine s_gvalY 59 rfl rfl y16 rfl (.bool false) (run_leqU 75 75 _ _ rfl m1 1048576 rfl rfl false h8 _) ?_
                  refine nr ?_; intro U h; simp only [z0, z1] at h; subst h
                  refine s_val 60 rfl rfl (.bool false) (rfl) ?_
                  refine nr ?_; intro U h; simp only [z0, z1] at h; subst h
                  refine s_store rfl rfl 56 _ _ rfl g1 0 rfl (.agg (itA zM)) rfl 56 _ kg1 (itA zM) rfl (siIt' _) (itA_fit _ _) (itA_one _) (itA zM) (splice_whole _ _ (itA_sz _ _)) ?_
                  intro w4 St
                  replace HR := HR.st St dHRg1
                  replace GG := GG.store St bg1
                  replace kg1 := St.new
                  clear St
                  refine s_val 3 rfl rfl (.int .i64 (((m1 % 4611686018427387904) : Nat) : Int)) (rfl) ?_
                  refine nr ?_; intro U h; simp only [z0, z1] at h; subst h
                  refine s_val 4 rfl rfl (.bool false) (rfl) ?_
                  refine nr ?_; intro U h; simp only [z0, z1] at h; subst h
                  refine wpList_nil ?_
                  refine then_n ?_
                  refine wp_ret ?_
                  refine then_r ?_
                  refine bodyPost_ret (results_cell_tmp2 Try.results68 _ _ g1 56 _ (0, 0) _ rfl (.int .i64 (((m1 % 4611686018427387904) : Nat) : Int)) (.bool false) rfl rfl kg1 Try.underlying56 rfl (siIt' _)) rfl ?_
                  have ch1 := of_decide_eq_true h1
                  have ch2 := of_decide_eq_false h2
                  have ch3 := of_decide_eq_false h3
                  have ch4 := of_decide_eq_true h4
                  have ch5 := of_decide_eq_true h5
                  have ch6 := of_decide_eq_true h6
                  have ch7 := of_decide_eq_true h7
                  have ch8 := of_decide_eq_false h8
                  have hv : readV r = none := by rw [rdv_k1 HR.lt256 h (by omega) (by omega) u1]; exact if_neg (by omega)
                  rw [hv]
                  exact ⟨_, rfl, GG⟩
                · refine wp_region_opq ?_
                  intro OPS hY
                  have y6 := hY 6 47 rfl
                  have y12 := hY 12 53 rfl
                  have y16 := hY 16 57 rfl
                  clear hY
                  refine s_val 41 rfl rfl (.agg (itA zM)) (run_bd 56 _ rfl [] rfl _ (bdI0 _)) ?_
                  refine nr ?_; intro U h; simp only [z0, z1] at h; subst h
                  refine s_val 42 rfl rfl (.int .u64 ((m1 : Nat) : Int)) (rfl) ?_
                  refine nr ?_; intro U h; simp only [z0, z1] at h; subst h
                  refine s_val 43 rfl rfl (.int .u64 (((m1 % 4611686018427387904) : Nat) : Int)) (run_remN 75 75 _ _ rfl m1 4611686018427387904 rfl rfl (by decide) _) ?_
                  refine nr ?_; intro U h; simp only [z0, z1] at h; subst h
                  refine s_val 44 rfl rfl (.int .i64 (((m1 % 4611686018427387904) : Nat) : Int)) (convU2 _ rfl (m1 % 4611686018427387904) (by omega) rfl _) ?_
                  refine nr ?_; intro U h; simp only [z0, z1] at h; subst h
                  refine s_val 45 rfl rfl (.int .i64 ((f1 : Nat) : Int)) (rfl) ?_
                  refine nr ?_; intro U h; simp only [z0, z1] at h; subst h
                  refine s_val 46 rfl rfl (.bool true) (run_eq_k 26 .i64 _ _ _ rfl Try.underlying26 ((f1 : Nat) : Int) 0 rfl rfl true h5 _) ?_
                  refine nr ?_; intro U h; simp only [z0, z1] at h; subst h
                  refine s_val 47 rfl rfl (.bool true) (rfl) ?_
                  refine nr ?_; intro U h; simp only [z0, z1] at h; subst h
                  refine s_gvalY 48 rfl rfl y6 rfl (.int .i64 ((b1 : Nat) : Int)) (rfl) ?_
                  refine nr ?_; intro U h; simp only [z0, z1] at h; subst h
                  refine s_gvalY 49 rfl rfl y6 rfl (.slice ao r.length cap) (rfl) ?_
                  refine nr ?_; intro U h; simp only [z0, z1] at h; subst h
                  refine s_gvalY 50 rfl rfl y6 rfl (.int .i64 ((r.length : Nat) : Int)) (run_len Try.underlying30 _ rfl _ _ _ rfl _) ?_
                  refine nr ?_; intro U h; simp only [z0, z1] at h; subst h
                  refine s_gvalY 51 rfl rfl y6 rfl (.bool true) (run_eq_k 3 .i64 _ _ _ rfl Try.underlying3 ((b1 : Nat) : Int) ((r.length : Nat) : Int) rfl rfl true h6 _) ?_
                  refine nr ?_; intro U h; simp only [z0, z1] at h; subst h
                  refine s_val 52 rfl rfl (.bool true) (rfl) ?_
                  refine nr ?_; intro U h; simp only [z0, z1] at h; subst h
                  refine s_val 53 rfl rfl (.bool true) (rfl) ?_
                  refine nr ?_; intro U h; simp only [z0, z1] at h; subst h
                  refine s_gvalY 54 rfl rfl y12 rfl (.int .u64 ((m1 : Nat) : Int)) (rfl) ?_
                  refine nr ?_; intro U h; simp only [z0, z1] at h; subst h
                  refine s_gvalY 55 rfl rfl y12 rfl (.bool true) (run_geqU 75 75 _ _ rfl m1 1 rfl rfl true h7 _) ?_
                  refine nr ?_; intro U h; simp only [z0, z1] at h; subst h
                  refine s_val 56 rfl rfl (.bool true) (rfl) ?_
                  refine nr ?_; intro U h; simp only [z0, z1] at h; subst h
                  refine s_val 57 rfl rfl (.bool true) (rfl) ?_
                  refine nr ?_; intro U h; simp only [z0, z1] at h; subst h
                  refine s_gvalY 58 rfl rfl y16 rfl (.int .u64 ((m1 : Nat) : Int)) (rfl) ?_
                  refine nr ?_; intro U h; simp only [z0, z1] at h; subst h
                  refine s_gvalY 59 rfl rfl y16 rfl (.bool true) (run_leqU 75 75 _ _ rfl m1 1048576 rfl rfl true h8 _) ?_
                  refine nr ?_; intro U h; simp only [z0, z1] at h; subst h
                  refine s_val 60 rfl rfl (.bool true) (rfl) ?_
                  refine nr ?_; intro U h; simp only [z0, z1] at h; subst h
                  refine s_store rfl rfl 56 _ _ rfl g1 0 rfl (.agg (itA zM)) rfl 56 _ kg1 (itA zM) rfl (siIt' _) (itA_fit _ _) (itA_one _) (itA zM) (splice_whole _ _ (itA_sz _ _)) ?_
                  intro w4 St
                  replace HR := HR.st St dHRg1
                  replace GG := GG.store St bg1
                  replace kg1 := St.new
                  clear St
                  refine s_val 3 rfl rfl (.int .i64 (((m1 % 4611686018427387904) : Nat) : Int)) (rfl) ?_
                  refine nr ?_; intro U h; simp only [z0, z1] at h; subst h
                  refine s_val 4 rfl rfl (.bool true) (rfl) ?_
                  refine nr ?_; intro U h; simp only [z0, z1] at h; subst h
                  refine wpList_nil ?_
                  refine then_n ?_
                  refine wp_ret ?_
                  refine then_r ?_
                  refine bodyPost_ret (results_cell_tmp2 Try.results68 _ _ g1 56 _ (0, 0) _ rfl (.int .i64 (((m1 % 4611686018427387904) : Nat) : Int)) (.bool true) rfl rfl kg1 Try.underlying56 rfl (siIt' _)) rfl ?_
                  have ch1 := of_decide_eq_true h1
                  have ch2 := of_decide_eq_false h2
                  have ch3 := of_decide_eq_false h3
                  have ch4 := of_decide_eq_true h4
                  have ch5 := of_decide_eq_true h5
                  have ch6 := of_decide_eq_true h6
                  have ch7 := of_decide_eq_true h7
                  have ch8 := of_decide_eq_true h8
                  have hv : readV r = some (.inl m1) := by rw [rdv_k1 HR.lt256 h (by omega) (by omega) u1]; exact if_pos ⟨by omega, by omega, by omega, by omega⟩
                  have hm : m1 % 4611686018427387904 = m1 := Nat.mod_eq_of_lt (by omega)
                  rw [hv, hm]
                  exact ⟨rfl, GG⟩
      · refine wp_region_opq ?_
        intro OPS hY
        have y2 := hY 2 23 rfl
        have y6 := hY 6 27 rfl
        clear hY
        refine s_val 21 rfl rfl (.int .i64 ((e : Nat) : Int)) (rfl) ?_
        refine nr ?_; intro U h; simp only [z0, z1] at h; subst h
        refine s_val 22 rfl rfl (.bool false) (run_neq_k 26 .i64 _ _ _ rfl Try.underlying26 ((e : Nat) : Int) 0 rfl rfl false h1 _) ?_
        refine nr ?_; intro U h; simp only [z0, z1] at h; subst h
        refine s_val 23 rfl rfl (.bool false) (rfl) ?_
        refine nr ?_; intro U h; simp only [z0, z1] at h; subst h
        refine s_gvalY 24 rfl rfl y2 rfl (.int .u64 ((n : Nat) : Int)) (rfl) ?_
        refine nr ?_; intro U h; simp only [z0, z1] at h; subst h
        refine s_gvalY 25 rfl rfl y2 rfl (.bool false) (run_lssU 75 75 _ _ rfl n 1 rfl rfl false h2 _) ?_
        refine nr ?_; intro U h; simp only [z0, z1] at h; subst h
        refine s_val 26 rfl rfl (.bool false) (rfl) ?_
        refine nr ?_; intro U h; simp only [z0, z1] at h; subst h
        refine s_val 27 rfl rfl (.bool false) (rfl) ?_
        refine nr ?_; intro U h; simp only [z0, z1] at h; subst h
        refine s_gvalY 28 rfl rfl y6 rfl (.int .u64 ((n : Nat) : Int)) (rfl) ?_
        refine nr ?_; intro U h; simp only [z0, z1] at h; subst h
        refine s_gvalY 29 rfl rfl y6 rfl (.bool true) (run_gtrU 75 75 _ _ rfl n 2 rfl rfl true h3 _) ?_
        refine nr ?_; intro U h; simp only [z0, z1] at h; subst h
        refine s_val 30 rfl rfl (.bool true) (rfl) ?_
        refine nr ?_; intro U h; simp only [z0, z1] at h; subst h
        refine wpList_nil ?_
        refine then_n ?_
        refine wp_cond_true rfl ?_
        refine wp_seq ?_
        refine wp_region_lit ?_
        refine s_val 31 rfl rfl (.agg (itA zM)) (run_bd 56 _ rfl [] rfl _ (bdI0 _)) ?_
        refine nr ?_; intro U h; simp only [z0, z1] at h; subst h
        refine s_store rfl rfl 56 _ _ rfl g1 0 rfl (.agg (itA zM)) rfl 56 _ kg1 (itA zM) rfl (siIt' _) (itA_fit _ _) (itA_one _) (itA zM) (splice_whole _ _ (itA_sz _ _)) ?_
        intro w3 St
        replace HR := HR.st St dHRg1
        replace GG := GG.store St bg1
        replace kg1 := St.new
        clear St
        refine s_val 3 rfl rfl (.int .i64 0) (rfl) ?_
        refine nr ?_; intro U h; simp only [z0, z1] at h; subst h
        refine s_val 4 rfl rfl (.bool false) (rfl) ?_
        refine nr ?_; intro U h; simp only [z0, z1] at h; subst h
        refine wpList_nil ?_
        refine then_n ?_
        refine wp_ret ?_
        refine then_r ?_
        refine bodyPost_ret (results_cell_tmp2 Try.results68 _ _ g1 56 _ (0, 0) _ rfl (.int .i64 0) (.bool false) rfl rfl kg1 Try.underlying56 rfl (siIt' _)) rfl ?_
        have ch1 := of_decide_eq_true h1
        have ch2 := of_decide_eq_false h2
        have ch3 := of_decide_eq_true h3
        have hv : readV r = none := rdv_k0 HR.lt256 h (by omega)
        rw [hv]
        exact ⟨_, rfl, GG⟩
    · refine wp_region_opq ?_
      intro OPS hY
      have y2 := hY 2 23 rfl
      have y6 := hY 6 27 rfl
      clear hY
      refine s_val 21 rfl rfl (.int .i64 ((e : Nat) : Int)) (rfl) ?_
      refine nr ?_; intro U h; simp only [z0, z1] at h; subst h
      refine s_val 22 rfl rfl (.bool false) (run_neq_k 26 .i64 _ _ _ rfl Try.underlying26 ((e : Nat) : Int) 0 rfl rfl false h1 _) ?_
      refine nr ?_; intro U h; simp only [z0, z1] at h; subst h
      refine s_val 23 rfl rfl (.bool false) (rfl) ?_
      refine nr ?_; intro U h; simp only [z0, z1] at h; subst h
      refine s_gvalY 24 rfl rfl y2 rfl (.int .u64 ((n : Nat) : Int)) (rfl) ?_
      refine nr ?_; intro U h; simp only [z0, z1] at h; subst h
      refine s_gvalY 25 rfl rfl y2 rfl (.bool true) (run_lssU 75 75 _ _ rfl n 1 rfl rfl true h2 _) ?_
      refine nr ?_; intro U h; simp only [z0, z1] at h; subst h
      refine s_val 26 rfl rfl (.bool true) (rfl) ?_
      refine nr ?_; intro U h; simp only [z0, z1] at h; subst h
      refine s_val 27 rfl rfl (.bool true) (rfl) ?_
      refine nr ?_; intro U h; simp only [z0, z1] at h; subst h
      refine s_skipY 28 rfl rfl y6 rfl ?_
      refine nr ?_; intro U h; simp only [z0, z1] at h; subst h
      refine s_skipY 29 rfl rfl y6 rfl ?_
      refine nr ?_; intro U h; simp only [z0, z1] at h; subst h
      refine s_val 30 rfl rfl (.bool true) (rfl) ?_
      refine nr ?_; intro U h; simp only [z0, z1] at h; subst h
      refine wpList_nil ?_
      refine then_n ?_
      refine wp_cond_true rfl ?_
      refine wp_seq ?_
      refine wp_region_lit ?_
      refine s_val 31 rfl rfl (.agg (itA zM)) (run_bd 56 _ rfl [] rfl _ (bdI0 _)) ?_
      refine nr ?_; intro U h; simp only [z0, z1] at h; subst h
      refine s_store rfl rfl 56 _ _ rfl g1 0 rfl (.agg (itA zM)) rfl 56 _ kg1 (itA zM) rfl (siIt' _) (itA_fit _ _) (itA_one _) (itA zM) (splice_whole _ _ (itA_sz _ _)) ?_
      intro w3 St
      replace HR := HR.st St dHRg1
      replace GG := GG.store St bg1
      replace kg1 := St.new
      clear St
      refine s_val 3 rfl rfl (.int .i64 0) (rfl) ?_
      refine nr ?_; intro U h; simp only [z0, z1] at h; subst h
      refine s_val 4 rfl rfl (.bool false) (rfl) ?_
      refine nr ?_; intro U h; simp only [z0, z1] at h; subst h
      refine wpList_nil ?_
      refine then_n ?_
      refine wp_ret ?_
      refine then_r ?_
      refine bodyPost_ret (results_cell_tmp2 Try.results68 _ _ g1 56 _ (0, 0) _ rfl (.int .i64 0) (.bool false) rfl rfl kg1 Try.underlying56 rfl (siIt' _)) rfl ?_
      have ch1 := of_decide_eq_true h1
      have ch2 := of_decide_eq_true h2
      have hv : readV r = none := rdv_k0 HR.lt256 h (by omega)
      rw [hv]
      exact ⟨_, rfl, GG⟩
end Go.Proofs.Ytgfnjekpafempaa
