/- The document's side: a record read, an item taken, what the records say. -/
import Derived.Test.YtgfnjekpafempaaGG6
import Derived.Test.YtgfnjekpafempaaGV11
import Derived.Test.YtgfnjekpafempaaGE8
import Derived.Test.YtgfnjekpafempaaGAb
namespace Go.Proofs.Ytgfnjekpafempaa
open Go.RowKit
theorem vK {P : Program} {o : Oper} {A : Act} (t t2 : TypeId) (x y : Operand) (ho : o.op = .binOp .geq t x y t2) (a b : Nat) (hx : A.eval x = .int .u64 (a : Int)) (hy : A.eval y = .int .u64 (b : Int)) (p : Bool) (hp : decide (b ≤ a) = p) (w : World) : (execOp A.eval o).run P w = .ok (.value (.bool p)) w := by
  subst hp
  refine jD .geq t x y t2 ho _ _ _ hx hy (by simp [eqGuard]) ?_
  simp [go_sem]
theorem YM {P : Program} {o : Oper} {A : Act} (t t2 : TypeId) (x y : Operand) (ho : o.op = .binOp .leq t x y t2) (a b : Nat) (hx : A.eval x = .int .u64 (a : Int)) (hy : A.eval y = .int .u64 (b : Int)) (p : Bool) (hp : decide (a ≤ b) = p) (w : World) : (execOp A.eval o).run P w = .ok (.value (.bool p)) w := by
  subst hp
  refine jD .leq t x y t2 ho _ _ _ hx hy (by simp [eqGuard]) ?_
  simp [go_sem]
theorem VH {r : List Nat} (hr : ∀ b ∈ r, b < 256) {n a e : Nat} (h : getE r 0 = (n, a, e)) (c : ¬ (e = 0 ∧ 1 ≤ n ∧ n ≤ 2)) : readV r = none := by
  rw [uV hr h]
  by_cases he : e = 0
  · rw [if_neg (fun k => k he), if_neg (by omega), if_neg (by omega)]
  · rw [if_pos he]
theorem Zn {r : List Nat} (hr : ∀ b ∈ r, b < 256) {n a e : Nat} (h : getE r 0 = (n, a, e)) (hn : n = 1) (he : e = 0) {m b f : Nat} (g : getE r ((a : Nat) : Int) = (m, b, f)) : readV r = if f = 0 ∧ b = r.length ∧ 1 ≤ m ∧ m ≤ 1048576 then some (.inl m) else none := by
  rw [uV hr h, if_neg (fun k => k he), if_pos hn]
  unfold rbV
  rw [g]
  simp only
  by_cases c : f = 0 ∧ b = r.length ∧ m ≤ 1048576
  · rw [if_pos c, Option.bind_some]
    by_cases d : 1 ≤ m
    · rw [if_pos d, if_pos ⟨c.1, c.2.1, d, c.2.2⟩]
    · rw [if_neg d, if_neg (fun x => d x.2.2.1)]
  · rw [if_neg c, Option.bind_none, if_neg (fun x => c ⟨x.1, x.2.1, x.2.2.2⟩)]
theorem vO {r : List Nat} (hr : ∀ b ∈ r, b < 256) {n a e : Nat} (h : getE r 0 = (n, a, e)) (hn : n = 2) (he : e = 0) {y a2 e2 : Nat} (g2 : getV r ((a : Nat) : Int) = (y, a2, e2)) {m b f : Nat} (g3 : getE r ((a2 : Nat) : Int) = (m, b, f)) {z c d : Nat} (g4 : getV r ((b : Nat) : Int) = (z, c, d)) {t : List Nat} {k q : Nat} (g5 : getT r ((c : Nat) : Int) 64 = (t, k, q)) :
    readV r = if e2 = 0 ∧ f = 0 ∧ 1 ≤ m ∧ m < 4611686018427387904 ∧ d = 0 ∧ q = 0 ∧ k = r.length then some (.inr ⟨y, m, z, t⟩) else none := by
  rw [uV hr h, if_neg (fun k => k he), if_neg (by omega), if_pos hn]
  unfold riV
  rw [g2]
  simp only
  by_cases c1 : e2 = 0
  · rw [if_pos c1]
    unfold rvV
    rw [g3]
    simp only
    by_cases c2 : f = 0 ∧ 1 ≤ m ∧ m ≤ 4611686018427387903
    · rw [if_pos c2, g4]
      simp only
      by_cases c3 : d = 0
      · rw [if_pos c3]
        simp only
        rw [g5]
        simp only
        by_cases c4 : q = 0 ∧ k = r.length
        · rw [if_pos c4, if_pos ⟨c1, c2.1, c2.2.1, by omega, c3, c4.1, c4.2⟩]
          rfl
        · rw [if_neg c4, if_neg (fun x => c4 ⟨x.2.2.2.2.2.1, x.2.2.2.2.2.2⟩)]
          rfl
      · rw [if_neg c3, if_neg (fun x => c3 x.2.2.2.2.1)]
        rfl
    · rw [if_neg c2, if_neg (fun x => c2 ⟨x.2.1, x.2.2.1, by omega⟩)]
      rfl
  · rw [if_neg c1, if_neg (fun x => c1 x.1)]
    rfl
def RrP (w : World) : Option (Nat ⊕ It) → Ending → World → Prop
  | none, e, w' => ∃ n : Int, e = .returned (.tuple #[.agg (itA zM), .int .i64 n, .bool false]) ∧ Gro w w'
  | some (.inl n), e, w' => e = .returned (.tuple #[.agg (itA zM), .int .i64 (n : Int), .bool true]) ∧ Gro w w'
  | some (.inr x), e, w' => ∃ ao cap, e = .returned (.tuple #[.agg (itA (x.im ao cap)), .int .i64 0, .bool true]) ∧ Gro w w' ∧ OB w' 5 .u8 w.heap.size ao cap x.val
set_option maxRecDepth 100000 in
set_option maxHeartbeats 4000000 in
theorem Jl (w : World) (ao : Option Addr) (cap : Nat) (r : List Nat) (HR : NC w .u8 ao cap r) (hlen : r.length ≤ 140737488355000) : Calls Try.prog 68 #[.slice ao r.length cap] w (RrP w (readV r)) := by
  obtain ⟨n, a, e, h⟩ := tri (getE r 0)
  obtain ⟨m1, b1, f1, u1⟩ := tri (getE r ((a : Nat) : Int))
  obtain ⟨y, a2, e2, u2⟩ := tri (getV r ((a : Nat) : Int))
  obtain ⟨m, b, f, u3⟩ := tri (getE r ((a2 : Nat) : Int))
  obtain ⟨z, c, d, u4⟩ := tri (getV r ((b : Nat) : Int))
  obtain ⟨t, k, q, u5⟩ := tri (getT r ((c : Nat) : Int) 64)
  refine js Try.func68 rfl Try.ntmps68 [.slice ao r.length cap] [.slice ao r.length cap, uD, uD, uD, uD, uD, uD, uD, uD, uD, uD, uD, uD, uD, uD, uD, uD, uD, uD, uD, uD, uD, uD, uD, uD, uD, uD, uD, uD, uD, uD, uD, uD, uD, uD, uD, uD, uD, uD, uD, uD, uD, uD, uD, uD, uD, uD, uD, uD, uD, uD, uD, uD, uD, uD, uD, uD, uD, uD, uD, uD, uD, uD, uD, uD, uD, uD, uD, uD, uD, uD, uD, uD, uD, uD, uD, uD, uD, uD, uD, uD, uD, uD, uD, uD, uD, uD, uD, uD, uD, uD, uD, uD, uD, uD, uD, uD, uD, uD, uD, uD, uD, uD, uD, uD, uD, uD, uD, uD, uD, uD, uD, uD, uD, uD, uD, uD, uD, uD, uD, uD, uD] rfl ?_
  have GG := Gro.refl w
  refine qS ?_
  refine jU 2 rfl rfl 56 rfl _ zeroIt (itA zM) rfl ?_
  intro w1 g1 G eg1 kg1
  have bg1 := jk GG eg1
  have dHRg1 := HR.ne eg1
  replace HR := HR.gro G
  replace GG := GG.trans G
  clear G
  clear eg1
  refine nr ?_; intro U h; simp only [z0, z1] at h; subst h
  refine ja 3 rfl rfl (iK 0) (rfl) ?_
  refine ja 4 rfl rfl (vF) (rfl) ?_
  refine nr ?_; intro U h; simp only [z0, z1] at h; subst h
  refine qA ?_
  refine ja 16 rfl rfl (.slice ao r.length cap) (rfl) ?_
  refine nr ?_; intro U h; simp only [z0, z1] at h; subst h
  refine jy 17 rfl rfl _ 82 Try.call82 rfl rfl _ rfl [.slice ao r.length cap, iK 0] rfl (Jm ao cap r _ HR 0 hlen n a e h) ?_
  intro w2 G
  replace kg1 := G.has kg1
  replace HR := HR.gro G
  replace GG := GG.trans G
  clear G
  refine nr ?_; intro U h; simp only [z0, z1] at h; subst h
  refine ja 15 rfl rfl (.tuple #[.int .u64 ((n : Nat) : Int), nK a, nK e]) (rfl) ?_
  refine ja 18 rfl rfl (.int .u64 ((n : Nat) : Int)) (rfl) ?_
  refine ja 19 rfl rfl (nK a) (rfl) ?_
  refine ja 20 rfl rfl (nK e) (rfl) ?_
  refine ja 5 rfl rfl (.int .u64 ((n : Nat) : Int)) (rfl) ?_
  refine nr ?_; intro U h; simp only [z0, z1] at h; subst h
  refine ja 6 rfl rfl (nK a) (rfl) ?_
  refine ja 7 rfl rfl (nK e) (rfl) ?_
  refine nr ?_; intro U h; simp only [z0, z1] at h; subst h
  refine qL (qE (qE ?_))
  cases h1 : decide (((e : Nat) : Int) = 0)
  refine jj ?_
  intro OPS hY
  have y2 := hY 2 23 rfl
  have y6 := hY 6 27 rfl
  clear hY
  refine ja 21 rfl rfl (nK e) (rfl) ?_
  refine ja 22 rfl rfl (vT) (jh 26 .i64 _ _ _ rfl Try.underlying26 ((e : Nat) : Int) 0 rfl rfl true h1 _) ?_
  refine ja 23 rfl rfl (vT) (rfl) ?_
  refine jo 24 rfl rfl y2 rfl ?_
  refine jo 25 rfl rfl y2 rfl ?_
  refine nr ?_; intro U h; simp only [z0, z1] at h; subst h
  refine ja 26 rfl rfl (vT) (rfl) ?_
  refine ja 27 rfl rfl (vT) (rfl) ?_
  refine jo 28 rfl rfl y6 rfl ?_
  refine jo 29 rfl rfl y6 rfl ?_
  refine ja 30 rfl rfl (vT) (rfl) ?_
  refine nr ?_; intro U h; simp only [z0, z1] at h; subst h
  refine qL (qT rfl (qS ?_))
  refine ja 31 rfl rfl (.agg (itA zM)) (jN 56 _ rfl [] rfl _ (bdI0 _)) ?_
  refine nr ?_; intro U h; simp only [z0, z1] at h; subst h
  refine jt rfl rfl 56 _ _ rfl g1 0 rfl (.agg (itA zM)) rfl 56 _ kg1 (itA zM) rfl (siIt' _) (jT _ _) (jQ _) (itA zM) (jm _ _ (jZ _ _)) ?_
  intro w3 St
  replace HR := HR.st St dHRg1
  replace GG := GG.store St bg1
  replace kg1 := St.new
  clear St
  refine ja 3 rfl rfl (iK 0) (rfl) ?_
  refine ja 4 rfl rfl (vF) (rfl) ?_
  refine nr ?_; intro U h; simp only [z0, z1] at h; subst h
  refine qL (qR (jr ?_))
  refine bodyPost_ret (ju Try.results68 _ _ g1 56 _ (0, 0) _ rfl (iK 0) (vF) rfl rfl kg1 Try.underlying56 rfl (siIt' _)) rfl ?_
  have ch1 := of_decide_eq_false h1
  have hv : readV r = none := VH HR.lt256 h (by omega)
  rw [hv]
  exact ⟨_, rfl, GG⟩
  cases h2 : decide (n < 1)
  cases h3 : decide (2 < n)
  refine jj ?_
  intro OPS hY
  have y2 := hY 2 23 rfl
  have y6 := hY 6 27 rfl
  clear hY
  refine ja 21 rfl rfl (nK e) (rfl) ?_
  refine ja 22 rfl rfl (vF) (jh 26 .i64 _ _ _ rfl Try.underlying26 ((e : Nat) : Int) 0 rfl rfl false h1 _) ?_
  refine ja 23 rfl rfl (vF) (rfl) ?_
  refine je 24 rfl rfl y2 rfl (.int .u64 ((n : Nat) : Int)) (rfl) ?_
  refine je 25 rfl rfl y2 rfl (vF) (zK 75 75 _ _ rfl n 1 rfl rfl false h2 _) ?_
  refine nr ?_; intro U h; simp only [z0, z1] at h; subst h
  refine ja 26 rfl rfl (vF) (rfl) ?_
  refine ja 27 rfl rfl (vF) (rfl) ?_
  refine je 28 rfl rfl y6 rfl (.int .u64 ((n : Nat) : Int)) (rfl) ?_
  refine je 29 rfl rfl y6 rfl (vF) (jS 75 75 _ _ rfl n 2 rfl rfl false h3 _) ?_
  refine ja 30 rfl rfl (vF) (rfl) ?_
  refine nr ?_; intro U h; simp only [z0, z1] at h; subst h
  refine qL (qF rfl (qK (qE (qE ?_))))
  cases h4 : decide (((n : Nat) : Int) = 1)
  refine qG ?_
  refine ja 32 rfl rfl (.int .u64 ((n : Nat) : Int)) (rfl) ?_
  refine ja 33 rfl rfl (vF) (jB 75 .u64 _ _ _ rfl Try.underlying75 ((n : Nat) : Int) 1 rfl rfl false h4 _) ?_
  refine nr ?_; intro U h; simp only [z0, z1] at h; subst h
  refine qL (qF rfl (qK (qS ?_)))
  refine ja 62 rfl rfl (.slice ao r.length cap) (rfl) ?_
  refine ja 63 rfl rfl (nK a) (rfl) ?_
  refine nr ?_; intro U h; simp only [z0, z1] at h; subst h
  refine jy 64 rfl rfl _ 83 Try.call83 rfl rfl _ rfl [.slice ao r.length cap, nK a] rfl (YU ao cap r _ HR ((a : Nat) : Int) hlen y a2 e2 u2) ?_
  intro w3 G
  replace kg1 := G.has kg1
  replace HR := HR.gro G
  replace GG := GG.trans G
  clear G
  refine nr ?_; intro U h; simp only [z0, z1] at h; subst h
  refine ja 61 rfl rfl (.tuple #[.agg (idA y), nK a2, nK e2]) (rfl) ?_
  refine ja 65 rfl rfl (.agg (idA y)) (rfl) ?_
  refine ja 66 rfl rfl (nK a2) (rfl) ?_
  refine ja 67 rfl rfl (nK e2) (rfl) ?_
  refine nr ?_; intro U h; simp only [z0, z1] at h; subst h
  refine jU 11 rfl rfl 52 rfl _ zero23 (idA 0) rfl ?_
  intro w4 g2 G eg2 kg2
  have bg2 := jk GG eg2
  have dg1g2 := jH kg1 eg2
  have dHRg2 := HR.ne eg2
  replace kg1 := G.has kg1
  replace HR := HR.gro G
  replace GG := GG.trans G
  clear G
  clear eg2
  refine nr ?_; intro U h; simp only [z0, z1] at h; subst h
  refine jt rfl rfl 52 _ _ rfl g2 0 rfl (.agg (idA y)) rfl 52 _ kg2 (idA y) rfl (size23' _) (un _ _) (vB _) (idA y) (jm _ _ (Js _ _)) ?_
  intro w5 St
  replace kg1 := St.has (by omega) kg1
  replace HR := HR.st St dHRg2
  replace GG := GG.store St bg2
  replace kg2 := St.new
  clear St
  refine ja 6 rfl rfl (nK a2) (rfl) ?_
  refine ja 7 rfl rfl (nK e2) (rfl) ?_
  refine nr ?_; intro U h; simp only [z0, z1] at h; subst h
  refine qL (qE (qE ?_))
  cases i1 : decide (((e2 : Nat) : Int) = 0)
  refine qG ?_
  refine ja 68 rfl rfl (nK e2) (rfl) ?_
  refine ja 69 rfl rfl (vT) (jh 26 .i64 _ _ _ rfl Try.underlying26 ((e2 : Nat) : Int) 0 rfl rfl true i1 _) ?_
  refine nr ?_; intro U h; simp only [z0, z1] at h; subst h
  refine qL (qT rfl (qS ?_))
  refine ja 70 rfl rfl (.agg (itA zM)) (jN 56 _ rfl [] rfl _ (bdI0 _)) ?_
  refine nr ?_; intro U h; simp only [z0, z1] at h; subst h
  refine jt rfl rfl 56 _ _ rfl g1 0 rfl (.agg (itA zM)) rfl 56 _ kg1 (itA zM) rfl (siIt' _) (jT _ _) (jQ _) (itA zM) (jm _ _ (jZ _ _)) ?_
  intro w6 St
  replace kg2 := St.has (by omega) kg2
  replace HR := HR.st St dHRg1
  replace GG := GG.store St bg1
  replace kg1 := St.new
  clear St
  refine ja 3 rfl rfl (iK 0) (rfl) ?_
  refine ja 4 rfl rfl (vF) (rfl) ?_
  refine nr ?_; intro U h; simp only [z0, z1] at h; subst h
  refine qL (qR (jr ?_))
  refine bodyPost_ret (ju Try.results68 _ _ g1 56 _ (0, 0) _ rfl (iK 0) (vF) rfl rfl kg1 Try.underlying56 rfl (siIt' _)) rfl ?_
  have ch1 := of_decide_eq_true h1
  have ch2 := of_decide_eq_false h2
  have ch3 := of_decide_eq_false h3
  have ch4 := of_decide_eq_false h4
  have ci1 := of_decide_eq_false i1
  have hv : readV r = none := by rw [vO HR.lt256 h (by omega) (by omega) u2 u3 u4 u5]; exact if_neg (by omega)
  rw [hv]
  exact ⟨_, rfl, GG⟩
  refine qG ?_
  refine ja 68 rfl rfl (nK e2) (rfl) ?_
  refine ja 69 rfl rfl (vF) (jh 26 .i64 _ _ _ rfl Try.underlying26 ((e2 : Nat) : Int) 0 rfl rfl false i1 _) ?_
  refine nr ?_; intro U h; simp only [z0, z1] at h; subst h
  refine qL (qF rfl (qK (qS ?_)))
  refine ja 72 rfl rfl (.slice ao r.length cap) (rfl) ?_
  refine ja 73 rfl rfl (nK a2) (rfl) ?_
  refine nr ?_; intro U h; simp only [z0, z1] at h; subst h
  refine jy 74 rfl rfl _ 82 Try.call82 rfl rfl _ rfl [.slice ao r.length cap, nK a2] rfl (Jm ao cap r _ HR ((a2 : Nat) : Int) hlen m b f u3) ?_
  intro w6 G
  replace kg1 := G.has kg1
  replace kg2 := G.has kg2
  replace HR := HR.gro G
  replace GG := GG.trans G
  clear G
  refine nr ?_; intro U h; simp only [z0, z1] at h; subst h
  refine ja 71 rfl rfl (.tuple #[.int .u64 ((m : Nat) : Int), nK b, nK f]) (rfl) ?_
  refine ja 75 rfl rfl (.int .u64 ((m : Nat) : Int)) (rfl) ?_
  refine ja 76 rfl rfl (nK b) (rfl) ?_
  refine ja 77 rfl rfl (nK f) (rfl) ?_
  refine ja 12 rfl rfl (.int .u64 ((m : Nat) : Int)) (rfl) ?_
  refine nr ?_; intro U h; simp only [z0, z1] at h; subst h
  refine ja 6 rfl rfl (nK b) (rfl) ?_
  refine ja 7 rfl rfl (nK f) (rfl) ?_
  refine nr ?_; intro U h; simp only [z0, z1] at h; subst h
  refine qL (qE (qE ?_))
  cases i2 : decide (((f : Nat) : Int) = 0)
  refine jj ?_
  intro OPS hY
  have y2 := hY 2 80 rfl
  have y6 := hY 6 84 rfl
  clear hY
  refine ja 78 rfl rfl (nK f) (rfl) ?_
  refine ja 79 rfl rfl (vT) (jh 26 .i64 _ _ _ rfl Try.underlying26 ((f : Nat) : Int) 0 rfl rfl true i2 _) ?_
  refine ja 80 rfl rfl (vT) (rfl) ?_
  refine jo 81 rfl rfl y2 rfl ?_
  refine jo 82 rfl rfl y2 rfl ?_
  refine nr ?_; intro U h; simp only [z0, z1] at h; subst h
  refine ja 83 rfl rfl (vT) (rfl) ?_
  refine ja 84 rfl rfl (vT) (rfl) ?_
  refine jo 85 rfl rfl y6 rfl ?_
  refine jo 86 rfl rfl y6 rfl ?_
  refine ja 87 rfl rfl (vT) (rfl) ?_
  refine nr ?_; intro U h; simp only [z0, z1] at h; subst h
  refine qL (qT rfl (qS ?_))
  refine ja 88 rfl rfl (.agg (itA zM)) (jN 56 _ rfl [] rfl _ (bdI0 _)) ?_
  refine nr ?_; intro U h; simp only [z0, z1] at h; subst h
  refine jt rfl rfl 56 _ _ rfl g1 0 rfl (.agg (itA zM)) rfl 56 _ kg1 (itA zM) rfl (siIt' _) (jT _ _) (jQ _) (itA zM) (jm _ _ (jZ _ _)) ?_
  intro w7 St
  replace kg2 := St.has (by omega) kg2
  replace HR := HR.st St dHRg1
  replace GG := GG.store St bg1
  replace kg1 := St.new
  clear St
  refine ja 3 rfl rfl (iK 0) (rfl) ?_
  refine ja 4 rfl rfl (vF) (rfl) ?_
  refine nr ?_; intro U h; simp only [z0, z1] at h; subst h
  refine qL (qR (jr ?_))
  refine bodyPost_ret (ju Try.results68 _ _ g1 56 _ (0, 0) _ rfl (iK 0) (vF) rfl rfl kg1 Try.underlying56 rfl (siIt' _)) rfl ?_
  have ch1 := of_decide_eq_true h1
  have ch2 := of_decide_eq_false h2
  have ch3 := of_decide_eq_false h3
  have ch4 := of_decide_eq_false h4
  have ci1 := of_decide_eq_true i1
  have ci2 := of_decide_eq_false i2
  have hv : readV r = none := by rw [vO HR.lt256 h (by omega) (by omega) u2 u3 u4 u5]; exact if_neg (by omega)
  rw [hv]
  exact ⟨_, rfl, GG⟩
  cases i3 : decide (m < 1)
  cases i4 : decide (4611686018427387904 ≤ m)
  refine jj ?_
  intro OPS hY
  have y2 := hY 2 80 rfl
  have y6 := hY 6 84 rfl
  clear hY
  refine ja 78 rfl rfl (nK f) (rfl) ?_
  refine ja 79 rfl rfl (vF) (jh 26 .i64 _ _ _ rfl Try.underlying26 ((f : Nat) : Int) 0 rfl rfl false i2 _) ?_
  refine ja 80 rfl rfl (vF) (rfl) ?_
  refine je 81 rfl rfl y2 rfl (.int .u64 ((m : Nat) : Int)) (rfl) ?_
  refine je 82 rfl rfl y2 rfl (vF) (zK 75 75 _ _ rfl m 1 rfl rfl false i3 _) ?_
  refine nr ?_; intro U h; simp only [z0, z1] at h; subst h
  refine ja 83 rfl rfl (vF) (rfl) ?_
  refine ja 84 rfl rfl (vF) (rfl) ?_
  refine je 85 rfl rfl y6 rfl (.int .u64 ((m : Nat) : Int)) (rfl) ?_
  refine je 86 rfl rfl y6 rfl (vF) (vK 75 75 _ _ rfl m 4611686018427387904 rfl rfl false i4 _) ?_
  refine ja 87 rfl rfl (vF) (rfl) ?_
  refine nr ?_; intro U h; simp only [z0, z1] at h; subst h
  refine qL (qF rfl (qK (qS ?_)))
  refine ja 90 rfl rfl (.slice ao r.length cap) (rfl) ?_
  refine ja 91 rfl rfl (nK b) (rfl) ?_
  refine nr ?_; intro U h; simp only [z0, z1] at h; subst h
  refine jy 92 rfl rfl _ 83 Try.call83 rfl rfl _ rfl [.slice ao r.length cap, nK b] rfl (YU ao cap r _ HR ((b : Nat) : Int) hlen z c d u4) ?_
  intro w7 G
  replace kg1 := G.has kg1
  replace kg2 := G.has kg2
  replace HR := HR.gro G
  replace GG := GG.trans G
  clear G
  refine nr ?_; intro U h; simp only [z0, z1] at h; subst h
  refine ja 89 rfl rfl (.tuple #[.agg (idA z), nK c, nK d]) (rfl) ?_
  refine ja 93 rfl rfl (.agg (idA z)) (rfl) ?_
  refine ja 94 rfl rfl (nK c) (rfl) ?_
  refine ja 95 rfl rfl (nK d) (rfl) ?_
  refine nr ?_; intro U h; simp only [z0, z1] at h; subst h
  refine jU 13 rfl rfl 52 rfl _ zero23 (idA 0) rfl ?_
  intro w8 g3 G eg3 kg3
  have bg3 := jk GG eg3
  have dg1g3 := jH kg1 eg3
  have dg2g3 := jH kg2 eg3
  have dHRg3 := HR.ne eg3
  replace kg1 := G.has kg1
  replace kg2 := G.has kg2
  replace HR := HR.gro G
  replace GG := GG.trans G
  clear G
  clear eg3
  refine nr ?_; intro U h; simp only [z0, z1] at h; subst h
  refine jt rfl rfl 52 _ _ rfl g3 0 rfl (.agg (idA z)) rfl 52 _ kg3 (idA z) rfl (size23' _) (un _ _) (vB _) (idA z) (jm _ _ (Js _ _)) ?_
  intro w9 St
  replace kg1 := St.has (by omega) kg1
  replace kg2 := St.has (by omega) kg2
  replace HR := HR.st St dHRg3
  replace GG := GG.store St bg3
  replace kg3 := St.new
  clear St
  refine ja 6 rfl rfl (nK c) (rfl) ?_
  refine ja 7 rfl rfl (nK d) (rfl) ?_
  refine nr ?_; intro U h; simp only [z0, z1] at h; subst h
  refine qL (qE (qE ?_))
  cases i5 : decide (((d : Nat) : Int) = 0)
  refine qG ?_
  refine ja 96 rfl rfl (nK d) (rfl) ?_
  refine ja 97 rfl rfl (vT) (jh 26 .i64 _ _ _ rfl Try.underlying26 ((d : Nat) : Int) 0 rfl rfl true i5 _) ?_
  refine nr ?_; intro U h; simp only [z0, z1] at h; subst h
  refine qL (qT rfl (qS ?_))
  refine ja 98 rfl rfl (.agg (itA zM)) (jN 56 _ rfl [] rfl _ (bdI0 _)) ?_
  refine nr ?_; intro U h; simp only [z0, z1] at h; subst h
  refine jt rfl rfl 56 _ _ rfl g1 0 rfl (.agg (itA zM)) rfl 56 _ kg1 (itA zM) rfl (siIt' _) (jT _ _) (jQ _) (itA zM) (jm _ _ (jZ _ _)) ?_
  intro w10 St
  replace kg2 := St.has (by omega) kg2
  replace kg3 := St.has (by omega) kg3
  replace HR := HR.st St dHRg1
  replace GG := GG.store St bg1
  replace kg1 := St.new
  clear St
  refine ja 3 rfl rfl (iK 0) (rfl) ?_
  refine ja 4 rfl rfl (vF) (rfl) ?_
  refine nr ?_; intro U h; simp only [z0, z1] at h; subst h
  refine qL (qR (jr ?_))
  refine bodyPost_ret (ju Try.results68 _ _ g1 56 _ (0, 0) _ rfl (iK 0) (vF) rfl rfl kg1 Try.underlying56 rfl (siIt' _)) rfl ?_
  have ch1 := of_decide_eq_true h1
  have ch2 := of_decide_eq_false h2
  have ch3 := of_decide_eq_false h3
  have ch4 := of_decide_eq_false h4
  have ci1 := of_decide_eq_true i1
  have ci2 := of_decide_eq_true i2
  have ci3 := of_decide_eq_false i3
  have ci4 := of_decide_eq_false i4
  have ci5 := of_decide_eq_false i5
  have hv : readV r = none := by rw [vO HR.lt256 h (by omega) (by omega) u2 u3 u4 u5]; exact if_neg (by omega)
  rw [hv]
  exact ⟨_, rfl, GG⟩
  refine qG ?_
  refine ja 96 rfl rfl (nK d) (rfl) ?_
  refine ja 97 rfl rfl (vF) (jh 26 .i64 _ _ _ rfl Try.underlying26 ((d : Nat) : Int) 0 rfl rfl false i5 _) ?_
  refine nr ?_; intro U h; simp only [z0, z1] at h; subst h
  refine qL (qF rfl (qK (qS ?_)))
  refine ja 100 rfl rfl (.slice ao r.length cap) (rfl) ?_
  refine ja 101 rfl rfl (nK c) (rfl) ?_
  refine nr ?_; intro U h; simp only [z0, z1] at h; subst h
  refine jx 102 rfl rfl _ 84 Try.call84 rfl rfl _ rfl [.slice ao r.length cap, nK c, iK 64] rfl (VG ao cap r _ HR ((c : Nat) : Int) hlen t k q u5) (by rintro _ _ ⟨_, _, he, _, _⟩; exact ⟨_, he⟩) ?_
  have lzg1 := ji kg1
  have lzg2 := ji kg2
  have lzg3 := ji kg3
  rintro v w10 ⟨ao1, cap1, he, G, HO1⟩
  cases he
  have dHO1g1 := HO1.neB lzg1
  have dHO1g2 := HO1.neB lzg2
  have dHO1g3 := HO1.neB lzg3
  replace HO1 := HO1.mono GG.size
  replace kg1 := G.has kg1
  replace kg2 := G.has kg2
  replace kg3 := G.has kg3
  replace HR := HR.gro G
  replace GG := GG.trans G
  clear G
  refine nr ?_; intro U h; simp only [z0, z1] at h; subst h
  refine ja 99 rfl rfl (.tuple #[.slice ao1 t.length cap1, nK k, nK q]) (rfl) ?_
  refine ja 103 rfl rfl (.slice ao1 t.length cap1) (rfl) ?_
  refine ja 104 rfl rfl (nK k) (rfl) ?_
  refine ja 105 rfl rfl (nK q) (rfl) ?_
  refine ja 14 rfl rfl (.slice ao1 t.length cap1) (rfl) ?_
  refine nr ?_; intro U h; simp only [z0, z1] at h; subst h
  refine ja 6 rfl rfl (nK k) (rfl) ?_
  refine ja 7 rfl rfl (nK q) (rfl) ?_
  refine nr ?_; intro U h; simp only [z0, z1] at h; subst h
  refine qL (qE (qE ?_))
  cases i6 : decide (((q : Nat) : Int) = 0)
  refine jj ?_
  intro OPS hY
  have y2 := hY 2 108 rfl
  clear hY
  refine ja 106 rfl rfl (nK q) (rfl) ?_
  refine ja 107 rfl rfl (vT) (jh 26 .i64 _ _ _ rfl Try.underlying26 ((q : Nat) : Int) 0 rfl rfl true i6 _) ?_
  refine ja 108 rfl rfl (vT) (rfl) ?_
  refine jo 109 rfl rfl y2 rfl ?_
  refine jo 110 rfl rfl y2 rfl ?_
  refine nr ?_; intro U h; simp only [z0, z1] at h; subst h
  refine jo 111 rfl rfl y2 rfl ?_
  refine jo 112 rfl rfl y2 rfl ?_
  refine ja 113 rfl rfl (vT) (rfl) ?_
  refine nr ?_; intro U h; simp only [z0, z1] at h; subst h
  refine qL (qT rfl (qS ?_))
  refine ja 114 rfl rfl (.agg (itA zM)) (jN 56 _ rfl [] rfl _ (bdI0 _)) ?_
  refine nr ?_; intro U h; simp only [z0, z1] at h; subst h
  refine jt rfl rfl 56 _ _ rfl g1 0 rfl (.agg (itA zM)) rfl 56 _ kg1 (itA zM) rfl (siIt' _) (jT _ _) (jQ _) (itA zM) (jm _ _ (jZ _ _)) ?_
  intro w11 St
  replace kg2 := St.has (by omega) kg2
  replace kg3 := St.has (by omega) kg3
  replace HR := HR.st St dHRg1
  replace HO1 := HO1.st St dHO1g1
  replace GG := GG.store St bg1
  replace kg1 := St.new
  clear St
  refine ja 3 rfl rfl (iK 0) (rfl) ?_
  refine ja 4 rfl rfl (vF) (rfl) ?_
  refine nr ?_; intro U h; simp only [z0, z1] at h; subst h
  refine qL (qR (jr ?_))
  refine bodyPost_ret (ju Try.results68 _ _ g1 56 _ (0, 0) _ rfl (iK 0) (vF) rfl rfl kg1 Try.underlying56 rfl (siIt' _)) rfl ?_
  have ch1 := of_decide_eq_true h1
  have ch2 := of_decide_eq_false h2
  have ch3 := of_decide_eq_false h3
  have ch4 := of_decide_eq_false h4
  have ci1 := of_decide_eq_true i1
  have ci2 := of_decide_eq_true i2
  have ci3 := of_decide_eq_false i3
  have ci4 := of_decide_eq_false i4
  have ci5 := of_decide_eq_true i5
  have ci6 := of_decide_eq_false i6
  have hv : readV r = none := by rw [vO HR.lt256 h (by omega) (by omega) u2 u3 u4 u5]; exact if_neg (by omega)
  rw [hv]
  exact ⟨_, rfl, GG⟩
  cases i7 : decide (((k : Nat) : Int) = ((r.length : Nat) : Int))
  refine jj ?_
  intro OPS hY
  have y2 := hY 2 108 rfl
  clear hY
  refine ja 106 rfl rfl (nK q) (rfl) ?_
  refine ja 107 rfl rfl (vF) (jh 26 .i64 _ _ _ rfl Try.underlying26 ((q : Nat) : Int) 0 rfl rfl false i6 _) ?_
  refine ja 108 rfl rfl (vF) (rfl) ?_
  refine je 109 rfl rfl y2 rfl (nK k) (rfl) ?_
  refine je 110 rfl rfl y2 rfl (.slice ao r.length cap) (rfl) ?_
  refine nr ?_; intro U h; simp only [z0, z1] at h; subst h
  refine je 111 rfl rfl y2 rfl (nK r.length) (jA Try.underlying30 _ rfl _ _ _ rfl _) ?_
  refine je 112 rfl rfl y2 rfl (vT) (jh 3 .i64 _ _ _ rfl Try.underlying3 ((k : Nat) : Int) ((r.length : Nat) : Int) rfl rfl true i7 _) ?_
  refine ja 113 rfl rfl (vT) (rfl) ?_
  refine nr ?_; intro U h; simp only [z0, z1] at h; subst h
  refine qL (qT rfl (qS ?_))
  refine ja 114 rfl rfl (.agg (itA zM)) (jN 56 _ rfl [] rfl _ (bdI0 _)) ?_
  refine nr ?_; intro U h; simp only [z0, z1] at h; subst h
  refine jt rfl rfl 56 _ _ rfl g1 0 rfl (.agg (itA zM)) rfl 56 _ kg1 (itA zM) rfl (siIt' _) (jT _ _) (jQ _) (itA zM) (jm _ _ (jZ _ _)) ?_
  intro w11 St
  replace kg2 := St.has (by omega) kg2
  replace kg3 := St.has (by omega) kg3
  replace HR := HR.st St dHRg1
  replace HO1 := HO1.st St dHO1g1
  replace GG := GG.store St bg1
  replace kg1 := St.new
  clear St
  refine ja 3 rfl rfl (iK 0) (rfl) ?_
  refine ja 4 rfl rfl (vF) (rfl) ?_
  refine nr ?_; intro U h; simp only [z0, z1] at h; subst h
  refine qL (qR (jr ?_))
  refine bodyPost_ret (ju Try.results68 _ _ g1 56 _ (0, 0) _ rfl (iK 0) (vF) rfl rfl kg1 Try.underlying56 rfl (siIt' _)) rfl ?_
  have ch1 := of_decide_eq_true h1
  have ch2 := of_decide_eq_false h2
  have ch3 := of_decide_eq_false h3
  have ch4 := of_decide_eq_false h4
  have ci1 := of_decide_eq_true i1
  have ci2 := of_decide_eq_true i2
  have ci3 := of_decide_eq_false i3
  have ci4 := of_decide_eq_false i4
  have ci5 := of_decide_eq_true i5
  have ci6 := of_decide_eq_true i6
  have ci7 := of_decide_eq_false i7
  have hv : readV r = none := by rw [vO HR.lt256 h (by omega) (by omega) u2 u3 u4 u5]; exact if_neg (by omega)
  rw [hv]
  exact ⟨_, rfl, GG⟩
  refine jj ?_
  intro OPS hY
  have y2 := hY 2 108 rfl
  clear hY
  refine ja 106 rfl rfl (nK q) (rfl) ?_
  refine ja 107 rfl rfl (vF) (jh 26 .i64 _ _ _ rfl Try.underlying26 ((q : Nat) : Int) 0 rfl rfl false i6 _) ?_
  refine ja 108 rfl rfl (vF) (rfl) ?_
  refine je 109 rfl rfl y2 rfl (nK k) (rfl) ?_
  refine je 110 rfl rfl y2 rfl (.slice ao r.length cap) (rfl) ?_
  refine nr ?_; intro U h; simp only [z0, z1] at h; subst h
  refine je 111 rfl rfl y2 rfl (nK r.length) (jA Try.underlying30 _ rfl _ _ _ rfl _) ?_
  refine je 112 rfl rfl y2 rfl (vF) (jh 3 .i64 _ _ _ rfl Try.underlying3 ((k : Nat) : Int) ((r.length : Nat) : Int) rfl rfl false i7 _) ?_
  refine ja 113 rfl rfl (vF) (rfl) ?_
  refine nr ?_; intro U h; simp only [z0, z1] at h; subst h
  refine qL (qF rfl (qK (qS ?_)))
  refine ja 115 rfl rfl (.agg (idA y)) (ldI0 _ rfl g2 rfl (kg2)) ?_
  refine ja 116 rfl rfl (.int .u64 ((m : Nat) : Int)) (rfl) ?_
  refine ja 117 rfl rfl (nK m) (convU2 _ rfl m (by have := of_decide_eq_false i4; omega) rfl _) ?_
  refine ja 118 rfl rfl (.agg (idA z)) (ldI0 _ rfl g3 rfl (kg3)) ?_
  refine ja 119 rfl rfl (.agg (veA (mkV ((m : Nat) : Int) z))) (jN 54 _ rfl [(0, nK m), (1, .agg (idA z))] rfl _ (bdV01 ((m : Nat) : Int) z _)) ?_
  refine nr ?_; intro U h; simp only [z0, z1] at h; subst h
  refine ja 120 rfl rfl (.slice ao1 t.length cap1) (rfl) ?_
  refine ja 121 rfl rfl (.agg (itA (mkI y (mkV ((m : Nat) : Int) z) ao1 cap1 t))) (jN 56 _ rfl [(0, .agg (idA y)), (1, .agg (veA (mkV ((m : Nat) : Int) z))), (2, .slice ao1 t.length cap1)] rfl _ (bdI012 y (mkV ((m : Nat) : Int) z) ao1 cap1 t _)) ?_
  refine nr ?_; intro U h; simp only [z0, z1] at h; subst h
  refine jt rfl rfl 56 _ _ rfl g1 0 rfl (.agg (itA (mkI y (mkV ((m : Nat) : Int) z) ao1 cap1 t))) rfl 56 _ kg1 (itA (mkI y (mkV ((m : Nat) : Int) z) ao1 cap1 t)) rfl (siIt' _) (jT _ _) (jQ _) (itA (mkI y (mkV ((m : Nat) : Int) z) ao1 cap1 t)) (jm _ _ (jZ _ _)) ?_
  intro w11 St
  replace kg2 := St.has (by omega) kg2
  replace kg3 := St.has (by omega) kg3
  replace HR := HR.st St dHRg1
  replace HO1 := HO1.st St dHO1g1
  replace GG := GG.store St bg1
  replace kg1 := St.new
  clear St
  refine ja 3 rfl rfl (iK 0) (rfl) ?_
  refine ja 4 rfl rfl (vT) (rfl) ?_
  refine nr ?_; intro U h; simp only [z0, z1] at h; subst h
  refine qL (qR ?_)
  refine bodyPost_ret (ju Try.results68 _ _ g1 56 _ (0, 0) _ rfl (iK 0) (vT) rfl rfl kg1 Try.underlying56 rfl (siIt' _)) rfl ?_
  have ch1 := of_decide_eq_true h1
  have ch2 := of_decide_eq_false h2
  have ch3 := of_decide_eq_false h3
  have ch4 := of_decide_eq_false h4
  have ci1 := of_decide_eq_true i1
  have ci2 := of_decide_eq_true i2
  have ci3 := of_decide_eq_false i3
  have ci4 := of_decide_eq_false i4
  have ci5 := of_decide_eq_true i5
  have ci6 := of_decide_eq_true i6
  have ci7 := of_decide_eq_true i7
  have hv : readV r = some (.inr ⟨y, m, z, t⟩) := by rw [vO HR.lt256 h (by omega) (by omega) u2 u3 u4 u5]; exact if_pos ⟨by omega, by omega, by omega, by omega, by omega, by omega, by omega⟩
  rw [hv]
  exact ⟨_, _, rfl, GG, HO1⟩
  refine jj ?_
  intro OPS hY
  have y2 := hY 2 80 rfl
  have y6 := hY 6 84 rfl
  clear hY
  refine ja 78 rfl rfl (nK f) (rfl) ?_
  refine ja 79 rfl rfl (vF) (jh 26 .i64 _ _ _ rfl Try.underlying26 ((f : Nat) : Int) 0 rfl rfl false i2 _) ?_
  refine ja 80 rfl rfl (vF) (rfl) ?_
  refine je 81 rfl rfl y2 rfl (.int .u64 ((m : Nat) : Int)) (rfl) ?_
  refine je 82 rfl rfl y2 rfl (vF) (zK 75 75 _ _ rfl m 1 rfl rfl false i3 _) ?_
  refine nr ?_; intro U h; simp only [z0, z1] at h; subst h
  refine ja 83 rfl rfl (vF) (rfl) ?_
  refine ja 84 rfl rfl (vF) (rfl) ?_
  refine je 85 rfl rfl y6 rfl (.int .u64 ((m : Nat) : Int)) (rfl) ?_
  refine je 86 rfl rfl y6 rfl (vT) (vK 75 75 _ _ rfl m 4611686018427387904 rfl rfl true i4 _) ?_
  refine ja 87 rfl rfl (vT) (rfl) ?_
  refine nr ?_; intro U h; simp only [z0, z1] at h; subst h
  refine qL (qT rfl (qS ?_))
  refine ja 88 rfl rfl (.agg (itA zM)) (jN 56 _ rfl [] rfl _ (bdI0 _)) ?_
  refine nr ?_; intro U h; simp only [z0, z1] at h; subst h
  refine jt rfl rfl 56 _ _ rfl g1 0 rfl (.agg (itA zM)) rfl 56 _ kg1 (itA zM) rfl (siIt' _) (jT _ _) (jQ _) (itA zM) (jm _ _ (jZ _ _)) ?_
  intro w7 St
  replace kg2 := St.has (by omega) kg2
  replace HR := HR.st St dHRg1
  replace GG := GG.store St bg1
  replace kg1 := St.new
  clear St
  refine ja 3 rfl rfl (iK 0) (rfl) ?_
  refine ja 4 rfl rfl (vF) (rfl) ?_
  refine nr ?_; intro U h; simp only [z0, z1] at h; subst h
  refine qL (qR (jr ?_))
  refine bodyPost_ret (ju Try.results68 _ _ g1 56 _ (0, 0) _ rfl (iK 0) (vF) rfl rfl kg1 Try.underlying56 rfl (siIt' _)) rfl ?_
  have ch1 := of_decide_eq_true h1
  have ch2 := of_decide_eq_false h2
  have ch3 := of_decide_eq_false h3
  have ch4 := of_decide_eq_false h4
  have ci1 := of_decide_eq_true i1
  have ci2 := of_decide_eq_true i2
  have ci3 := of_decide_eq_false i3
  have ci4 := of_decide_eq_true i4
  have hv : readV r = none := by rw [vO HR.lt256 h (by omega) (by omega) u2 u3 u4 u5]; exact if_neg (by omega)
  rw [hv]
  exact ⟨_, rfl, GG⟩
  refine jj ?_
  intro OPS hY
  have y2 := hY 2 80 rfl
  have y6 := hY 6 84 rfl
  clear hY
  refine ja 78 rfl rfl (nK f) (rfl) ?_
  refine ja 79 rfl rfl (vF) (jh 26 .i64 _ _ _ rfl Try.underlying26 ((f : Nat) : Int) 0 rfl rfl false i2 _) ?_
  refine ja 80 rfl rfl (vF) (rfl) ?_
  refine je 81 rfl rfl y2 rfl (.int .u64 ((m : Nat) : Int)) (rfl) ?_
  refine je 82 rfl rfl y2 rfl (vT) (zK 75 75 _ _ rfl m 1 rfl rfl true i3 _) ?_
  refine nr ?_; intro U h; simp only [z0, z1] at h; subst h
  refine ja 83 rfl rfl (vT) (rfl) ?_
  refine ja 84 rfl rfl (vT) (rfl) ?_
  refine jo 85 rfl rfl y6 rfl ?_
  refine jo 86 rfl rfl y6 rfl ?_
  refine ja 87 rfl rfl (vT) (rfl) ?_
  refine nr ?_; intro U h; simp only [z0, z1] at h; subst h
  refine qL (qT rfl (qS ?_))
  refine ja 88 rfl rfl (.agg (itA zM)) (jN 56 _ rfl [] rfl _ (bdI0 _)) ?_
  refine nr ?_; intro U h; simp only [z0, z1] at h; subst h
  refine jt rfl rfl 56 _ _ rfl g1 0 rfl (.agg (itA zM)) rfl 56 _ kg1 (itA zM) rfl (siIt' _) (jT _ _) (jQ _) (itA zM) (jm _ _ (jZ _ _)) ?_
  intro w7 St
  replace kg2 := St.has (by omega) kg2
  replace HR := HR.st St dHRg1
  replace GG := GG.store St bg1
  replace kg1 := St.new
  clear St
  refine ja 3 rfl rfl (iK 0) (rfl) ?_
  refine ja 4 rfl rfl (vF) (rfl) ?_
  refine nr ?_; intro U h; simp only [z0, z1] at h; subst h
  refine qL (qR (jr ?_))
  refine bodyPost_ret (ju Try.results68 _ _ g1 56 _ (0, 0) _ rfl (iK 0) (vF) rfl rfl kg1 Try.underlying56 rfl (siIt' _)) rfl ?_
  have ch1 := of_decide_eq_true h1
  have ch2 := of_decide_eq_false h2
  have ch3 := of_decide_eq_false h3
  have ch4 := of_decide_eq_false h4
  have ci1 := of_decide_eq_true i1
  have ci2 := of_decide_eq_true i2
  have ci3 := of_decide_eq_true i3
  have hv : readV r = none := by rw [vO HR.lt256 h (by omega) (by omega) u2 u3 u4 u5]; exact if_neg (by omega)
  rw [hv]
  exact ⟨_, rfl, GG⟩
  refine qG ?_
  refine ja 32 rfl rfl (.int .u64 ((n : Nat) : Int)) (rfl) ?_
  refine ja 33 rfl rfl (vT) (jB 75 .u64 _ _ _ rfl Try.underlying75 ((n : Nat) : Int) 1 rfl rfl true h4 _) ?_
  refine nr ?_; intro U h; simp only [z0, z1] at h; subst h
  refine qL (qT rfl (qS ?_))
  refine ja 35 rfl rfl (.slice ao r.length cap) (rfl) ?_
  refine ja 36 rfl rfl (nK a) (rfl) ?_
  refine nr ?_; intro U h; simp only [z0, z1] at h; subst h
  refine jy 37 rfl rfl _ 82 Try.call82 rfl rfl _ rfl [.slice ao r.length cap, nK a] rfl (Jm ao cap r _ HR ((a : Nat) : Int) hlen m1 b1 f1 u1) ?_
  intro w3 G
  replace kg1 := G.has kg1
  replace HR := HR.gro G
  replace GG := GG.trans G
  clear G
  refine nr ?_; intro U h; simp only [z0, z1] at h; subst h
  refine ja 34 rfl rfl (.tuple #[.int .u64 ((m1 : Nat) : Int), nK b1, nK f1]) (rfl) ?_
  refine ja 38 rfl rfl (.int .u64 ((m1 : Nat) : Int)) (rfl) ?_
  refine ja 39 rfl rfl (nK b1) (rfl) ?_
  refine ja 40 rfl rfl (nK f1) (rfl) ?_
  refine ja 8 rfl rfl (.int .u64 ((m1 : Nat) : Int)) (rfl) ?_
  refine nr ?_; intro U h; simp only [z0, z1] at h; subst h
  refine ja 9 rfl rfl (nK b1) (rfl) ?_
  refine ja 10 rfl rfl (nK f1) (rfl) ?_
  refine nr ?_; intro U h; simp only [z0, z1] at h; subst h
  refine qL (qE ?_)
  cases h5 : decide (((f1 : Nat) : Int) = 0)
  refine jj ?_
  intro OPS hY
  have y6 := hY 6 47 rfl
  have y12 := hY 12 53 rfl
  have y16 := hY 16 57 rfl
  clear hY
  refine ja 41 rfl rfl (.agg (itA zM)) (jN 56 _ rfl [] rfl _ (bdI0 _)) ?_
  refine ja 42 rfl rfl (.int .u64 ((m1 : Nat) : Int)) (rfl) ?_
  refine ja 43 rfl rfl (.int .u64 (((m1 % 4611686018427387904) : Nat) : Int)) (vd 75 75 _ _ rfl m1 4611686018427387904 rfl rfl (by decide) _) ?_
  refine ja 44 rfl rfl (iK (((m1 % 4611686018427387904) : Nat) : Int)) (convU2 _ rfl (m1 % 4611686018427387904) (by omega) rfl _) ?_
  refine ja 45 rfl rfl (nK f1) (rfl) ?_
  refine nr ?_; intro U h; simp only [z0, z1] at h; subst h
  refine ja 46 rfl rfl (vF) (jB 26 .i64 _ _ _ rfl Try.underlying26 ((f1 : Nat) : Int) 0 rfl rfl false h5 _) ?_
  refine ja 47 rfl rfl (vF) (rfl) ?_
  refine jo 48 rfl rfl y6 rfl ?_
  refine jo 49 rfl rfl y6 rfl ?_
  refine jo 50 rfl rfl y6 rfl ?_
  refine nr ?_; intro U h; simp only [z0, z1] at h; subst h
  refine jo 51 rfl rfl y6 rfl ?_
  refine ja 52 rfl rfl (vF) (rfl) ?_
  refine ja 53 rfl rfl (vF) (rfl) ?_
  refine jo 54 rfl rfl y12 rfl ?_
  refine jo 55 rfl rfl y12 rfl ?_
  refine nr ?_; intro U h; simp only [z0, z1] at h; subst h
  refine ja 56 rfl rfl (vF) (rfl) ?_
  refine ja 57 rfl rfl (vF) (rfl) ?_
  refine jo 58 rfl rfl y16 rfl ?_
  refine jo 59 rfl rfl y16 rfl ?_
  refine ja 60 rfl rfl (vF) (rfl) ?_
  refine nr ?_; intro U h; simp only [z0, z1] at h; subst h
  refine jt rfl rfl 56 _ _ rfl g1 0 rfl (.agg (itA zM)) rfl 56 _ kg1 (itA zM) rfl (siIt' _) (jT _ _) (jQ _) (itA zM) (jm _ _ (jZ _ _)) ?_
  intro w4 St
  replace HR := HR.st St dHRg1
  replace GG := GG.store St bg1
  replace kg1 := St.new
  clear St
  refine ja 3 rfl rfl (iK (((m1 % 4611686018427387904) : Nat) : Int)) (rfl) ?_
  refine ja 4 rfl rfl (vF) (rfl) ?_
  refine nr ?_; intro U h; simp only [z0, z1] at h; subst h
  refine qL (qR (jr ?_))
  refine bodyPost_ret (ju Try.results68 _ _ g1 56 _ (0, 0) _ rfl (iK (((m1 % 4611686018427387904) : Nat) : Int)) (vF) rfl rfl kg1 Try.underlying56 rfl (siIt' _)) rfl ?_
  have ch1 := of_decide_eq_true h1
  have ch2 := of_decide_eq_false h2
  have ch3 := of_decide_eq_false h3
  have ch4 := of_decide_eq_true h4
  have ch5 := of_decide_eq_false h5
  have hv : readV r = none := by rw [Zn HR.lt256 h (by omega) (by omega) u1]; exact if_neg (by omega)
  rw [hv]
  exact ⟨_, rfl, GG⟩
  cases h6 : decide (((b1 : Nat) : Int) = ((r.length : Nat) : Int))
  refine jj ?_
  intro OPS hY
  have y6 := hY 6 47 rfl
  have y12 := hY 12 53 rfl
  have y16 := hY 16 57 rfl
  clear hY
  refine ja 41 rfl rfl (.agg (itA zM)) (jN 56 _ rfl [] rfl _ (bdI0 _)) ?_
  refine ja 42 rfl rfl (.int .u64 ((m1 : Nat) : Int)) (rfl) ?_
  refine ja 43 rfl rfl (.int .u64 (((m1 % 4611686018427387904) : Nat) : Int)) (vd 75 75 _ _ rfl m1 4611686018427387904 rfl rfl (by decide) _) ?_
  refine ja 44 rfl rfl (iK (((m1 % 4611686018427387904) : Nat) : Int)) (convU2 _ rfl (m1 % 4611686018427387904) (by omega) rfl _) ?_
  refine ja 45 rfl rfl (nK f1) (rfl) ?_
  refine nr ?_; intro U h; simp only [z0, z1] at h; subst h
  refine ja 46 rfl rfl (vT) (jB 26 .i64 _ _ _ rfl Try.underlying26 ((f1 : Nat) : Int) 0 rfl rfl true h5 _) ?_
  refine ja 47 rfl rfl (vT) (rfl) ?_
  refine je 48 rfl rfl y6 rfl (nK b1) (rfl) ?_
  refine je 49 rfl rfl y6 rfl (.slice ao r.length cap) (rfl) ?_
  refine je 50 rfl rfl y6 rfl (nK r.length) (jA Try.underlying30 _ rfl _ _ _ rfl _) ?_
  refine nr ?_; intro U h; simp only [z0, z1] at h; subst h
  refine je 51 rfl rfl y6 rfl (vF) (jB 3 .i64 _ _ _ rfl Try.underlying3 ((b1 : Nat) : Int) ((r.length : Nat) : Int) rfl rfl false h6 _) ?_
  refine ja 52 rfl rfl (vF) (rfl) ?_
  refine ja 53 rfl rfl (vF) (rfl) ?_
  refine jo 54 rfl rfl y12 rfl ?_
  refine jo 55 rfl rfl y12 rfl ?_
  refine nr ?_; intro U h; simp only [z0, z1] at h; subst h
  refine ja 56 rfl rfl (vF) (rfl) ?_
  refine ja 57 rfl rfl (vF) (rfl) ?_
  refine jo 58 rfl rfl y16 rfl ?_
  refine jo 59 rfl rfl y16 rfl ?_
  refine ja 60 rfl rfl (vF) (rfl) ?_
  refine nr ?_; intro U h; simp only [z0, z1] at h; subst h
  refine jt rfl rfl 56 _ _ rfl g1 0 rfl (.agg (itA zM)) rfl 56 _ kg1 (itA zM) rfl (siIt' _) (jT _ _) (jQ _) (itA zM) (jm _ _ (jZ _ _)) ?_
  intro w4 St
  replace HR := HR.st St dHRg1
  replace GG := GG.store St bg1
  replace kg1 := St.new
  clear St
  refine ja 3 rfl rfl (iK (((m1 % 4611686018427387904) : Nat) : Int)) (rfl) ?_
  refine ja 4 rfl rfl (vF) (rfl) ?_
  refine nr ?_; intro U h; simp only [z0, z1] at h; subst h
  refine qL (qR (jr ?_))
  refine bodyPost_ret (ju Try.results68 _ _ g1 56 _ (0, 0) _ rfl (iK (((m1 % 4611686018427387904) : Nat) : Int)) (vF) rfl rfl kg1 Try.underlying56 rfl (siIt' _)) rfl ?_
  have ch1 := of_decide_eq_true h1
  have ch2 := of_decide_eq_false h2
  have ch3 := of_decide_eq_false h3
  have ch4 := of_decide_eq_true h4
  have ch5 := of_decide_eq_true h5
  have ch6 := of_decide_eq_false h6
  have hv : readV r = none := by rw [Zn HR.lt256 h (by omega) (by omega) u1]; exact if_neg (by omega)
  rw [hv]
  exact ⟨_, rfl, GG⟩
  cases h7 : decide (1 ≤ m1)
  refine jj ?_
  intro OPS hY
  have y6 := hY 6 47 rfl
  have y12 := hY 12 53 rfl
  have y16 := hY 16 57 rfl
  clear hY
  refine ja 41 rfl rfl (.agg (itA zM)) (jN 56 _ rfl [] rfl _ (bdI0 _)) ?_
  refine ja 42 rfl rfl (.int .u64 ((m1 : Nat) : Int)) (rfl) ?_
  refine ja 43 rfl rfl (.int .u64 (((m1 % 4611686018427387904) : Nat) : Int)) (vd 75 75 _ _ rfl m1 4611686018427387904 rfl rfl (by decide) _) ?_
  refine ja 44 rfl rfl (iK (((m1 % 4611686018427387904) : Nat) : Int)) (convU2 _ rfl (m1 % 4611686018427387904) (by omega) rfl _) ?_
  refine ja 45 rfl rfl (nK f1) (rfl) ?_
  refine nr ?_; intro U h; simp only [z0, z1] at h; subst h
  refine ja 46 rfl rfl (vT) (jB 26 .i64 _ _ _ rfl Try.underlying26 ((f1 : Nat) : Int) 0 rfl rfl true h5 _) ?_
  refine ja 47 rfl rfl (vT) (rfl) ?_
  refine je 48 rfl rfl y6 rfl (nK b1) (rfl) ?_
  refine je 49 rfl rfl y6 rfl (.slice ao r.length cap) (rfl) ?_
  refine je 50 rfl rfl y6 rfl (nK r.length) (jA Try.underlying30 _ rfl _ _ _ rfl _) ?_
  refine nr ?_; intro U h; simp only [z0, z1] at h; subst h
  refine je 51 rfl rfl y6 rfl (vT) (jB 3 .i64 _ _ _ rfl Try.underlying3 ((b1 : Nat) : Int) ((r.length : Nat) : Int) rfl rfl true h6 _) ?_
  refine ja 52 rfl rfl (vT) (rfl) ?_
  refine ja 53 rfl rfl (vT) (rfl) ?_
  refine je 54 rfl rfl y12 rfl (.int .u64 ((m1 : Nat) : Int)) (rfl) ?_
  refine je 55 rfl rfl y12 rfl (vF) (vK 75 75 _ _ rfl m1 1 rfl rfl false h7 _) ?_
  refine nr ?_; intro U h; simp only [z0, z1] at h; subst h
  refine ja 56 rfl rfl (vF) (rfl) ?_
  refine ja 57 rfl rfl (vF) (rfl) ?_
  refine jo 58 rfl rfl y16 rfl ?_
  refine jo 59 rfl rfl y16 rfl ?_
  refine ja 60 rfl rfl (vF) (rfl) ?_
  refine nr ?_; intro U h; simp only [z0, z1] at h; subst h
  refine jt rfl rfl 56 _ _ rfl g1 0 rfl (.agg (itA zM)) rfl 56 _ kg1 (itA zM) rfl (siIt' _) (jT _ _) (jQ _) (itA zM) (jm _ _ (jZ _ _)) ?_
  intro w4 St
  replace HR := HR.st St dHRg1
  replace GG := GG.store St bg1
  replace kg1 := St.new
  clear St
  refine ja 3 rfl rfl (iK (((m1 % 4611686018427387904) : Nat) : Int)) (rfl) ?_
  refine ja 4 rfl rfl (vF) (rfl) ?_
  refine nr ?_; intro U h; simp only [z0, z1] at h; subst h
  refine qL (qR (jr ?_))
  refine bodyPost_ret (ju Try.results68 _ _ g1 56 _ (0, 0) _ rfl (iK (((m1 % 4611686018427387904) : Nat) : Int)) (vF) rfl rfl kg1 Try.underlying56 rfl (siIt' _)) rfl ?_
  have ch1 := of_decide_eq_true h1
  have ch2 := of_decide_eq_false h2
  have ch3 := of_decide_eq_false h3
  have ch4 := of_decide_eq_true h4
  have ch5 := of_decide_eq_true h5
  have ch6 := of_decide_eq_true h6
  have ch7 := of_decide_eq_false h7
  have hv : readV r = none := by rw [Zn HR.lt256 h (by omega) (by omega) u1]; exact if_neg (by omega)
  rw [hv]
  exact ⟨_, rfl, GG⟩
  cases h8 : decide (m1 ≤ 1048576)
  refine jj ?_
  intro OPS hY
  have y6 := hY 6 47 rfl
  have y12 := hY 12 53 rfl
  have y16 := hY 16 57 rfl
  clear hY
  refine ja 41 rfl rfl (.agg (itA zM)) (jN 56 _ rfl [] rfl _ (bdI0 _)) ?_
  refine ja 42 rfl rfl (.int .u64 ((m1 : Nat) : Int)) (rfl) ?_
  refine ja 43 rfl rfl (.int .u64 (((m1 % 4611686018427387904) : Nat) : Int)) (vd 75 75 _ _ rfl m1 4611686018427387904 rfl rfl (by decide) _) ?_
  refine ja 44 rfl rfl (iK (((m1 % 4611686018427387904) : Nat) : Int)) (convU2 _ rfl (m1 % 4611686018427387904) (by omega) rfl _) ?_
  refine ja 45 rfl rfl (nK f1) (rfl) ?_
  refine nr ?_; intro U h; simp only [z0, z1] at h; subst h
  refine ja 46 rfl rfl (vT) (jB 26 .i64 _ _ _ rfl Try.underlying26 ((f1 : Nat) : Int) 0 rfl rfl true h5 _) ?_
  refine ja 47 rfl rfl (vT) (rfl) ?_
  refine je 48 rfl rfl y6 rfl (nK b1) (rfl) ?_
  refine je 49 rfl rfl y6 rfl (.slice ao r.length cap) (rfl) ?_
  refine je 50 rfl rfl y6 rfl (nK r.length) (jA Try.underlying30 _ rfl _ _ _ rfl _) ?_
  refine nr ?_; intro U h; simp only [z0, z1] at h; subst h
  refine je 51 rfl rfl y6 rfl (vT) (jB 3 .i64 _ _ _ rfl Try.underlying3 ((b1 : Nat) : Int) ((r.length : Nat) : Int) rfl rfl true h6 _) ?_
  refine ja 52 rfl rfl (vT) (rfl) ?_
  refine ja 53 rfl rfl (vT) (rfl) ?_
  refine je 54 rfl rfl y12 rfl (.int .u64 ((m1 : Nat) : Int)) (rfl) ?_
  refine je 55 rfl rfl y12 rfl (vT) (vK 75 75 _ _ rfl m1 1 rfl rfl true h7 _) ?_
  refine nr ?_; intro U h; simp only [z0, z1] at h; subst h
  refine ja 56 rfl rfl (vT) (rfl) ?_
  refine ja 57 rfl rfl (vT) (rfl) ?_
  refine je 58 rfl rfl y16 rfl (.int .u64 ((m1 : Nat) : Int)) (rfl) ?_
  refine je 59 rfl rfl y16 rfl (vF) (YM 75 75 _ _ rfl m1 1048576 rfl rfl false h8 _) ?_
  refine ja 60 rfl rfl (vF) (rfl) ?_
  refine nr ?_; intro U h; simp only [z0, z1] at h; subst h
  refine jt rfl rfl 56 _ _ rfl g1 0 rfl (.agg (itA zM)) rfl 56 _ kg1 (itA zM) rfl (siIt' _) (jT _ _) (jQ _) (itA zM) (jm _ _ (jZ _ _)) ?_
  intro w4 St
  replace HR := HR.st St dHRg1
  replace GG := GG.store St bg1
  replace kg1 := St.new
  clear St
  refine ja 3 rfl rfl (iK (((m1 % 4611686018427387904) : Nat) : Int)) (rfl) ?_
  refine ja 4 rfl rfl (vF) (rfl) ?_
  refine nr ?_; intro U h; simp only [z0, z1] at h; subst h
  refine qL (qR (jr ?_))
  refine bodyPost_ret (ju Try.results68 _ _ g1 56 _ (0, 0) _ rfl (iK (((m1 % 4611686018427387904) : Nat) : Int)) (vF) rfl rfl kg1 Try.underlying56 rfl (siIt' _)) rfl ?_
  have ch1 := of_decide_eq_true h1
  have ch2 := of_decide_eq_false h2
  have ch3 := of_decide_eq_false h3
  have ch4 := of_decide_eq_true h4
  have ch5 := of_decide_eq_true h5
  have ch6 := of_decide_eq_true h6
  have ch7 := of_decide_eq_true h7
  have ch8 := of_decide_eq_false h8
  have hv : readV r = none := by rw [Zn HR.lt256 h (by omega) (by omega) u1]; exact if_neg (by omega)
  rw [hv]
  exact ⟨_, rfl, GG⟩
  refine jj ?_
  intro OPS hY
  have y6 := hY 6 47 rfl
  have y12 := hY 12 53 rfl
  have y16 := hY 16 57 rfl
  clear hY
  refine ja 41 rfl rfl (.agg (itA zM)) (jN 56 _ rfl [] rfl _ (bdI0 _)) ?_
  refine ja 42 rfl rfl (.int .u64 ((m1 : Nat) : Int)) (rfl) ?_
  refine ja 43 rfl rfl (.int .u64 (((m1 % 4611686018427387904) : Nat) : Int)) (vd 75 75 _ _ rfl m1 4611686018427387904 rfl rfl (by decide) _) ?_
  refine ja 44 rfl rfl (iK (((m1 % 4611686018427387904) : Nat) : Int)) (convU2 _ rfl (m1 % 4611686018427387904) (by omega) rfl _) ?_
  refine ja 45 rfl rfl (nK f1) (rfl) ?_
  refine nr ?_; intro U h; simp only [z0, z1] at h; subst h
  refine ja 46 rfl rfl (vT) (jB 26 .i64 _ _ _ rfl Try.underlying26 ((f1 : Nat) : Int) 0 rfl rfl true h5 _) ?_
  refine ja 47 rfl rfl (vT) (rfl) ?_
  refine je 48 rfl rfl y6 rfl (nK b1) (rfl) ?_
  refine je 49 rfl rfl y6 rfl (.slice ao r.length cap) (rfl) ?_
  refine je 50 rfl rfl y6 rfl (nK r.length) (jA Try.underlying30 _ rfl _ _ _ rfl _) ?_
  refine nr ?_; intro U h; simp only [z0, z1] at h; subst h
  refine je 51 rfl rfl y6 rfl (vT) (jB 3 .i64 _ _ _ rfl Try.underlying3 ((b1 : Nat) : Int) ((r.length : Nat) : Int) rfl rfl true h6 _) ?_
  refine ja 52 rfl rfl (vT) (rfl) ?_
  refine ja 53 rfl rfl (vT) (rfl) ?_
  refine je 54 rfl rfl y12 rfl (.int .u64 ((m1 : Nat) : Int)) (rfl) ?_
  refine je 55 rfl rfl y12 rfl (vT) (vK 75 75 _ _ rfl m1 1 rfl rfl true h7 _) ?_
  refine nr ?_; intro U h; simp only [z0, z1] at h; subst h
  refine ja 56 rfl rfl (vT) (rfl) ?_
  refine ja 57 rfl rfl (vT) (rfl) ?_
  refine je 58 rfl rfl y16 rfl (.int .u64 ((m1 : Nat) : Int)) (rfl) ?_
  refine je 59 rfl rfl y16 rfl (vT) (YM 75 75 _ _ rfl m1 1048576 rfl rfl true h8 _) ?_
  refine ja 60 rfl rfl (vT) (rfl) ?_
  refine nr ?_; intro U h; simp only [z0, z1] at h; subst h
  refine jt rfl rfl 56 _ _ rfl g1 0 rfl (.agg (itA zM)) rfl 56 _ kg1 (itA zM) rfl (siIt' _) (jT _ _) (jQ _) (itA zM) (jm _ _ (jZ _ _)) ?_
  intro w4 St
  replace HR := HR.st St dHRg1
  replace GG := GG.store St bg1
  replace kg1 := St.new
  clear St
  refine ja 3 rfl rfl (iK (((m1 % 4611686018427387904) : Nat) : Int)) (rfl) ?_
  refine ja 4 rfl rfl (vT) (rfl) ?_
  refine nr ?_; intro U h; simp only [z0, z1] at h; subst h
  refine qL (qR (jr ?_))
  refine bodyPost_ret (ju Try.results68 _ _ g1 56 _ (0, 0) _ rfl (iK (((m1 % 4611686018427387904) : Nat) : Int)) (vT) rfl rfl kg1 Try.underlying56 rfl (siIt' _)) rfl ?_
  have ch1 := of_decide_eq_true h1
  have ch2 := of_decide_eq_false h2
  have ch3 := of_decide_eq_false h3
  have ch4 := of_decide_eq_true h4
  have ch5 := of_decide_eq_true h5
  have ch6 := of_decide_eq_true h6
  have ch7 := of_decide_eq_true h7
  have ch8 := of_decide_eq_true h8
  have hv : readV r = some (.inl m1) := by rw [Zn HR.lt256 h (by omega) (by omega) u1]; exact if_pos ⟨by omega, by omega, by omega, by omega⟩
  have hm : m1 % 4611686018427387904 = m1 := Nat.mod_eq_of_lt (by omega)
  rw [hv, hm]
  exact ⟨rfl, GG⟩
  refine jj ?_
  intro OPS hY
  have y2 := hY 2 23 rfl
  have y6 := hY 6 27 rfl
  clear hY
  refine ja 21 rfl rfl (nK e) (rfl) ?_
  refine ja 22 rfl rfl (vF) (jh 26 .i64 _ _ _ rfl Try.underlying26 ((e : Nat) : Int) 0 rfl rfl false h1 _) ?_
  refine ja 23 rfl rfl (vF) (rfl) ?_
  refine je 24 rfl rfl y2 rfl (.int .u64 ((n : Nat) : Int)) (rfl) ?_
  refine je 25 rfl rfl y2 rfl (vF) (zK 75 75 _ _ rfl n 1 rfl rfl false h2 _) ?_
  refine nr ?_; intro U h; simp only [z0, z1] at h; subst h
  refine ja 26 rfl rfl (vF) (rfl) ?_
  refine ja 27 rfl rfl (vF) (rfl) ?_
  refine je 28 rfl rfl y6 rfl (.int .u64 ((n : Nat) : Int)) (rfl) ?_
  refine je 29 rfl rfl y6 rfl (vT) (jS 75 75 _ _ rfl n 2 rfl rfl true h3 _) ?_
  refine ja 30 rfl rfl (vT) (rfl) ?_
  refine nr ?_; intro U h; simp only [z0, z1] at h; subst h
  refine qL (qT rfl (qS ?_))
  refine ja 31 rfl rfl (.agg (itA zM)) (jN 56 _ rfl [] rfl _ (bdI0 _)) ?_
  refine nr ?_; intro U h; simp only [z0, z1] at h; subst h
  refine jt rfl rfl 56 _ _ rfl g1 0 rfl (.agg (itA zM)) rfl 56 _ kg1 (itA zM) rfl (siIt' _) (jT _ _) (jQ _) (itA zM) (jm _ _ (jZ _ _)) ?_
  intro w3 St
  replace HR := HR.st St dHRg1
  replace GG := GG.store St bg1
  replace kg1 := St.new
  clear St
  refine ja 3 rfl rfl (iK 0) (rfl) ?_
  refine ja 4 rfl rfl (vF) (rfl) ?_
  refine nr ?_; intro U h; simp only [z0, z1] at h; subst h
  refine qL (qR (jr ?_))
  refine bodyPost_ret (ju Try.results68 _ _ g1 56 _ (0, 0) _ rfl (iK 0) (vF) rfl rfl kg1 Try.underlying56 rfl (siIt' _)) rfl ?_
  have ch1 := of_decide_eq_true h1
  have ch2 := of_decide_eq_false h2
  have ch3 := of_decide_eq_true h3
  have hv : readV r = none := VH HR.lt256 h (by omega)
  rw [hv]
  exact ⟨_, rfl, GG⟩
  refine jj ?_
  intro OPS hY
  have y2 := hY 2 23 rfl
  have y6 := hY 6 27 rfl
  clear hY
  refine ja 21 rfl rfl (nK e) (rfl) ?_
  refine ja 22 rfl rfl (vF) (jh 26 .i64 _ _ _ rfl Try.underlying26 ((e : Nat) : Int) 0 rfl rfl false h1 _) ?_
  refine ja 23 rfl rfl (vF) (rfl) ?_
  refine je 24 rfl rfl y2 rfl (.int .u64 ((n : Nat) : Int)) (rfl) ?_
  refine je 25 rfl rfl y2 rfl (vT) (zK 75 75 _ _ rfl n 1 rfl rfl true h2 _) ?_
  refine nr ?_; intro U h; simp only [z0, z1] at h; subst h
  refine ja 26 rfl rfl (vT) (rfl) ?_
  refine ja 27 rfl rfl (vT) (rfl) ?_
  refine jo 28 rfl rfl y6 rfl ?_
  refine jo 29 rfl rfl y6 rfl ?_
  refine ja 30 rfl rfl (vT) (rfl) ?_
  refine nr ?_; intro U h; simp only [z0, z1] at h; subst h
  refine qL (qT rfl (qS ?_))
  refine ja 31 rfl rfl (.agg (itA zM)) (jN 56 _ rfl [] rfl _ (bdI0 _)) ?_
  refine nr ?_; intro U h; simp only [z0, z1] at h; subst h
  refine jt rfl rfl 56 _ _ rfl g1 0 rfl (.agg (itA zM)) rfl 56 _ kg1 (itA zM) rfl (siIt' _) (jT _ _) (jQ _) (itA zM) (jm _ _ (jZ _ _)) ?_
  intro w3 St
  replace HR := HR.st St dHRg1
  replace GG := GG.store St bg1
  replace kg1 := St.new
  clear St
  refine ja 3 rfl rfl (iK 0) (rfl) ?_
  refine ja 4 rfl rfl (vF) (rfl) ?_
  refine nr ?_; intro U h; simp only [z0, z1] at h; subst h
  refine qL (qR (jr ?_))
  refine bodyPost_ret (ju Try.results68 _ _ g1 56 _ (0, 0) _ rfl (iK 0) (vF) rfl rfl kg1 Try.underlying56 rfl (siIt' _)) rfl ?_
  have ch1 := of_decide_eq_true h1
  have ch2 := of_decide_eq_true h2
  have hv : readV r = none := VH HR.lt256 h (by omega)
  rw [hv]
  exact ⟨_, rfl, GG⟩
end Go.Proofs.Ytgfnjekpafempaa
