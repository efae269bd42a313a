import Derived.Test.YtgfnjekpafempaaGreatBG6
import Derived.Test.YtgfnjekpafempaaGreatBV11
import Derived.Test.YtgfnjekpafempaaGreatBE8
import Derived.Test.YtgfnjekpafempaaGreatBAb
namespace Go.Proofs.YtgfnjekpafempaaGreat
open Go.Proofs.Tryz
open Go.RowKit
theorem uc {P : Program} {o : Oper} {A : Act} (t t2 : TypeId) (x y : Operand) (ho : o.op = .binOp .geq t x y t2) (a b : Nat) (hx : A.eval x = .int .u64 (a : Int)) (hy : A.eval y = .int .u64 (b : Int)) (p : Bool) (hp : decide (b ≤ a) = p) (w : World) : (execOp A.eval o).run P w = .ok (.value (.bool p)) w := by
  subst hp
  refine jF .geq t x y t2 ho _ _ _ hx hy (by simp [eqGuard]) ?_
  simp [go_sem]
theorem VW {P : Program} {o : Oper} {A : Act} (t t2 : TypeId) (x y : Operand) (ho : o.op = .binOp .leq t x y t2) (a b : Nat) (hx : A.eval x = .int .u64 (a : Int)) (hy : A.eval y = .int .u64 (b : Int)) (p : Bool) (hp : decide (a ≤ b) = p) (w : World) : (execOp A.eval o).run P w = .ok (.value (.bool p)) w := by
  subst hp
  refine jF .leq t x y t2 ho _ _ _ hx hy (by simp [eqGuard]) ?_
  simp [go_sem]
theorem UZ {r : List Nat} (hr : ∀ b ∈ r, b < 256) {n a e : Nat} (h : getE r 0 = (n, a, e)) (c : ¬ (e = 0 ∧ 1 ≤ n ∧ n ≤ 2)) : readV r = none := by
  rw [Js hr h]
  by_cases he : e = 0
  · rw [if_neg (fun k => k he), if_neg (by omega), if_neg (by omega)]
  · rw [if_pos he]
theorem ZT {r : List Nat} (hr : ∀ b ∈ r, b < 256) {n a e : Nat} (h : getE r 0 = (n, a, e)) (hn : n = 1) (he : e = 0) {m b f : Nat} (g : getE r ((a : Nat) : Int) = (m, b, f)) : readV r = if f = 0 ∧ b = r.length ∧ 1 ≤ m ∧ m ≤ 1048576 then some (.inl m) else none := by
  rw [Js hr h, if_neg (fun k => k he), if_pos hn]
  unfold rbV
  rw [g]
  simp only
  by_cases c : f = 0 ∧ b = r.length ∧ m ≤ 1048576
  · rw [if_pos c, Option.bind_some]
    by_cases d : 1 ≤ m
    · rw [if_pos d, if_pos ⟨c.1, c.2.1, d, c.2.2⟩]
    · rw [if_neg d, if_neg (fun x => d x.2.2.1)]
  · rw [if_neg c, Option.bind_none, if_neg (fun x => c ⟨x.1, x.2.1, x.2.2.2⟩)]
theorem ug {r : List Nat} (hr : ∀ b ∈ r, b < 256) {n a e : Nat} (h : getE r 0 = (n, a, e)) (hn : n = 2) (he : e = 0) {y a2 e2 : Nat} (g2 : getV r ((a : Nat) : Int) = (y, a2, e2)) {m b f : Nat} (g3 : getE r ((a2 : Nat) : Int) = (m, b, f)) {z c d : Nat} (g4 : getV r ((b : Nat) : Int) = (z, c, d)) {t : List Nat} {k q : Nat} (g5 : getT r ((c : Nat) : Int) 64 = (t, k, q)) :
    readV r = if e2 = 0 ∧ f = 0 ∧ 1 ≤ m ∧ m < 4611686018427387904 ∧ d = 0 ∧ q = 0 ∧ k = r.length then some (.inr ⟨y, m, z, t⟩) else none := by
  rw [Js hr h, if_neg (fun k => k he), if_neg (by omega), if_pos hn]
  unfold riV
  rw [g2]
  simp only
  by_cases c1 : e2 = 0
  · rw [if_pos c1]
    unfold rvV
    rw [g3]
    simp only
    by_cases c2 : f = 0 ∧ 1 ≤ m ∧ m ≤ 4611686018427387903
    · rw [if_pos c2, g4]
      simp only
      by_cases c3 : d = 0
      · rw [if_pos c3]
        simp only
        rw [g5]
        simp only
        by_cases c4 : q = 0 ∧ k = r.length
        · rw [if_pos c4, if_pos ⟨c1, c2.1, c2.2.1, by omega, c3, c4.1, c4.2⟩]
          rfl
        · rw [if_neg c4, if_neg (fun x => c4 ⟨x.2.2.2.2.2.1, x.2.2.2.2.2.2⟩)]
          rfl
      · rw [if_neg c3, if_neg (fun x => c3 x.2.2.2.2.1)]
        rfl
    · rw [if_neg c2, if_neg (fun x => c2 ⟨x.2.1, x.2.2.1, by omega⟩)]
      rfl
  · rw [if_neg c1, if_neg (fun x => c1 x.1)]
    rfl
def RrP (w : World) : Option (Nat ⊕ It) → Ending → World → Prop
  | none, e, w' => ∃ n : Int, e = .returned (.tuple #[iA zM, .int .i64 n, .bool false]) ∧ Gro w w'
  | some (.inl n), e, w' => e = .returned (.tuple #[iA zM, .int .i64 (n : Int), .bool true]) ∧ Gro w w'
  | some (.inr x), e, w' => ∃ ao cap, e = .returned (.tuple #[iA (x.im ao cap), .int .i64 0, .bool true]) ∧ Gro w w' ∧ OB w' 5 .u8 w.heap.size ao cap x.val
set_option maxRecDepth 100000 in
set_option maxHeartbeats 4000000 in
theorem JN (w : World) (ao : Option Addr) (cap : Nat) (r : List Nat) (HR : NC w .u8 ao cap r) (hlen : r.length ≤ 140737488355000) : Calls Tryz.prog 55 #[.slice ao r.length cap] w (RrP w (readV r)) := by
  obtain ⟨n, a, e, h⟩ := tri (getE r 0)
  obtain ⟨m1, b1, f1, u1⟩ := tri (getE r ((a : Nat) : Int))
  obtain ⟨y, a2, e2, u2⟩ := tri (getV r ((a : Nat) : Int))
  obtain ⟨m, b, f, u3⟩ := tri (getE r ((a2 : Nat) : Int))
  obtain ⟨z, c, d, u4⟩ := tri (getV r ((b : Nat) : Int))
  obtain ⟨t, k, q, u5⟩ := tri (getT r ((c : Nat) : Int) 64)
  refine eN func55 rfl ntmps55 [.slice ao r.length cap] ?_
  have GG := Gro.refl w
  refine qS ?_
  refine jH 2 rfl rfl 42 rfl _ zeroIt (itA zM) rfl ?_
  intro w1 g1 G eg1 kg1
  have bg1 := jh GG eg1
  have dHRg1 := HR.ne eg1
  replace HR := HR.gro G
  replace GG := GG.trans G
  clear G
  clear eg1
  refine nq ?_
  refine mv (iK 0) rfl (mv (vF) rfl (nq ?_))
  refine qL (qE (qG (mv (.slice ao r.length cap) rfl (nq ?_))))
  refine jr 17 rfl rfl _ 75 call75 rfl rfl _ rfl [.slice ao r.length cap, iK 0] rfl (JO ao cap r _ HR 0 hlen n a e h) ?_
  intro w2 G
  replace kg1 := G.has kg1
  replace HR := HR.gro G
  replace GG := GG.trans G
  clear G
  refine nq ?_
  refine mv (.tuple #[.int .u64 ((n : Nat) : Int), nK a, nK e]) rfl (mv (.int .u64 ((n : Nat) : Int)) rfl (mv (nK a) rfl (mv (nK e) rfl (mv (.int .u64 ((n : Nat) : Int)) rfl (mv (nK a) rfl ?_)))))
  refine nq ?_
  refine mv (nK e) rfl (nq ?_)
  refine qL (qE (qE ?_))
  cases h1 : decide (((e : Nat) : Int) = 0)
  refine jg ?_
  intro OPS hY
  have y2 := hY 2 23 rfl
  have y6 := hY 6 27 rfl
  clear hY
  refine mv (nK e) rfl (sv (vT) (jj 31 .i64 _ _ _ rfl underlying31 ((e : Nat) : Int) 0 rfl rfl true h1 _) rfl (mv (vT) rfl (jk 24 rfl rfl y2 rfl (jk 25 rfl rfl y2 rfl (mv (vT) rfl ?_)))))
  refine nq ?_
  refine mv (vT) rfl (jk 28 rfl rfl y6 rfl (jk 29 rfl rfl y6 rfl (mv (vT) rfl (nq ?_))))
  refine qL (qT rfl (qE (qG (sv (iA zM) (jK 42 _ rfl [] rfl _ (bdI0 _)) rfl (nq ?_)))))
  refine stI zM rfl rfl rfl kg1 rfl ?_
  intro w3 St
  replace HR := HR.st St dHRg1
  replace GG := GG.store St bg1
  replace kg1 := St.new
  clear St
  refine mv (iK 0) rfl (mv (vF) rfl (nq ?_))
  refine qL (qR (jm ?_))
  refine bodyPost_ret (jt results55 _ _ g1 42 _ (0, 0) _ rfl (iK 0) (vF) rfl rfl kg1 underlying42 rfl (siIt' _)) rfl ?_
  have ch1 := of_decide_eq_false h1
  have hv : readV r = none := UZ HR.lt256 h (by omega)
  rw [hv]
  exact ⟨_, rfl, GG⟩
  cases h2 : decide (n < 1)
  cases h3 : decide (2 < n)
  refine jg ?_
  intro OPS hY
  have y2 := hY 2 23 rfl
  have y6 := hY 6 27 rfl
  clear hY
  refine mv (nK e) rfl (sv (vF) (jj 31 .i64 _ _ _ rfl underlying31 ((e : Nat) : Int) 0 rfl rfl false h1 _) rfl (mv (vF) rfl (jd 24 rfl rfl y2 rfl (.int .u64 ((n : Nat) : Int)) (rfl) (jd 25 rfl rfl y2 rfl (vF) (zK 64 64 _ _ rfl n 1 rfl rfl false h2 _) (mv (vF) rfl ?_)))))
  refine nq ?_
  refine mv (vF) rfl (jd 28 rfl rfl y6 rfl (.int .u64 ((n : Nat) : Int)) (rfl) (jd 29 rfl rfl y6 rfl (vF) (jR 64 64 _ _ rfl n 2 rfl rfl false h3 _) (mv (vF) rfl (nq ?_))))
  refine qL (qF rfl (qK (qE (qE ?_))))
  cases h4 : decide (((n : Nat) : Int) = 1)
  refine qG (mv (.int .u64 ((n : Nat) : Int)) rfl (sv (vF) (jw 64 .u64 _ _ _ rfl underlying64 ((n : Nat) : Int) 1 rfl rfl false h4 _) rfl (nq ?_)))
  refine qL (qF rfl (qK (qE (qG (mv (.slice ao r.length cap) rfl (mv (nK a) rfl (nq ?_)))))))
  refine jr 64 rfl rfl _ 76 call76 rfl rfl _ rfl [.slice ao r.length cap, nK a] rfl (Ug ao cap r _ HR ((a : Nat) : Int) hlen y a2 e2 u2) ?_
  intro w3 G
  replace kg1 := G.has kg1
  replace HR := HR.gro G
  replace GG := GG.trans G
  clear G
  refine nq ?_
  refine mv (.tuple #[eA y, nK a2, nK e2]) rfl (mv (eA y) rfl (mv (nK a2) rfl (mv (nK e2) rfl (nq ?_))))
  refine jH 11 rfl rfl 38 rfl _ zero23 (idA 0) rfl ?_
  intro w4 g2 G eg2 kg2
  have bg2 := jh GG eg2
  have dg1g2 := jn kg1 eg2
  have dHRg2 := HR.ne eg2
  replace kg1 := G.has kg1
  replace HR := HR.gro G
  replace GG := GG.trans G
  clear G
  clear eg2
  refine nq ?_
  refine jE rfl rfl 38 _ _ rfl g2 0 rfl (eA y) rfl 38 _ kg2 (idA y) rfl (size23' _) (uH _ _) (vW _) (idA y) (jS _ _ (JU _ _)) ?_
  intro w5 St
  replace kg1 := St.has (by omega) kg1
  replace HR := HR.st St dHRg2
  replace GG := GG.store St bg2
  replace kg2 := St.new
  clear St
  refine mv (nK a2) rfl (mv (nK e2) rfl (nq ?_))
  refine qL (qE (qE ?_))
  cases i1 : decide (((e2 : Nat) : Int) = 0)
  refine qG (mv (nK e2) rfl (sv (vT) (jj 31 .i64 _ _ _ rfl underlying31 ((e2 : Nat) : Int) 0 rfl rfl true i1 _) rfl (nq ?_)))
  refine qL (qT rfl (qE (qG (sv (iA zM) (jK 42 _ rfl [] rfl _ (bdI0 _)) rfl (nq ?_)))))
  refine stI zM rfl rfl rfl kg1 rfl ?_
  intro w6 St
  replace kg2 := St.has (by omega) kg2
  replace HR := HR.st St dHRg1
  replace GG := GG.store St bg1
  replace kg1 := St.new
  clear St
  refine mv (iK 0) rfl (mv (vF) rfl (nq ?_))
  refine qL (qR (jm ?_))
  refine bodyPost_ret (jt results55 _ _ g1 42 _ (0, 0) _ rfl (iK 0) (vF) rfl rfl kg1 underlying42 rfl (siIt' _)) rfl ?_
  have ch1 := of_decide_eq_true h1
  have ch2 := of_decide_eq_false h2
  have ch3 := of_decide_eq_false h3
  have ch4 := of_decide_eq_false h4
  have ci1 := of_decide_eq_false i1
  have hv : readV r = none := by rw [ug HR.lt256 h (by omega) (by omega) u2 u3 u4 u5]; exact if_neg (by omega)
  rw [hv]
  exact ⟨_, rfl, GG⟩
  refine qG (mv (nK e2) rfl (sv (vF) (jj 31 .i64 _ _ _ rfl underlying31 ((e2 : Nat) : Int) 0 rfl rfl false i1 _) rfl (nq ?_)))
  refine qL (qF rfl (qK (qE (qG (mv (.slice ao r.length cap) rfl (mv (nK a2) rfl (nq ?_)))))))
  refine jr 74 rfl rfl _ 75 call75 rfl rfl _ rfl [.slice ao r.length cap, nK a2] rfl (JO ao cap r _ HR ((a2 : Nat) : Int) hlen m b f u3) ?_
  intro w6 G
  replace kg1 := G.has kg1
  replace kg2 := G.has kg2
  replace HR := HR.gro G
  replace GG := GG.trans G
  clear G
  refine nq ?_
  refine mv (.tuple #[.int .u64 ((m : Nat) : Int), nK b, nK f]) rfl (mv (.int .u64 ((m : Nat) : Int)) rfl (mv (nK b) rfl (mv (nK f) rfl (mv (.int .u64 ((m : Nat) : Int)) rfl (mv (nK b) rfl ?_)))))
  refine nq ?_
  refine mv (nK f) rfl (nq ?_)
  refine qL (qE (qE ?_))
  cases i2 : decide (((f : Nat) : Int) = 0)
  refine jg ?_
  intro OPS hY
  have y2 := hY 2 80 rfl
  have y6 := hY 6 84 rfl
  clear hY
  refine mv (nK f) rfl (sv (vT) (jj 31 .i64 _ _ _ rfl underlying31 ((f : Nat) : Int) 0 rfl rfl true i2 _) rfl (mv (vT) rfl (jk 81 rfl rfl y2 rfl (jk 82 rfl rfl y2 rfl (mv (vT) rfl ?_)))))
  refine nq ?_
  refine mv (vT) rfl (jk 85 rfl rfl y6 rfl (jk 86 rfl rfl y6 rfl (mv (vT) rfl (nq ?_))))
  refine qL (qT rfl (qE (qG (sv (iA zM) (jK 42 _ rfl [] rfl _ (bdI0 _)) rfl (nq ?_)))))
  refine stI zM rfl rfl rfl kg1 rfl ?_
  intro w7 St
  replace kg2 := St.has (by omega) kg2
  replace HR := HR.st St dHRg1
  replace GG := GG.store St bg1
  replace kg1 := St.new
  clear St
  refine mv (iK 0) rfl (mv (vF) rfl (nq ?_))
  refine qL (qR (jm ?_))
  refine bodyPost_ret (jt results55 _ _ g1 42 _ (0, 0) _ rfl (iK 0) (vF) rfl rfl kg1 underlying42 rfl (siIt' _)) rfl ?_
  have ch1 := of_decide_eq_true h1
  have ch2 := of_decide_eq_false h2
  have ch3 := of_decide_eq_false h3
  have ch4 := of_decide_eq_false h4
  have ci1 := of_decide_eq_true i1
  have ci2 := of_decide_eq_false i2
  have hv : readV r = none := by rw [ug HR.lt256 h (by omega) (by omega) u2 u3 u4 u5]; exact if_neg (by omega)
  rw [hv]
  exact ⟨_, rfl, GG⟩
  cases i3 : decide (m < 1)
  cases i4 : decide (4611686018427387904 ≤ m)
  refine jg ?_
  intro OPS hY
  have y2 := hY 2 80 rfl
  have y6 := hY 6 84 rfl
  clear hY
  refine mv (nK f) rfl (sv (vF) (jj 31 .i64 _ _ _ rfl underlying31 ((f : Nat) : Int) 0 rfl rfl false i2 _) rfl (mv (vF) rfl (jd 81 rfl rfl y2 rfl (.int .u64 ((m : Nat) : Int)) (rfl) (jd 82 rfl rfl y2 rfl (vF) (zK 64 64 _ _ rfl m 1 rfl rfl false i3 _) (mv (vF) rfl ?_)))))
  refine nq ?_
  refine mv (vF) rfl (jd 85 rfl rfl y6 rfl (.int .u64 ((m : Nat) : Int)) (rfl) (jd 86 rfl rfl y6 rfl (vF) (uc 64 64 _ _ rfl m 4611686018427387904 rfl rfl false i4 _) (mv (vF) rfl (nq ?_))))
  refine qL (qF rfl (qK (qE (qG (mv (.slice ao r.length cap) rfl (mv (nK b) rfl (nq ?_)))))))
  refine jr 92 rfl rfl _ 76 call76 rfl rfl _ rfl [.slice ao r.length cap, nK b] rfl (Ug ao cap r _ HR ((b : Nat) : Int) hlen z c d u4) ?_
  intro w7 G
  replace kg1 := G.has kg1
  replace kg2 := G.has kg2
  replace HR := HR.gro G
  replace GG := GG.trans G
  clear G
  refine nq ?_
  refine mv (.tuple #[eA z, nK c, nK d]) rfl (mv (eA z) rfl (mv (nK c) rfl (mv (nK d) rfl (nq ?_))))
  refine jH 13 rfl rfl 38 rfl _ zero23 (idA 0) rfl ?_
  intro w8 g3 G eg3 kg3
  have bg3 := jh GG eg3
  have dg1g3 := jn kg1 eg3
  have dg2g3 := jn kg2 eg3
  have dHRg3 := HR.ne eg3
  replace kg1 := G.has kg1
  replace kg2 := G.has kg2
  replace HR := HR.gro G
  replace GG := GG.trans G
  clear G
  clear eg3
  refine nq ?_
  refine jE rfl rfl 38 _ _ rfl g3 0 rfl (eA z) rfl 38 _ kg3 (idA z) rfl (size23' _) (uH _ _) (vW _) (idA z) (jS _ _ (JU _ _)) ?_
  intro w9 St
  replace kg1 := St.has (by omega) kg1
  replace kg2 := St.has (by omega) kg2
  replace HR := HR.st St dHRg3
  replace GG := GG.store St bg3
  replace kg3 := St.new
  clear St
  refine mv (nK c) rfl (mv (nK d) rfl (nq ?_))
  refine qL (qE (qE ?_))
  cases i5 : decide (((d : Nat) : Int) = 0)
  refine qG (mv (nK d) rfl (sv (vT) (jj 31 .i64 _ _ _ rfl underlying31 ((d : Nat) : Int) 0 rfl rfl true i5 _) rfl (nq ?_)))
  refine qL (qT rfl (qE (qG (sv (iA zM) (jK 42 _ rfl [] rfl _ (bdI0 _)) rfl (nq ?_)))))
  refine stI zM rfl rfl rfl kg1 rfl ?_
  intro w10 St
  replace kg2 := St.has (by omega) kg2
  replace kg3 := St.has (by omega) kg3
  replace HR := HR.st St dHRg1
  replace GG := GG.store St bg1
  replace kg1 := St.new
  clear St
  refine mv (iK 0) rfl (mv (vF) rfl (nq ?_))
  refine qL (qR (jm ?_))
  refine bodyPost_ret (jt results55 _ _ g1 42 _ (0, 0) _ rfl (iK 0) (vF) rfl rfl kg1 underlying42 rfl (siIt' _)) rfl ?_
  have ch1 := of_decide_eq_true h1
  have ch2 := of_decide_eq_false h2
  have ch3 := of_decide_eq_false h3
  have ch4 := of_decide_eq_false h4
  have ci1 := of_decide_eq_true i1
  have ci2 := of_decide_eq_true i2
  have ci3 := of_decide_eq_false i3
  have ci4 := of_decide_eq_false i4
  have ci5 := of_decide_eq_false i5
  have hv : readV r = none := by rw [ug HR.lt256 h (by omega) (by omega) u2 u3 u4 u5]; exact if_neg (by omega)
  rw [hv]
  exact ⟨_, rfl, GG⟩
  refine qG (mv (nK d) rfl (sv (vF) (jj 31 .i64 _ _ _ rfl underlying31 ((d : Nat) : Int) 0 rfl rfl false i5 _) rfl (nq ?_)))
  refine qL (qF rfl (qK (qE (qG (mv (.slice ao r.length cap) rfl (mv (nK c) rfl (nq ?_)))))))
  refine jq 102 rfl rfl _ 77 call77 rfl rfl _ rfl [.slice ao r.length cap, nK c, iK 64] rfl (UY ao cap r _ HR ((c : Nat) : Int) hlen t k q u5) (by rintro _ _ ⟨_, _, he, _, _⟩; exact ⟨_, he⟩) ?_
  have lzg1 := ji kg1
  have lzg2 := ji kg2
  have lzg3 := ji kg3
  rintro v w10 ⟨ao1, cap1, he, G, HO1⟩
  cases he
  have dHO1g1 := HO1.neB lzg1
  have dHO1g2 := HO1.neB lzg2
  have dHO1g3 := HO1.neB lzg3
  replace HO1 := HO1.mono GG.size
  replace kg1 := G.has kg1
  replace kg2 := G.has kg2
  replace kg3 := G.has kg3
  replace HR := HR.gro G
  replace GG := GG.trans G
  clear G
  refine nq ?_
  refine mv (.tuple #[.slice ao1 t.length cap1, nK k, nK q]) rfl (mv (.slice ao1 t.length cap1) rfl (mv (nK k) rfl (mv (nK q) rfl (mv (.slice ao1 t.length cap1) rfl (mv (nK k) rfl ?_)))))
  refine nq ?_
  refine mv (nK q) rfl (nq ?_)
  refine qL (qE (qE ?_))
  cases i6 : decide (((q : Nat) : Int) = 0)
  refine jg ?_
  intro OPS hY
  have y2 := hY 2 108 rfl
  clear hY
  refine mv (nK q) rfl (sv (vT) (jj 31 .i64 _ _ _ rfl underlying31 ((q : Nat) : Int) 0 rfl rfl true i6 _) rfl (mv (vT) rfl (jk 109 rfl rfl y2 rfl (jk 110 rfl rfl y2 rfl (jk 111 rfl rfl y2 rfl ?_)))))
  refine nq ?_
  refine jk 112 rfl rfl y2 rfl (mv (vT) rfl (nq ?_))
  refine qL (qT rfl (qE (qG (sv (iA zM) (jK 42 _ rfl [] rfl _ (bdI0 _)) rfl (nq ?_)))))
  refine stI zM rfl rfl rfl kg1 rfl ?_
  intro w11 St
  replace kg2 := St.has (by omega) kg2
  replace kg3 := St.has (by omega) kg3
  replace HR := HR.st St dHRg1
  replace HO1 := HO1.st St dHO1g1
  replace GG := GG.store St bg1
  replace kg1 := St.new
  clear St
  refine mv (iK 0) rfl (mv (vF) rfl (nq ?_))
  refine qL (qR (jm ?_))
  refine bodyPost_ret (jt results55 _ _ g1 42 _ (0, 0) _ rfl (iK 0) (vF) rfl rfl kg1 underlying42 rfl (siIt' _)) rfl ?_
  have ch1 := of_decide_eq_true h1
  have ch2 := of_decide_eq_false h2
  have ch3 := of_decide_eq_false h3
  have ch4 := of_decide_eq_false h4
  have ci1 := of_decide_eq_true i1
  have ci2 := of_decide_eq_true i2
  have ci3 := of_decide_eq_false i3
  have ci4 := of_decide_eq_false i4
  have ci5 := of_decide_eq_true i5
  have ci6 := of_decide_eq_false i6
  have hv : readV r = none := by rw [ug HR.lt256 h (by omega) (by omega) u2 u3 u4 u5]; exact if_neg (by omega)
  rw [hv]
  exact ⟨_, rfl, GG⟩
  cases i7 : decide (((k : Nat) : Int) = ((r.length : Nat) : Int))
  refine jg ?_
  intro OPS hY
  have y2 := hY 2 108 rfl
  clear hY
  refine mv (nK q) rfl (sv (vF) (jj 31 .i64 _ _ _ rfl underlying31 ((q : Nat) : Int) 0 rfl rfl false i6 _) rfl (mv (vF) rfl (jd 109 rfl rfl y2 rfl (nK k) (rfl) (jd 110 rfl rfl y2 rfl (.slice ao r.length cap) (rfl) (jd 111 rfl rfl y2 rfl (nK r.length) (js underlying27 _ rfl _ _ _ rfl _) ?_)))))
  refine nq ?_
  refine jd 112 rfl rfl y2 rfl (vT) (jj 3 .i64 _ _ _ rfl underlying3 ((k : Nat) : Int) ((r.length : Nat) : Int) rfl rfl true i7 _) (mv (vT) rfl (nq ?_))
  refine qL (qT rfl (qE (qG (sv (iA zM) (jK 42 _ rfl [] rfl _ (bdI0 _)) rfl (nq ?_)))))
  refine stI zM rfl rfl rfl kg1 rfl ?_
  intro w11 St
  replace kg2 := St.has (by omega) kg2
  replace kg3 := St.has (by omega) kg3
  replace HR := HR.st St dHRg1
  replace HO1 := HO1.st St dHO1g1
  replace GG := GG.store St bg1
  replace kg1 := St.new
  clear St
  refine mv (iK 0) rfl (mv (vF) rfl (nq ?_))
  refine qL (qR (jm ?_))
  refine bodyPost_ret (jt results55 _ _ g1 42 _ (0, 0) _ rfl (iK 0) (vF) rfl rfl kg1 underlying42 rfl (siIt' _)) rfl ?_
  have ch1 := of_decide_eq_true h1
  have ch2 := of_decide_eq_false h2
  have ch3 := of_decide_eq_false h3
  have ch4 := of_decide_eq_false h4
  have ci1 := of_decide_eq_true i1
  have ci2 := of_decide_eq_true i2
  have ci3 := of_decide_eq_false i3
  have ci4 := of_decide_eq_false i4
  have ci5 := of_decide_eq_true i5
  have ci6 := of_decide_eq_true i6
  have ci7 := of_decide_eq_false i7
  have hv : readV r = none := by rw [ug HR.lt256 h (by omega) (by omega) u2 u3 u4 u5]; exact if_neg (by omega)
  rw [hv]
  exact ⟨_, rfl, GG⟩
  refine jg ?_
  intro OPS hY
  have y2 := hY 2 108 rfl
  clear hY
  refine mv (nK q) rfl (sv (vF) (jj 31 .i64 _ _ _ rfl underlying31 ((q : Nat) : Int) 0 rfl rfl false i6 _) rfl (mv (vF) rfl (jd 109 rfl rfl y2 rfl (nK k) (rfl) (jd 110 rfl rfl y2 rfl (.slice ao r.length cap) (rfl) (jd 111 rfl rfl y2 rfl (nK r.length) (js underlying27 _ rfl _ _ _ rfl _) ?_)))))
  refine nq ?_
  refine jd 112 rfl rfl y2 rfl (vF) (jj 3 .i64 _ _ _ rfl underlying3 ((k : Nat) : Int) ((r.length : Nat) : Int) rfl rfl false i7 _) (mv (vF) rfl (nq ?_))
  refine qL (qF rfl (qK (qE (qG (sv (eA y) (ldI0 _ rfl g2 rfl (kg2)) rfl (mv (.int .u64 ((m : Nat) : Int)) rfl (sv (nK m) (convU2 _ rfl m (by have := of_decide_eq_false i4; omega) rfl _) rfl (sv (eA z) (ldI0 _ rfl g3 rfl (kg3)) rfl (sv (.agg (veA (mkV ((m : Nat) : Int) z))) (jK 40 _ rfl [(0, nK m), (1, eA z)] rfl _ (bdV01 ((m : Nat) : Int) z _)) rfl (mv (.slice ao1 t.length cap1) rfl ?_))))))))))
  refine nq ?_
  refine sv (iA (mkI y (mkV ((m : Nat) : Int) z) ao1 cap1 t)) (jK 42 _ rfl [(0, eA y), (1, .agg (veA (mkV ((m : Nat) : Int) z))), (2, .slice ao1 t.length cap1)] rfl _ (bdI012 y (mkV ((m : Nat) : Int) z) ao1 cap1 t _)) rfl (nq ?_)
  refine stI (mkI y (mkV ((m : Nat) : Int) z) ao1 cap1 t) rfl rfl rfl kg1 rfl ?_
  intro w11 St
  replace kg2 := St.has (by omega) kg2
  replace kg3 := St.has (by omega) kg3
  replace HR := HR.st St dHRg1
  replace HO1 := HO1.st St dHO1g1
  replace GG := GG.store St bg1
  replace kg1 := St.new
  clear St
  refine mv (iK 0) rfl (mv (vT) rfl (nq ?_))
  refine qL (qR ?_)
  refine bodyPost_ret (jt results55 _ _ g1 42 _ (0, 0) _ rfl (iK 0) (vT) rfl rfl kg1 underlying42 rfl (siIt' _)) rfl ?_
  have ch1 := of_decide_eq_true h1
  have ch2 := of_decide_eq_false h2
  have ch3 := of_decide_eq_false h3
  have ch4 := of_decide_eq_false h4
  have ci1 := of_decide_eq_true i1
  have ci2 := of_decide_eq_true i2
  have ci3 := of_decide_eq_false i3
  have ci4 := of_decide_eq_false i4
  have ci5 := of_decide_eq_true i5
  have ci6 := of_decide_eq_true i6
  have ci7 := of_decide_eq_true i7
  have hv : readV r = some (.inr ⟨y, m, z, t⟩) := by rw [ug HR.lt256 h (by omega) (by omega) u2 u3 u4 u5]; exact if_pos ⟨by omega, by omega, by omega, by omega, by omega, by omega, by omega⟩
  rw [hv]
  exact ⟨_, _, rfl, GG, HO1⟩
  refine jg ?_
  intro OPS hY
  have y2 := hY 2 80 rfl
  have y6 := hY 6 84 rfl
  clear hY
  refine mv (nK f) rfl (sv (vF) (jj 31 .i64 _ _ _ rfl underlying31 ((f : Nat) : Int) 0 rfl rfl false i2 _) rfl (mv (vF) rfl (jd 81 rfl rfl y2 rfl (.int .u64 ((m : Nat) : Int)) (rfl) (jd 82 rfl rfl y2 rfl (vF) (zK 64 64 _ _ rfl m 1 rfl rfl false i3 _) (mv (vF) rfl ?_)))))
  refine nq ?_
  refine mv (vF) rfl (jd 85 rfl rfl y6 rfl (.int .u64 ((m : Nat) : Int)) (rfl) (jd 86 rfl rfl y6 rfl (vT) (uc 64 64 _ _ rfl m 4611686018427387904 rfl rfl true i4 _) (mv (vT) rfl (nq ?_))))
  refine qL (qT rfl (qE (qG (sv (iA zM) (jK 42 _ rfl [] rfl _ (bdI0 _)) rfl (nq ?_)))))
  refine stI zM rfl rfl rfl kg1 rfl ?_
  intro w7 St
  replace kg2 := St.has (by omega) kg2
  replace HR := HR.st St dHRg1
  replace GG := GG.store St bg1
  replace kg1 := St.new
  clear St
  refine mv (iK 0) rfl (mv (vF) rfl (nq ?_))
  refine qL (qR (jm ?_))
  refine bodyPost_ret (jt results55 _ _ g1 42 _ (0, 0) _ rfl (iK 0) (vF) rfl rfl kg1 underlying42 rfl (siIt' _)) rfl ?_
  have ch1 := of_decide_eq_true h1
  have ch2 := of_decide_eq_false h2
  have ch3 := of_decide_eq_false h3
  have ch4 := of_decide_eq_false h4
  have ci1 := of_decide_eq_true i1
  have ci2 := of_decide_eq_true i2
  have ci3 := of_decide_eq_false i3
  have ci4 := of_decide_eq_true i4
  have hv : readV r = none := by rw [ug HR.lt256 h (by omega) (by omega) u2 u3 u4 u5]; exact if_neg (by omega)
  rw [hv]
  exact ⟨_, rfl, GG⟩
  refine jg ?_
  intro OPS hY
  have y2 := hY 2 80 rfl
  have y6 := hY 6 84 rfl
  clear hY
  refine mv (nK f) rfl (sv (vF) (jj 31 .i64 _ _ _ rfl underlying31 ((f : Nat) : Int) 0 rfl rfl false i2 _) rfl (mv (vF) rfl (jd 81 rfl rfl y2 rfl (.int .u64 ((m : Nat) : Int)) (rfl) (jd 82 rfl rfl y2 rfl (vT) (zK 64 64 _ _ rfl m 1 rfl rfl true i3 _) (mv (vT) rfl ?_)))))
  refine nq ?_
  refine mv (vT) rfl (jk 85 rfl rfl y6 rfl (jk 86 rfl rfl y6 rfl (mv (vT) rfl (nq ?_))))
  refine qL (qT rfl (qE (qG (sv (iA zM) (jK 42 _ rfl [] rfl _ (bdI0 _)) rfl (nq ?_)))))
  refine stI zM rfl rfl rfl kg1 rfl ?_
  intro w7 St
  replace kg2 := St.has (by omega) kg2
  replace HR := HR.st St dHRg1
  replace GG := GG.store St bg1
  replace kg1 := St.new
  clear St
  refine mv (iK 0) rfl (mv (vF) rfl (nq ?_))
  refine qL (qR (jm ?_))
  refine bodyPost_ret (jt results55 _ _ g1 42 _ (0, 0) _ rfl (iK 0) (vF) rfl rfl kg1 underlying42 rfl (siIt' _)) rfl ?_
  have ch1 := of_decide_eq_true h1
  have ch2 := of_decide_eq_false h2
  have ch3 := of_decide_eq_false h3
  have ch4 := of_decide_eq_false h4
  have ci1 := of_decide_eq_true i1
  have ci2 := of_decide_eq_true i2
  have ci3 := of_decide_eq_true i3
  have hv : readV r = none := by rw [ug HR.lt256 h (by omega) (by omega) u2 u3 u4 u5]; exact if_neg (by omega)
  rw [hv]
  exact ⟨_, rfl, GG⟩
  refine qG (mv (.int .u64 ((n : Nat) : Int)) rfl (sv (vT) (jw 64 .u64 _ _ _ rfl underlying64 ((n : Nat) : Int) 1 rfl rfl true h4 _) rfl (nq ?_)))
  refine qL (qT rfl (qE (qG (mv (.slice ao r.length cap) rfl (mv (nK a) rfl (nq ?_))))))
  refine jr 37 rfl rfl _ 75 call75 rfl rfl _ rfl [.slice ao r.length cap, nK a] rfl (JO ao cap r _ HR ((a : Nat) : Int) hlen m1 b1 f1 u1) ?_
  intro w3 G
  replace kg1 := G.has kg1
  replace HR := HR.gro G
  replace GG := GG.trans G
  clear G
  refine nq ?_
  refine mv (.tuple #[.int .u64 ((m1 : Nat) : Int), nK b1, nK f1]) rfl (mv (.int .u64 ((m1 : Nat) : Int)) rfl (mv (nK b1) rfl (mv (nK f1) rfl (mv (.int .u64 ((m1 : Nat) : Int)) rfl (mv (nK b1) rfl ?_)))))
  refine nq ?_
  refine mv (nK f1) rfl (nq ?_)
  refine qL (qE ?_)
  cases h5 : decide (((f1 : Nat) : Int) = 0)
  refine jg ?_
  intro OPS hY
  have y6 := hY 6 47 rfl
  have y12 := hY 12 53 rfl
  have y16 := hY 16 57 rfl
  clear hY
  refine sv (iA zM) (jK 42 _ rfl [] rfl _ (bdI0 _)) rfl (mv (.int .u64 ((m1 : Nat) : Int)) rfl (sv (.int .u64 (((m1 % 4611686018427387904) : Nat) : Int)) (yU 64 64 _ _ rfl m1 4611686018427387904 rfl rfl (by decide) _) rfl (sv (iK (((m1 % 4611686018427387904) : Nat) : Int)) (convU2 _ rfl (m1 % 4611686018427387904) (by omega) rfl _) rfl (mv (nK f1) rfl (sv (vF) (jw 31 .i64 _ _ _ rfl underlying31 ((f1 : Nat) : Int) 0 rfl rfl false h5 _) rfl ?_)))))
  refine nq ?_
  refine mv (vF) rfl (jk 48 rfl rfl y6 rfl (jk 49 rfl rfl y6 rfl (jk 50 rfl rfl y6 rfl (jk 51 rfl rfl y6 rfl (mv (vF) rfl ?_)))))
  refine nq ?_
  refine mv (vF) rfl (jk 54 rfl rfl y12 rfl (jk 55 rfl rfl y12 rfl (mv (vF) rfl (mv (vF) rfl (jk 58 rfl rfl y16 rfl ?_)))))
  refine nq ?_
  refine jk 59 rfl rfl y16 rfl (mv (vF) rfl (nq ?_))
  refine stI zM rfl rfl rfl kg1 rfl ?_
  intro w4 St
  replace HR := HR.st St dHRg1
  replace GG := GG.store St bg1
  replace kg1 := St.new
  clear St
  refine mv (iK (((m1 % 4611686018427387904) : Nat) : Int)) rfl (mv (vF) rfl (nq ?_))
  refine qL (qR (jm ?_))
  refine bodyPost_ret (jt results55 _ _ g1 42 _ (0, 0) _ rfl (iK (((m1 % 4611686018427387904) : Nat) : Int)) (vF) rfl rfl kg1 underlying42 rfl (siIt' _)) rfl ?_
  have ch1 := of_decide_eq_true h1
  have ch2 := of_decide_eq_false h2
  have ch3 := of_decide_eq_false h3
  have ch4 := of_decide_eq_true h4
  have ch5 := of_decide_eq_false h5
  have hv : readV r = none := by rw [ZT HR.lt256 h (by omega) (by omega) u1]; exact if_neg (by omega)
  rw [hv]
  exact ⟨_, rfl, GG⟩
  cases h6 : decide (((b1 : Nat) : Int) = ((r.length : Nat) : Int))
  refine jg ?_
  intro OPS hY
  have y6 := hY 6 47 rfl
  have y12 := hY 12 53 rfl
  have y16 := hY 16 57 rfl
  clear hY
  refine sv (iA zM) (jK 42 _ rfl [] rfl _ (bdI0 _)) rfl (mv (.int .u64 ((m1 : Nat) : Int)) rfl (sv (.int .u64 (((m1 % 4611686018427387904) : Nat) : Int)) (yU 64 64 _ _ rfl m1 4611686018427387904 rfl rfl (by decide) _) rfl (sv (iK (((m1 % 4611686018427387904) : Nat) : Int)) (convU2 _ rfl (m1 % 4611686018427387904) (by omega) rfl _) rfl (mv (nK f1) rfl (sv (vT) (jw 31 .i64 _ _ _ rfl underlying31 ((f1 : Nat) : Int) 0 rfl rfl true h5 _) rfl ?_)))))
  refine nq ?_
  refine mv (vT) rfl (jd 48 rfl rfl y6 rfl (nK b1) (rfl) (jd 49 rfl rfl y6 rfl (.slice ao r.length cap) (rfl) (jd 50 rfl rfl y6 rfl (nK r.length) (js underlying27 _ rfl _ _ _ rfl _) (jd 51 rfl rfl y6 rfl (vF) (jw 3 .i64 _ _ _ rfl underlying3 ((b1 : Nat) : Int) ((r.length : Nat) : Int) rfl rfl false h6 _) (mv (vF) rfl ?_)))))
  refine nq ?_
  refine mv (vF) rfl (jk 54 rfl rfl y12 rfl (jk 55 rfl rfl y12 rfl (mv (vF) rfl (mv (vF) rfl (jk 58 rfl rfl y16 rfl ?_)))))
  refine nq ?_
  refine jk 59 rfl rfl y16 rfl (mv (vF) rfl (nq ?_))
  refine stI zM rfl rfl rfl kg1 rfl ?_
  intro w4 St
  replace HR := HR.st St dHRg1
  replace GG := GG.store St bg1
  replace kg1 := St.new
  clear St
  refine mv (iK (((m1 % 4611686018427387904) : Nat) : Int)) rfl (mv (vF) rfl (nq ?_))
  refine qL (qR (jm ?_))
  refine bodyPost_ret (jt results55 _ _ g1 42 _ (0, 0) _ rfl (iK (((m1 % 4611686018427387904) : Nat) : Int)) (vF) rfl rfl kg1 underlying42 rfl (siIt' _)) rfl ?_
  have ch1 := of_decide_eq_true h1
  have ch2 := of_decide_eq_false h2
  have ch3 := of_decide_eq_false h3
  have ch4 := of_decide_eq_true h4
  have ch5 := of_decide_eq_true h5
  have ch6 := of_decide_eq_false h6
  have hv : readV r = none := by rw [ZT HR.lt256 h (by omega) (by omega) u1]; exact if_neg (by omega)
  rw [hv]
  exact ⟨_, rfl, GG⟩
  cases h7 : decide (1 ≤ m1)
  refine jg ?_
  intro OPS hY
  have y6 := hY 6 47 rfl
  have y12 := hY 12 53 rfl
  have y16 := hY 16 57 rfl
  clear hY
  refine sv (iA zM) (jK 42 _ rfl [] rfl _ (bdI0 _)) rfl (mv (.int .u64 ((m1 : Nat) : Int)) rfl (sv (.int .u64 (((m1 % 4611686018427387904) : Nat) : Int)) (yU 64 64 _ _ rfl m1 4611686018427387904 rfl rfl (by decide) _) rfl (sv (iK (((m1 % 4611686018427387904) : Nat) : Int)) (convU2 _ rfl (m1 % 4611686018427387904) (by omega) rfl _) rfl (mv (nK f1) rfl (sv (vT) (jw 31 .i64 _ _ _ rfl underlying31 ((f1 : Nat) : Int) 0 rfl rfl true h5 _) rfl ?_)))))
  refine nq ?_
  refine mv (vT) rfl (jd 48 rfl rfl y6 rfl (nK b1) (rfl) (jd 49 rfl rfl y6 rfl (.slice ao r.length cap) (rfl) (jd 50 rfl rfl y6 rfl (nK r.length) (js underlying27 _ rfl _ _ _ rfl _) (jd 51 rfl rfl y6 rfl (vT) (jw 3 .i64 _ _ _ rfl underlying3 ((b1 : Nat) : Int) ((r.length : Nat) : Int) rfl rfl true h6 _) (mv (vT) rfl ?_)))))
  refine nq ?_
  refine mv (vT) rfl (jd 54 rfl rfl y12 rfl (.int .u64 ((m1 : Nat) : Int)) (rfl) (jd 55 rfl rfl y12 rfl (vF) (uc 64 64 _ _ rfl m1 1 rfl rfl false h7 _) (mv (vF) rfl (mv (vF) rfl (jk 58 rfl rfl y16 rfl ?_)))))
  refine nq ?_
  refine jk 59 rfl rfl y16 rfl (mv (vF) rfl (nq ?_))
  refine stI zM rfl rfl rfl kg1 rfl ?_
  intro w4 St
  replace HR := HR.st St dHRg1
  replace GG := GG.store St bg1
  replace kg1 := St.new
  clear St
  refine mv (iK (((m1 % 4611686018427387904) : Nat) : Int)) rfl (mv (vF) rfl (nq ?_))
  refine qL (qR (jm ?_))
  refine bodyPost_ret (jt results55 _ _ g1 42 _ (0, 0) _ rfl (iK (((m1 % 4611686018427387904) : Nat) : Int)) (vF) rfl rfl kg1 underlying42 rfl (siIt' _)) rfl ?_
  have ch1 := of_decide_eq_true h1
  have ch2 := of_decide_eq_false h2
  have ch3 := of_decide_eq_false h3
  have ch4 := of_decide_eq_true h4
  have ch5 := of_decide_eq_true h5
  have ch6 := of_decide_eq_true h6
  have ch7 := of_decide_eq_false h7
  have hv : readV r = none := by rw [ZT HR.lt256 h (by omega) (by omega) u1]; exact if_neg (by omega)
  rw [hv]
  exact ⟨_, rfl, GG⟩
  cases h8 : decide (m1 ≤ 1048576)
  refine jg ?_
  intro OPS hY
  have y6 := hY 6 47 rfl
  have y12 := hY 12 53 rfl
  have y16 := hY 16 57 rfl
  clear hY
  refine sv (iA zM) (jK 42 _ rfl [] rfl _ (bdI0 _)) rfl (mv (.int .u64 ((m1 : Nat) : Int)) rfl (sv (.int .u64 (((m1 % 4611686018427387904) : Nat) : Int)) (yU 64 64 _ _ rfl m1 4611686018427387904 rfl rfl (by decide) _) rfl (sv (iK (((m1 % 4611686018427387904) : Nat) : Int)) (convU2 _ rfl (m1 % 4611686018427387904) (by omega) rfl _) rfl (mv (nK f1) rfl (sv (vT) (jw 31 .i64 _ _ _ rfl underlying31 ((f1 : Nat) : Int) 0 rfl rfl true h5 _) rfl ?_)))))
  refine nq ?_
  refine mv (vT) rfl (jd 48 rfl rfl y6 rfl (nK b1) (rfl) (jd 49 rfl rfl y6 rfl (.slice ao r.length cap) (rfl) (jd 50 rfl rfl y6 rfl (nK r.length) (js underlying27 _ rfl _ _ _ rfl _) (jd 51 rfl rfl y6 rfl (vT) (jw 3 .i64 _ _ _ rfl underlying3 ((b1 : Nat) : Int) ((r.length : Nat) : Int) rfl rfl true h6 _) (mv (vT) rfl ?_)))))
  refine nq ?_
  refine mv (vT) rfl (jd 54 rfl rfl y12 rfl (.int .u64 ((m1 : Nat) : Int)) (rfl) (jd 55 rfl rfl y12 rfl (vT) (uc 64 64 _ _ rfl m1 1 rfl rfl true h7 _) (mv (vT) rfl (mv (vT) rfl (jd 58 rfl rfl y16 rfl (.int .u64 ((m1 : Nat) : Int)) (rfl) ?_)))))
  refine nq ?_
  refine jd 59 rfl rfl y16 rfl (vF) (VW 64 64 _ _ rfl m1 1048576 rfl rfl false h8 _) (mv (vF) rfl (nq ?_))
  refine stI zM rfl rfl rfl kg1 rfl ?_
  intro w4 St
  replace HR := HR.st St dHRg1
  replace GG := GG.store St bg1
  replace kg1 := St.new
  clear St
  refine mv (iK (((m1 % 4611686018427387904) : Nat) : Int)) rfl (mv (vF) rfl (nq ?_))
  refine qL (qR (jm ?_))
  refine bodyPost_ret (jt results55 _ _ g1 42 _ (0, 0) _ rfl (iK (((m1 % 4611686018427387904) : Nat) : Int)) (vF) rfl rfl kg1 underlying42 rfl (siIt' _)) rfl ?_
  have ch1 := of_decide_eq_true h1
  have ch2 := of_decide_eq_false h2
  have ch3 := of_decide_eq_false h3
  have ch4 := of_decide_eq_true h4
  have ch5 := of_decide_eq_true h5
  have ch6 := of_decide_eq_true h6
  have ch7 := of_decide_eq_true h7
  have ch8 := of_decide_eq_false h8
  have hv : readV r = none := by rw [ZT HR.lt256 h (by omega) (by omega) u1]; exact if_neg (by omega)
  rw [hv]
  exact ⟨_, rfl, GG⟩
  refine jg ?_
  intro OPS hY
  have y6 := hY 6 47 rfl
  have y12 := hY 12 53 rfl
  have y16 := hY 16 57 rfl
  clear hY
  refine sv (iA zM) (jK 42 _ rfl [] rfl _ (bdI0 _)) rfl (mv (.int .u64 ((m1 : Nat) : Int)) rfl (sv (.int .u64 (((m1 % 4611686018427387904) : Nat) : Int)) (yU 64 64 _ _ rfl m1 4611686018427387904 rfl rfl (by decide) _) rfl (sv (iK (((m1 % 4611686018427387904) : Nat) : Int)) (convU2 _ rfl (m1 % 4611686018427387904) (by omega) rfl _) rfl (mv (nK f1) rfl (sv (vT) (jw 31 .i64 _ _ _ rfl underlying31 ((f1 : Nat) : Int) 0 rfl rfl true h5 _) rfl ?_)))))
  refine nq ?_
  refine mv (vT) rfl (jd 48 rfl rfl y6 rfl (nK b1) (rfl) (jd 49 rfl rfl y6 rfl (.slice ao r.length cap) (rfl) (jd 50 rfl rfl y6 rfl (nK r.length) (js underlying27 _ rfl _ _ _ rfl _) (jd 51 rfl rfl y6 rfl (vT) (jw 3 .i64 _ _ _ rfl underlying3 ((b1 : Nat) : Int) ((r.length : Nat) : Int) rfl rfl true h6 _) (mv (vT) rfl ?_)))))
  refine nq ?_
  refine mv (vT) rfl (jd 54 rfl rfl y12 rfl (.int .u64 ((m1 : Nat) : Int)) (rfl) (jd 55 rfl rfl y12 rfl (vT) (uc 64 64 _ _ rfl m1 1 rfl rfl true h7 _) (mv (vT) rfl (mv (vT) rfl (jd 58 rfl rfl y16 rfl (.int .u64 ((m1 : Nat) : Int)) (rfl) ?_)))))
  refine nq ?_
  refine jd 59 rfl rfl y16 rfl (vT) (VW 64 64 _ _ rfl m1 1048576 rfl rfl true h8 _) (mv (vT) rfl (nq ?_))
  refine stI zM rfl rfl rfl kg1 rfl ?_
  intro w4 St
  replace HR := HR.st St dHRg1
  replace GG := GG.store St bg1
  replace kg1 := St.new
  clear St
  refine mv (iK (((m1 % 4611686018427387904) : Nat) : Int)) rfl (mv (vT) rfl (nq ?_))
  refine qL (qR (jm ?_))
  refine bodyPost_ret (jt results55 _ _ g1 42 _ (0, 0) _ rfl (iK (((m1 % 4611686018427387904) : Nat) : Int)) (vT) rfl rfl kg1 underlying42 rfl (siIt' _)) rfl ?_
  have ch1 := of_decide_eq_true h1
  have ch2 := of_decide_eq_false h2
  have ch3 := of_decide_eq_false h3
  have ch4 := of_decide_eq_true h4
  have ch5 := of_decide_eq_true h5
  have ch6 := of_decide_eq_true h6
  have ch7 := of_decide_eq_true h7
  have ch8 := of_decide_eq_true h8
  have hv : readV r = some (.inl m1) := by rw [ZT HR.lt256 h (by omega) (by omega) u1]; exact if_pos ⟨by omega, by omega, by omega, by omega⟩
  have hm : m1 % 4611686018427387904 = m1 := Nat.mod_eq_of_lt (by omega)
  rw [hv, hm]
  exact ⟨rfl, GG⟩
  refine jg ?_
  intro OPS hY
  have y2 := hY 2 23 rfl
  have y6 := hY 6 27 rfl
  clear hY
  refine mv (nK e) rfl (sv (vF) (jj 31 .i64 _ _ _ rfl underlying31 ((e : Nat) : Int) 0 rfl rfl false h1 _) rfl (mv (vF) rfl (jd 24 rfl rfl y2 rfl (.int .u64 ((n : Nat) : Int)) (rfl) (jd 25 rfl rfl y2 rfl (vF) (zK 64 64 _ _ rfl n 1 rfl rfl false h2 _) (mv (vF) rfl ?_)))))
  refine nq ?_
  refine mv (vF) rfl (jd 28 rfl rfl y6 rfl (.int .u64 ((n : Nat) : Int)) (rfl) (jd 29 rfl rfl y6 rfl (vT) (jR 64 64 _ _ rfl n 2 rfl rfl true h3 _) (mv (vT) rfl (nq ?_))))
  refine qL (qT rfl (qE (qG (sv (iA zM) (jK 42 _ rfl [] rfl _ (bdI0 _)) rfl (nq ?_)))))
  refine stI zM rfl rfl rfl kg1 rfl ?_
  intro w3 St
  replace HR := HR.st St dHRg1
  replace GG := GG.store St bg1
  replace kg1 := St.new
  clear St
  refine mv (iK 0) rfl (mv (vF) rfl (nq ?_))
  refine qL (qR (jm ?_))
  refine bodyPost_ret (jt results55 _ _ g1 42 _ (0, 0) _ rfl (iK 0) (vF) rfl rfl kg1 underlying42 rfl (siIt' _)) rfl ?_
  have ch1 := of_decide_eq_true h1
  have ch2 := of_decide_eq_false h2
  have ch3 := of_decide_eq_true h3
  have hv : readV r = none := UZ HR.lt256 h (by omega)
  rw [hv]
  exact ⟨_, rfl, GG⟩
  refine jg ?_
  intro OPS hY
  have y2 := hY 2 23 rfl
  have y6 := hY 6 27 rfl
  clear hY
  refine mv (nK e) rfl (sv (vF) (jj 31 .i64 _ _ _ rfl underlying31 ((e : Nat) : Int) 0 rfl rfl false h1 _) rfl (mv (vF) rfl (jd 24 rfl rfl y2 rfl (.int .u64 ((n : Nat) : Int)) (rfl) (jd 25 rfl rfl y2 rfl (vT) (zK 64 64 _ _ rfl n 1 rfl rfl true h2 _) (mv (vT) rfl ?_)))))
  refine nq ?_
  refine mv (vT) rfl (jk 28 rfl rfl y6 rfl (jk 29 rfl rfl y6 rfl (mv (vT) rfl (nq ?_))))
  refine qL (qT rfl (qE (qG (sv (iA zM) (jK 42 _ rfl [] rfl _ (bdI0 _)) rfl (nq ?_)))))
  refine stI zM rfl rfl rfl kg1 rfl ?_
  intro w3 St
  replace HR := HR.st St dHRg1
  replace GG := GG.store St bg1
  replace kg1 := St.new
  clear St
  refine mv (iK 0) rfl (mv (vF) rfl (nq ?_))
  refine qL (qR (jm ?_))
  refine bodyPost_ret (jt results55 _ _ g1 42 _ (0, 0) _ rfl (iK 0) (vF) rfl rfl kg1 underlying42 rfl (siIt' _)) rfl ?_
  have ch1 := of_decide_eq_true h1
  have ch2 := of_decide_eq_true h2
  have hv : readV r = none := UZ HR.lt256 h (by omega)
  rw [hv]
  exact ⟨_, rfl, GG⟩
end Go.Proofs.YtgfnjekpafempaaGreat
