import Derived.Test.YtgfnjekpafempaaGreatBV1
import Derived.Test.YtgfnjekpafempaaGreatBAb
namespace Go.Proofs.YtgfnjekpafempaaGreat
open Go.Proofs.Tryz
set_option maxHeartbeats 4000000
set_option maxRecDepth 100000
open Go.RowKit
def getV (l : List Nat) (i : Int) : Nat × Nat × Nat := (valL (getI l i).1, (getI l i).2.1, (getI l i).2.2)
theorem yD (ao : Option Addr) (cap : Nat) (l : List Nat) (w : World) (HC : NC w .u8 ao cap l) (i : Int) (hlen : l.length ≤ 140737488355000) (n a e : Nat) (h : getE l i = (n, a, e)) : Calls Tryz.prog 46 #[.slice ao l.length cap, .int .i64 i] w fun x w' => x = .returned (.tuple #[.int .u64 (n : Int), .int .i64 (a : Int), .int .i64 (e : Int)]) ∧ Gro w w' := by
  refine (yt ao cap l w HC i (by omega)).mono fun x w' hx => ?_
  obtain ⟨h1, h2⟩ := hx
  rw [h] at h1
  exact ⟨h1, h2 ▸ Gro.refl w⟩
theorem JO (ao : Option Addr) (cap : Nat) (l : List Nat) (w : World) (HC : NC w .u8 ao cap l) (i : Int) (hlen : l.length ≤ 140737488355000) (n a e : Nat) (h : getE l i = (n, a, e)) : Calls Tryz.prog 75 #[.slice ao l.length cap, .int .i64 i] w fun x w' => x = .returned (.tuple #[.int .u64 (n : Int), .int .i64 (a : Int), .int .i64 (e : Int)]) ∧ Gro w w' := by
  refine (yr ao cap l w HC i (by omega)).mono fun x w' hx => ?_
  obtain ⟨h1, h2⟩ := hx
  rw [h] at h1
  exact ⟨h1, h2 ▸ Gro.refl w⟩
theorem Vp (ao : Option Addr) (cap : Nat) (l : List Nat) (w : World) (HC : NC w .u8 ao cap l) (i : Int) (hlen : l.length ≤ 140737488355000) (n a e : Nat) (h : getV l i = (n, a, e)) : Calls Tryz.prog 94 #[.slice ao l.length cap, .int .i64 i] w fun x w' => x = .returned (.tuple #[.agg (idA n), .int .i64 (a : Int), .int .i64 (e : Int)]) ∧ Gro w w' := by
  refine (jas ao cap l w HC i hlen).mono fun x w' hx => ?_
  obtain ⟨h1, h2⟩ := hx
  unfold getV at h
  injection h with e1 e2
  injection e2 with e2 e3
  rw [bA_val (Ye l i) (Vo l HC.lt256 i), e1, e2, e3] at h1
  exact ⟨h1, h2⟩
theorem Ug (ao : Option Addr) (cap : Nat) (l : List Nat) (w : World) (HC : NC w .u8 ao cap l) (i : Int) (hlen : l.length ≤ 140737488355000) (n a e : Nat) (h : getV l i = (n, a, e)) : Calls Tryz.prog 76 #[.slice ao l.length cap, .int .i64 i] w fun x w' => x = .returned (.tuple #[.agg (idA n), .int .i64 (a : Int), .int .i64 (e : Int)]) ∧ Gro w w' := by
  refine (jar ao cap l w HC i hlen).mono fun x w' hx => ?_
  obtain ⟨h1, h2⟩ := hx
  unfold getV at h
  injection h with e1 e2
  injection e2 with e2 e3
  rw [bA_val (Ye l i) (Vo l HC.lt256 i), e1, e2, e3] at h1
  exact ⟨h1, h2⟩
theorem jap (ao : Option Addr) (cap : Nat) (l : List Nat) (w : World) (HC : NC w .u8 ao cap l) (i : Int) (hlen : l.length ≤ 140737488355000) (t : List Nat) (a e : Nat) (h : getT l i 64 = (t, a, e)) : Calls Tryz.prog 96 #[.slice ao l.length cap, .int .i64 i, .int .i64 64] w fun x w' => ∃ ao2 cap2, x = .returned (.tuple #[.slice ao2 t.length cap2, .int .i64 (a : Int), .int .i64 (e : Int)]) ∧ Gro w w' ∧ OB w' 5 .u8 w.heap.size ao2 cap2 t := by
  refine (Ux ao cap l w HC i 64 hlen (by decide)).mono fun x w' hx => ?_
  obtain ⟨ao2, cap2, L, h1, h2, h3, h4⟩ := hx
  have h5 := h2.out
  rw [h] at h5 h1
  subst h5
  exact ⟨ao2, cap2, h1, h4, h3⟩
theorem UY (ao : Option Addr) (cap : Nat) (l : List Nat) (w : World) (HC : NC w .u8 ao cap l) (i : Int) (hlen : l.length ≤ 140737488355000) (t : List Nat) (a e : Nat) (h : getT l i 64 = (t, a, e)) : Calls Tryz.prog 77 #[.slice ao l.length cap, .int .i64 i, .int .i64 64] w fun x w' => ∃ ao2 cap2, x = .returned (.tuple #[.slice ao2 t.length cap2, .int .i64 (a : Int), .int .i64 (e : Int)]) ∧ Gro w w' ∧ OB w' 5 .u8 w.heap.size ao2 cap2 t := by
  refine (Uw ao cap l w HC i 64 hlen (by decide)).mono fun x w' hx => ?_
  obtain ⟨ao2, cap2, L, h1, h2, h3, h4⟩ := hx
  have h5 := h2.out
  rw [h] at h5 h1
  subst h5
  exact ⟨ao2, cap2, h1, h4, h3⟩
theorem tri {α β γ : Type} (x : α × β × γ) : ∃ a b c, x = (a, b, c) := ⟨x.1, x.2.1, x.2.2, rfl⟩
def rbV (r : List Nat) (i : Int) : Option Nat := if (getE r i).2.2 = 0 ∧ (getE r i).2.1 = r.length ∧ (getE r i).1 ≤ 1048576 then some (getE r i).1 else none
def rvV (r : List Nat) (i : Int) : Option (Nat × Nat × Nat) := if (getE r i).2.2 = 0 ∧ 1 ≤ (getE r i).1 ∧ (getE r i).1 ≤ 4611686018427387903 then (if (getV r (getE r i).2.1).2.2 = 0 then some ((getE r i).1, (getV r (getE r i).2.1).1, (getV r (getE r i).2.1).2.1) else none) else none
def riV (r : List Nat) (i : Int) : Option It := if (getV r i).2.2 = 0 then (match rvV r (getV r i).2.1 with
  | none => none
  | some v => if (getT r v.2.2 64).2.2 = 0 ∧ (getT r v.2.2 64).2.1 = r.length then some ⟨(getV r i).1, v.1, v.2.1, (getT r v.2.2 64).1⟩ else none) else none
def It.im (x : It) (ao : Option Addr) (cap : Nat) : IM := ⟨x.key, x.n, x.who, ao, cap, x.val⟩
theorem Ut (x : It) (ao : Option Addr) (cap : Nat) : (x.im ao cap).it = x := by
  obtain ⟨k, n, w, v⟩ := x
  rfl
def RbP (w : World) : Option Nat → Ending → World → Prop
  | none, e, w' => e = .returned (.tuple #[.int .i64 0, .bool false]) ∧ Gro w w'
  | some n, e, w' => e = .returned (.tuple #[.int .i64 (n : Int), .bool true]) ∧ Gro w w'
def RvP (w : World) : Option (Nat × Nat × Nat) → Ending → World → Prop
  | none, e, w' => e = .returned (.tuple #[.agg (veA zV), .int .i64 0, .bool false]) ∧ Gro w w'
  | some v, e, w' => e = .returned (.tuple #[.agg (veA (mkV (v.1 : Int) v.2.1)), .int .i64 (v.2.2 : Int), .bool true]) ∧ Gro w w'
def RiP (w : World) : Option It → Ending → World → Prop
  | none, e, w' => e = .returned (.tuple #[iA zM, .bool false]) ∧ Gro w w'
  | some x, e, w' => ∃ ao cap, e = .returned (.tuple #[iA (x.im ao cap), .bool true]) ∧ Gro w w' ∧ OB w' 5 .u8 w.heap.size ao cap x.val
theorem Zc (w : World) (ao : Option Addr) (cap : Nat) (r : List Nat) (HR : NC w .u8 ao cap r) (hlen : r.length ≤ 140737488355000) (i : Int) : Calls Tryz.prog 70 #[.slice ao r.length cap, iK i] w (RbP w (rbV r i)) := by
  obtain ⟨n, a, e, h⟩ := tri (getE r i)
  refine eN func70 rfl ntmps70 [.slice ao r.length cap, iK i] ?_
  have GG := Gro.refl w
  refine qE (qG (mv (iK 0) rfl (mv (vF) rfl (nq ?_))))
  refine qL (qE (qG (mv (.slice ao r.length cap) rfl (mv (iK i) rfl (nq ?_)))))
  refine jr 12 rfl rfl _ 46 call46 rfl rfl _ rfl [.slice ao r.length cap, iK i] rfl (yD ao cap r _ HR i hlen n a e h) ?_
  intro w1 G
  replace HR := HR.gro G
  replace GG := GG.trans G
  clear G
  refine nq ?_
  refine mv (.tuple #[.int .u64 ((n : Nat) : Int), nK a, nK e]) rfl (mv (.int .u64 ((n : Nat) : Int)) rfl (mv (nK a) rfl (mv (nK e) rfl (mv (.int .u64 ((n : Nat) : Int)) rfl (mv (nK a) rfl ?_)))))
  refine nq ?_
  refine mv (nK e) rfl (nq ?_)
  refine qL (qE (qE ?_))
  cases h1 : decide (((e : Nat) : Int) = 0)
  refine jg ?_
  intro OPS hY
  have y2 := hY 2 18 rfl
  have y8 := hY 8 24 rfl
  clear hY
  refine mv (nK e) rfl (sv (vT) (jj 31 .i64 _ _ _ rfl underlying31 ((e : Nat) : Int) 0 rfl rfl true h1 _) rfl (mv (vT) rfl (jk 19 rfl rfl y2 rfl (jk 20 rfl rfl y2 rfl (jk 21 rfl rfl y2 rfl ?_)))))
  refine nq ?_
  refine jk 22 rfl rfl y2 rfl (mv (vT) rfl (mv (vT) rfl (jk 25 rfl rfl y8 rfl (jk 26 rfl rfl y8 rfl (mv (vT) rfl ?_)))))
  refine nq ?_
  refine qL (qT rfl (qE (qG (mv (iK 0) rfl (mv (vF) rfl (nq ?_))))))
  refine qL (qR (jm ?_))
  refine bodyPost_ret (results_tmp2 results70 _ _ _) rfl ?_
  have ch1 := of_decide_eq_false h1
  have hv : rbV r i = none := by
    unfold rbV
    rw [h]
    exact if_neg (fun ⟨c1, c2, c3⟩ => by simp only at c1 c2 c3; omega)
  rw [hv]
  exact ⟨rfl, GG⟩
  cases h2 : decide (((a : Nat) : Int) = ((r.length : Nat) : Int))
  refine jg ?_
  intro OPS hY
  have y2 := hY 2 18 rfl
  have y8 := hY 8 24 rfl
  clear hY
  refine mv (nK e) rfl (sv (vF) (jj 31 .i64 _ _ _ rfl underlying31 ((e : Nat) : Int) 0 rfl rfl false h1 _) rfl (mv (vF) rfl (jd 19 rfl rfl y2 rfl (nK a) (rfl) (jd 20 rfl rfl y2 rfl (.slice ao r.length cap) (rfl) (jd 21 rfl rfl y2 rfl (nK r.length) (js underlying27 _ rfl _ _ _ rfl _) ?_)))))
  refine nq ?_
  refine jd 22 rfl rfl y2 rfl (vT) (jj 3 .i64 _ _ _ rfl underlying3 ((a : Nat) : Int) ((r.length : Nat) : Int) rfl rfl true h2 _) (mv (vT) rfl (mv (vT) rfl (jk 25 rfl rfl y8 rfl (jk 26 rfl rfl y8 rfl (mv (vT) rfl ?_)))))
  refine nq ?_
  refine qL (qT rfl (qE (qG (mv (iK 0) rfl (mv (vF) rfl (nq ?_))))))
  refine qL (qR (jm ?_))
  refine bodyPost_ret (results_tmp2 results70 _ _ _) rfl ?_
  have ch1 := of_decide_eq_true h1
  have ch2 := of_decide_eq_false h2
  have hv : rbV r i = none := by
    unfold rbV
    rw [h]
    exact if_neg (fun ⟨c1, c2, c3⟩ => by simp only at c1 c2 c3; omega)
  rw [hv]
  exact ⟨rfl, GG⟩
  cases h3 : decide (1048576 < n)
  refine jg ?_
  intro OPS hY
  have y2 := hY 2 18 rfl
  have y8 := hY 8 24 rfl
  clear hY
  refine mv (nK e) rfl (sv (vF) (jj 31 .i64 _ _ _ rfl underlying31 ((e : Nat) : Int) 0 rfl rfl false h1 _) rfl (mv (vF) rfl (jd 19 rfl rfl y2 rfl (nK a) (rfl) (jd 20 rfl rfl y2 rfl (.slice ao r.length cap) (rfl) (jd 21 rfl rfl y2 rfl (nK r.length) (js underlying27 _ rfl _ _ _ rfl _) ?_)))))
  refine nq ?_
  refine jd 22 rfl rfl y2 rfl (vF) (jj 3 .i64 _ _ _ rfl underlying3 ((a : Nat) : Int) ((r.length : Nat) : Int) rfl rfl false h2 _) (mv (vF) rfl (mv (vF) rfl (jd 25 rfl rfl y8 rfl (.int .u64 ((n : Nat) : Int)) (rfl) (jd 26 rfl rfl y8 rfl (vF) (jR 64 64 _ _ rfl n 1048576 rfl rfl false h3 _) (mv (vF) rfl ?_)))))
  refine nq ?_
  refine qL (qF rfl (qK (qE (qG (mv (.int .u64 ((n : Nat) : Int)) rfl (sv (nK n) (convU2 _ rfl n (by have := of_decide_eq_false h3; omega) rfl _) rfl (mv (nK n) rfl (mv (vT) rfl (nq ?_)))))))))
  refine qL (qR ?_)
  refine bodyPost_ret (results_tmp2 results70 _ _ _) rfl ?_
  have ch1 := of_decide_eq_true h1
  have ch2 := of_decide_eq_true h2
  have ch3 := of_decide_eq_false h3
  have hv : rbV r i = some n := by
    unfold rbV
    rw [h]
    exact if_pos ⟨by simp only; omega, by simp only; omega, by simp only; omega⟩
  rw [hv]
  exact ⟨rfl, GG⟩
  refine jg ?_
  intro OPS hY
  have y2 := hY 2 18 rfl
  have y8 := hY 8 24 rfl
  clear hY
  refine mv (nK e) rfl (sv (vF) (jj 31 .i64 _ _ _ rfl underlying31 ((e : Nat) : Int) 0 rfl rfl false h1 _) rfl (mv (vF) rfl (jd 19 rfl rfl y2 rfl (nK a) (rfl) (jd 20 rfl rfl y2 rfl (.slice ao r.length cap) (rfl) (jd 21 rfl rfl y2 rfl (nK r.length) (js underlying27 _ rfl _ _ _ rfl _) ?_)))))
  refine nq ?_
  refine jd 22 rfl rfl y2 rfl (vF) (jj 3 .i64 _ _ _ rfl underlying3 ((a : Nat) : Int) ((r.length : Nat) : Int) rfl rfl false h2 _) (mv (vF) rfl (mv (vF) rfl (jd 25 rfl rfl y8 rfl (.int .u64 ((n : Nat) : Int)) (rfl) (jd 26 rfl rfl y8 rfl (vT) (jR 64 64 _ _ rfl n 1048576 rfl rfl true h3 _) (mv (vT) rfl ?_)))))
  refine nq ?_
  refine qL (qT rfl (qE (qG (mv (iK 0) rfl (mv (vF) rfl (nq ?_))))))
  refine qL (qR (jm ?_))
  refine bodyPost_ret (results_tmp2 results70 _ _ _) rfl ?_
  have ch1 := of_decide_eq_true h1
  have ch2 := of_decide_eq_true h2
  have ch3 := of_decide_eq_true h3
  have hv : rbV r i = none := by
    unfold rbV
    rw [h]
    exact if_neg (fun ⟨c1, c2, c3⟩ => by simp only at c1 c2 c3; omega)
  rw [hv]
  exact ⟨rfl, GG⟩
theorem Zb (w : World) (ao : Option Addr) (cap : Nat) (r : List Nat) (HR : NC w .u8 ao cap r) (hlen : r.length ≤ 140737488355000) (i : Int) : Calls Tryz.prog 95 #[.slice ao r.length cap, iK i] w (RvP w (rvV r i)) := by
  obtain ⟨n, a, e, h⟩ := tri (getE r i)
  obtain ⟨y, b, f, g⟩ := tri (getV r ((a : Nat) : Int))
  refine eN func95 rfl ntmps95 [.slice ao r.length cap, iK i] ?_
  have GG := Gro.refl w
  refine qS ?_
  refine jH 4 rfl rfl 40 rfl _ zeroVe (veA zV) rfl ?_
  intro w1 g1 G eg1 kg1
  have bg1 := jh GG eg1
  have dHRg1 := HR.ne eg1
  replace HR := HR.gro G
  replace GG := GG.trans G
  clear G
  clear eg1
  refine nq ?_
  refine mv (iK 0) rfl (mv (vF) rfl (nq ?_))
  refine qL (qE (qG (mv (.slice ao r.length cap) rfl (mv (iK i) rfl (nq ?_)))))
  refine jr 13 rfl rfl _ 46 call46 rfl rfl _ rfl [.slice ao r.length cap, iK i] rfl (yD ao cap r _ HR i hlen n a e h) ?_
  intro w2 G
  replace kg1 := G.has kg1
  replace HR := HR.gro G
  replace GG := GG.trans G
  clear G
  refine nq ?_
  refine mv (.tuple #[.int .u64 ((n : Nat) : Int), nK a, nK e]) rfl (mv (.int .u64 ((n : Nat) : Int)) rfl (mv (nK a) rfl (mv (nK e) rfl (mv (.int .u64 ((n : Nat) : Int)) rfl (mv (nK a) rfl ?_)))))
  refine nq ?_
  refine mv (nK e) rfl (nq ?_)
  refine qL (qE (qE ?_))
  cases h1 : decide (((e : Nat) : Int) = 0)
  refine jg ?_
  intro OPS hY
  have y2 := hY 2 19 rfl
  have y6 := hY 6 23 rfl
  clear hY
  refine mv (nK e) rfl (sv (vT) (jj 31 .i64 _ _ _ rfl underlying31 ((e : Nat) : Int) 0 rfl rfl true h1 _) rfl (mv (vT) rfl (jk 20 rfl rfl y2 rfl (jk 21 rfl rfl y2 rfl (mv (vT) rfl ?_)))))
  refine nq ?_
  refine mv (vT) rfl (jk 24 rfl rfl y6 rfl (jk 25 rfl rfl y6 rfl (mv (vT) rfl (nq ?_))))
  refine qL (qT rfl (qE (qG (sv (.agg (veA zV)) (jK 40 _ rfl [] rfl _ (bdV0 _)) rfl (nq ?_)))))
  refine jE rfl rfl 40 _ _ rfl g1 0 rfl (.agg (veA zV)) rfl 40 _ kg1 (veA zV) rfl (siVe' _) (vK _ _) (vJ _) (veA zV) (jS _ _ (uV _ _)) ?_
  intro w3 St
  replace HR := HR.st St dHRg1
  replace GG := GG.store St bg1
  replace kg1 := St.new
  clear St
  refine mv (iK 0) rfl (mv (vF) rfl (nq ?_))
  refine qL (qR (jm ?_))
  refine bodyPost_ret (jt results95 _ _ g1 40 _ (0, 0) _ rfl (iK 0) (vF) rfl rfl kg1 underlying40 rfl (siVe' _)) rfl ?_
  have ch1 := of_decide_eq_false h1
  have hv : rvV r i = none := by
    unfold rvV
    rw [h]
    exact if_neg (fun ⟨c1, c2, c3⟩ => by simp only at c1 c2 c3; omega)
  rw [hv]
  exact ⟨rfl, GG⟩
  cases h2 : decide (n < 1)
  cases h3 : decide (4611686018427387903 < n)
  refine jg ?_
  intro OPS hY
  have y2 := hY 2 19 rfl
  have y6 := hY 6 23 rfl
  clear hY
  refine mv (nK e) rfl (sv (vF) (jj 31 .i64 _ _ _ rfl underlying31 ((e : Nat) : Int) 0 rfl rfl false h1 _) rfl (mv (vF) rfl (jd 20 rfl rfl y2 rfl (.int .u64 ((n : Nat) : Int)) (rfl) (jd 21 rfl rfl y2 rfl (vF) (zK 64 64 _ _ rfl n 1 rfl rfl false h2 _) (mv (vF) rfl ?_)))))
  refine nq ?_
  refine mv (vF) rfl (jd 24 rfl rfl y6 rfl (.int .u64 ((n : Nat) : Int)) (rfl) (jd 25 rfl rfl y6 rfl (vF) (jR 64 64 _ _ rfl n 4611686018427387903 rfl rfl false h3 _) (mv (vF) rfl (nq ?_))))
  refine qL (qF rfl (qK (qE (qG (mv (.slice ao r.length cap) rfl (mv (nK a) rfl (nq ?_)))))))
  refine jr 31 rfl rfl _ 94 call94 rfl rfl _ rfl [.slice ao r.length cap, nK a] rfl (Vp ao cap r _ HR ((a : Nat) : Int) hlen y b f g) ?_
  intro w3 G
  replace kg1 := G.has kg1
  replace HR := HR.gro G
  replace GG := GG.trans G
  clear G
  refine nq ?_
  refine mv (.tuple #[eA y, nK b, nK f]) rfl (mv (eA y) rfl (mv (nK b) rfl (mv (nK f) rfl (nq ?_))))
  refine jH 9 rfl rfl 38 rfl _ zero23 (idA 0) rfl ?_
  intro w4 g2 G eg2 kg2
  have bg2 := jh GG eg2
  have dg1g2 := jn kg1 eg2
  have dHRg2 := HR.ne eg2
  replace kg1 := G.has kg1
  replace HR := HR.gro G
  replace GG := GG.trans G
  clear G
  clear eg2
  refine nq ?_
  refine jE rfl rfl 38 _ _ rfl g2 0 rfl (eA y) rfl 38 _ kg2 (idA y) rfl (size23' _) (uH _ _) (vW _) (idA y) (jS _ _ (JU _ _)) ?_
  intro w5 St
  replace kg1 := St.has (by omega) kg1
  replace HR := HR.st St dHRg2
  replace GG := GG.store St bg2
  replace kg2 := St.new
  clear St
  refine mv (nK b) rfl (mv (nK f) rfl (nq ?_))
  refine qL (qE (qE ?_))
  cases h4 : decide (((f : Nat) : Int) = 0)
  refine qG (mv (nK f) rfl (sv (vT) (jj 31 .i64 _ _ _ rfl underlying31 ((f : Nat) : Int) 0 rfl rfl true h4 _) rfl (nq ?_)))
  refine qL (qT rfl (qE (qG (sv (.agg (veA zV)) (jK 40 _ rfl [] rfl _ (bdV0 _)) rfl (nq ?_)))))
  refine jE rfl rfl 40 _ _ rfl g1 0 rfl (.agg (veA zV)) rfl 40 _ kg1 (veA zV) rfl (siVe' _) (vK _ _) (vJ _) (veA zV) (jS _ _ (uV _ _)) ?_
  intro w6 St
  replace kg2 := St.has (by omega) kg2
  replace HR := HR.st St dHRg1
  replace GG := GG.store St bg1
  replace kg1 := St.new
  clear St
  refine mv (iK 0) rfl (mv (vF) rfl (nq ?_))
  refine qL (qR (jm ?_))
  refine bodyPost_ret (jt results95 _ _ g1 40 _ (0, 0) _ rfl (iK 0) (vF) rfl rfl kg1 underlying40 rfl (siVe' _)) rfl ?_
  have ch1 := of_decide_eq_true h1
  have ch2 := of_decide_eq_false h2
  have ch3 := of_decide_eq_false h3
  have ch4 := of_decide_eq_false h4
  have hv : rvV r i = none := by
    unfold rvV
    rw [h]
    simp only
    rw [g, if_pos ⟨by omega, by omega, by omega⟩]
    exact if_neg (by simp only; omega)
  rw [hv]
  exact ⟨rfl, GG⟩
  refine qG (mv (nK f) rfl (sv (vF) (jj 31 .i64 _ _ _ rfl underlying31 ((f : Nat) : Int) 0 rfl rfl false h4 _) rfl (nq ?_)))
  refine qL (qF rfl (qK (qE (qG (mv (.int .u64 ((n : Nat) : Int)) rfl (sv (nK n) (convU2 _ rfl n (by have := of_decide_eq_false h3; omega) rfl _) rfl (sv (eA y) (ldI0 _ rfl g2 rfl (kg2)) rfl (sv (.agg (veA (mkV ((n : Nat) : Int) y))) (jK 40 _ rfl [(0, nK n), (1, eA y)] rfl _ (bdV01 ((n : Nat) : Int) y _)) rfl (mv (nK b) rfl (nq ?_))))))))))
  refine jE rfl rfl 40 _ _ rfl g1 0 rfl (.agg (veA (mkV ((n : Nat) : Int) y))) rfl 40 _ kg1 (veA (mkV ((n : Nat) : Int) y)) rfl (siVe' _) (vK _ _) (vJ _) (veA (mkV ((n : Nat) : Int) y)) (jS _ _ (uV _ _)) ?_
  intro w6 St
  replace kg2 := St.has (by omega) kg2
  replace HR := HR.st St dHRg1
  replace GG := GG.store St bg1
  replace kg1 := St.new
  clear St
  refine mv (nK b) rfl (mv (vT) rfl (nq ?_))
  refine qL (qR ?_)
  refine bodyPost_ret (jt results95 _ _ g1 40 _ (0, 0) _ rfl (nK b) (vT) rfl rfl kg1 underlying40 rfl (siVe' _)) rfl ?_
  have ch1 := of_decide_eq_true h1
  have ch2 := of_decide_eq_false h2
  have ch3 := of_decide_eq_false h3
  have ch4 := of_decide_eq_true h4
  have hv : rvV r i = some (n, y, b) := by
    unfold rvV
    rw [h]
    simp only
    rw [g, if_pos ⟨by omega, by omega, by omega⟩]
    exact if_pos (by simp only; omega)
  rw [hv]
  exact ⟨rfl, GG⟩
  refine jg ?_
  intro OPS hY
  have y2 := hY 2 19 rfl
  have y6 := hY 6 23 rfl
  clear hY
  refine mv (nK e) rfl (sv (vF) (jj 31 .i64 _ _ _ rfl underlying31 ((e : Nat) : Int) 0 rfl rfl false h1 _) rfl (mv (vF) rfl (jd 20 rfl rfl y2 rfl (.int .u64 ((n : Nat) : Int)) (rfl) (jd 21 rfl rfl y2 rfl (vF) (zK 64 64 _ _ rfl n 1 rfl rfl false h2 _) (mv (vF) rfl ?_)))))
  refine nq ?_
  refine mv (vF) rfl (jd 24 rfl rfl y6 rfl (.int .u64 ((n : Nat) : Int)) (rfl) (jd 25 rfl rfl y6 rfl (vT) (jR 64 64 _ _ rfl n 4611686018427387903 rfl rfl true h3 _) (mv (vT) rfl (nq ?_))))
  refine qL (qT rfl (qE (qG (sv (.agg (veA zV)) (jK 40 _ rfl [] rfl _ (bdV0 _)) rfl (nq ?_)))))
  refine jE rfl rfl 40 _ _ rfl g1 0 rfl (.agg (veA zV)) rfl 40 _ kg1 (veA zV) rfl (siVe' _) (vK _ _) (vJ _) (veA zV) (jS _ _ (uV _ _)) ?_
  intro w3 St
  replace HR := HR.st St dHRg1
  replace GG := GG.store St bg1
  replace kg1 := St.new
  clear St
  refine mv (iK 0) rfl (mv (vF) rfl (nq ?_))
  refine qL (qR (jm ?_))
  refine bodyPost_ret (jt results95 _ _ g1 40 _ (0, 0) _ rfl (iK 0) (vF) rfl rfl kg1 underlying40 rfl (siVe' _)) rfl ?_
  have ch1 := of_decide_eq_true h1
  have ch2 := of_decide_eq_false h2
  have ch3 := of_decide_eq_true h3
  have hv : rvV r i = none := by
    unfold rvV
    rw [h]
    exact if_neg (fun ⟨c1, c2, c3⟩ => by simp only at c1 c2 c3; omega)
  rw [hv]
  exact ⟨rfl, GG⟩
  refine jg ?_
  intro OPS hY
  have y2 := hY 2 19 rfl
  have y6 := hY 6 23 rfl
  clear hY
  refine mv (nK e) rfl (sv (vF) (jj 31 .i64 _ _ _ rfl underlying31 ((e : Nat) : Int) 0 rfl rfl false h1 _) rfl (mv (vF) rfl (jd 20 rfl rfl y2 rfl (.int .u64 ((n : Nat) : Int)) (rfl) (jd 21 rfl rfl y2 rfl (vT) (zK 64 64 _ _ rfl n 1 rfl rfl true h2 _) (mv (vT) rfl ?_)))))
  refine nq ?_
  refine mv (vT) rfl (jk 24 rfl rfl y6 rfl (jk 25 rfl rfl y6 rfl (mv (vT) rfl (nq ?_))))
  refine qL (qT rfl (qE (qG (sv (.agg (veA zV)) (jK 40 _ rfl [] rfl _ (bdV0 _)) rfl (nq ?_)))))
  refine jE rfl rfl 40 _ _ rfl g1 0 rfl (.agg (veA zV)) rfl 40 _ kg1 (veA zV) rfl (siVe' _) (vK _ _) (vJ _) (veA zV) (jS _ _ (uV _ _)) ?_
  intro w3 St
  replace HR := HR.st St dHRg1
  replace GG := GG.store St bg1
  replace kg1 := St.new
  clear St
  refine mv (iK 0) rfl (mv (vF) rfl (nq ?_))
  refine qL (qR (jm ?_))
  refine bodyPost_ret (jt results95 _ _ g1 40 _ (0, 0) _ rfl (iK 0) (vF) rfl rfl kg1 underlying40 rfl (siVe' _)) rfl ?_
  have ch1 := of_decide_eq_true h1
  have ch2 := of_decide_eq_true h2
  have hv : rvV r i = none := by
    unfold rvV
    rw [h]
    exact if_neg (fun ⟨c1, c2, c3⟩ => by simp only at c1 c2 c3; omega)
  rw [hv]
  exact ⟨rfl, GG⟩
theorem Jt (w : World) (ao : Option Addr) (cap : Nat) (r : List Nat) (HR : NC w .u8 ao cap r) (hlen : r.length ≤ 140737488355000) (i : Int) : Calls Tryz.prog 71 #[.slice ao r.length cap, iK i] w (RiP w (riV r i)) := by
  obtain ⟨y, a, e, h⟩ := tri (getV r i)
  cases hv : rvV r ((a : Nat) : Int) with
  | none =>
    refine eN func71 rfl ntmps71 [.slice ao r.length cap, iK i] ?_
    have GG := Gro.refl w
    refine qS ?_
    refine jH 4 rfl rfl 42 rfl _ zeroIt (itA zM) rfl ?_
    intro w1 g1 G eg1 kg1
    have bg1 := jh GG eg1
    have dHRg1 := HR.ne eg1
    replace HR := HR.gro G
    replace GG := GG.trans G
    clear G
    clear eg1
    refine nq ?_
    refine mv (vF) rfl (nq ?_)
    refine qL (qE (qG (mv (.slice ao r.length cap) rfl (mv (iK i) rfl (nq ?_)))))
    refine jr 15 rfl rfl _ 94 call94 rfl rfl _ rfl [.slice ao r.length cap, iK i] rfl (Vp ao cap r _ HR i hlen y a e h) ?_
    intro w2 G
    replace kg1 := G.has kg1
    replace HR := HR.gro G
    replace GG := GG.trans G
    clear G
    refine nq ?_
    refine mv (.tuple #[eA y, nK a, nK e]) rfl (mv (eA y) rfl (mv (nK a) rfl (mv (nK e) rfl (nq ?_))))
    refine jH 6 rfl rfl 38 rfl _ zero23 (idA 0) rfl ?_
    intro w3 g2 G eg2 kg2
    have bg2 := jh GG eg2
    have dg1g2 := jn kg1 eg2
    have dHRg2 := HR.ne eg2
    replace kg1 := G.has kg1
    replace HR := HR.gro G
    replace GG := GG.trans G
    clear G
    clear eg2
    refine nq ?_
    refine jE rfl rfl 38 _ _ rfl g2 0 rfl (eA y) rfl 38 _ kg2 (idA y) rfl (size23' _) (uH _ _) (vW _) (idA y) (jS _ _ (JU _ _)) ?_
    intro w4 St
    replace kg1 := St.has (by omega) kg1
    replace HR := HR.st St dHRg2
    replace GG := GG.store St bg2
    replace kg2 := St.new
    clear St
    refine mv (nK a) rfl (mv (nK e) rfl (nq ?_))
    refine qL (qE (qE ?_))
    cases h1 : decide (((e : Nat) : Int) = 0)
    refine qG (mv (nK e) rfl (sv (vT) (jj 31 .i64 _ _ _ rfl underlying31 ((e : Nat) : Int) 0 rfl rfl true h1 _) rfl (nq ?_)))
    refine qL (qT rfl (qE (qG (sv (iA zM) (jK 42 _ rfl [] rfl _ (bdI0 _)) rfl (nq ?_)))))
    refine stI zM rfl rfl rfl kg1 rfl ?_
    intro w5 St
    replace kg2 := St.has (by omega) kg2
    replace HR := HR.st St dHRg1
    replace GG := GG.store St bg1
    replace kg1 := St.new
    clear St
    refine mv (vF) rfl (nq ?_)
    refine qL (qR (jm ?_))
    refine bodyPost_ret (jJ results71 _ _ g1 42 _ (0, 0) _ rfl (vF) rfl kg1 underlying42 rfl (siIt' _)) rfl ?_
    have ch1 := of_decide_eq_false h1
    have hr : riV r i = none := by
      unfold riV
      rw [h]
      exact if_neg (by simp only; omega)
    rw [hr]
    exact ⟨rfl, GG⟩
    refine qG (mv (nK e) rfl (sv (vF) (jj 31 .i64 _ _ _ rfl underlying31 ((e : Nat) : Int) 0 rfl rfl false h1 _) rfl (nq ?_)))
    refine qL (qF rfl (qK (qE (qG (mv (.slice ao r.length cap) rfl (mv (nK a) rfl (nq ?_)))))))
    refine jr 25 rfl rfl _ 95 call95 rfl rfl _ rfl [.slice ao r.length cap, nK a] rfl ((Zb _ ao cap r HR hlen ((a : Nat) : Int)).mono fun e w' H => by rw [hv] at H; exact H) ?_
    intro w5 G
    replace kg1 := G.has kg1
    replace kg2 := G.has kg2
    replace HR := HR.gro G
    replace GG := GG.trans G
    clear G
    refine nq ?_
    refine mv (.tuple #[.agg (veA zV), iK 0, vF]) rfl (mv (.agg (veA zV)) rfl (mv (iK 0) rfl (mv (vF) rfl (nq ?_))))
    refine jH 8 rfl rfl 40 rfl _ zeroVe (veA zV) rfl ?_
    intro w6 g3 G eg3 kg3
    have bg3 := jh GG eg3
    have dg1g3 := jn kg1 eg3
    have dg2g3 := jn kg2 eg3
    have dHRg3 := HR.ne eg3
    replace kg1 := G.has kg1
    replace kg2 := G.has kg2
    replace HR := HR.gro G
    replace GG := GG.trans G
    clear G
    clear eg3
    refine nq ?_
    refine jE rfl rfl 40 _ _ rfl g3 0 rfl (.agg (veA zV)) rfl 40 _ kg3 (veA zV) rfl (siVe' _) (vK _ _) (vJ _) (veA zV) (jS _ _ (uV _ _)) ?_
    intro w7 St
    replace kg1 := St.has (by omega) kg1
    replace kg2 := St.has (by omega) kg2
    replace HR := HR.st St dHRg3
    replace GG := GG.store St bg3
    replace kg3 := St.new
    clear St
    refine mv (iK 0) rfl (mv (vF) rfl (nq ?_))
    refine qL (qE (qE (qG (mv (vF) rfl (sv (vT) (jZ _ _ rfl false rfl) rfl (nq ?_))))))
    refine qL (qT rfl (qE (qG (sv (iA zM) (jK 42 _ rfl [] rfl _ (bdI0 _)) rfl (nq ?_)))))
    refine stI zM rfl rfl rfl kg1 rfl ?_
    intro w8 St
    replace kg2 := St.has (by omega) kg2
    replace kg3 := St.has (by omega) kg3
    replace HR := HR.st St dHRg1
    replace GG := GG.store St bg1
    replace kg1 := St.new
    clear St
    refine mv (vF) rfl (nq ?_)
    refine qL (qR (jm ?_))
    refine bodyPost_ret (jJ results71 _ _ g1 42 _ (0, 0) _ rfl (vF) rfl kg1 underlying42 rfl (siIt' _)) rfl ?_
    have ch1 := of_decide_eq_true h1
    have hr : riV r i = none := by
      unfold riV
      rw [h]
      simp only
      rw [hv, if_pos (by omega)]
    rw [hr]
    exact ⟨rfl, GG⟩
  | some v =>
    obtain ⟨n, z, b, rfl⟩ := tri v
    obtain ⟨t, c, f, g⟩ := tri (getT r ((b : Nat) : Int) 64)
    refine eN func71 rfl ntmps71 [.slice ao r.length cap, iK i] ?_
    have GG := Gro.refl w
    refine qS ?_
    refine jH 4 rfl rfl 42 rfl _ zeroIt (itA zM) rfl ?_
    intro w1 g1 G eg1 kg1
    have bg1 := jh GG eg1
    have dHRg1 := HR.ne eg1
    replace HR := HR.gro G
    replace GG := GG.trans G
    clear G
    clear eg1
    refine nq ?_
    refine mv (vF) rfl (nq ?_)
    refine qL (qE (qG (mv (.slice ao r.length cap) rfl (mv (iK i) rfl (nq ?_)))))
    refine jr 15 rfl rfl _ 94 call94 rfl rfl _ rfl [.slice ao r.length cap, iK i] rfl (Vp ao cap r _ HR i hlen y a e h) ?_
    intro w2 G
    replace kg1 := G.has kg1
    replace HR := HR.gro G
    replace GG := GG.trans G
    clear G
    refine nq ?_
    refine mv (.tuple #[eA y, nK a, nK e]) rfl (mv (eA y) rfl (mv (nK a) rfl (mv (nK e) rfl (nq ?_))))
    refine jH 6 rfl rfl 38 rfl _ zero23 (idA 0) rfl ?_
    intro w3 g2 G eg2 kg2
    have bg2 := jh GG eg2
    have dg1g2 := jn kg1 eg2
    have dHRg2 := HR.ne eg2
    replace kg1 := G.has kg1
    replace HR := HR.gro G
    replace GG := GG.trans G
    clear G
    clear eg2
    refine nq ?_
    refine jE rfl rfl 38 _ _ rfl g2 0 rfl (eA y) rfl 38 _ kg2 (idA y) rfl (size23' _) (uH _ _) (vW _) (idA y) (jS _ _ (JU _ _)) ?_
    intro w4 St
    replace kg1 := St.has (by omega) kg1
    replace HR := HR.st St dHRg2
    replace GG := GG.store St bg2
    replace kg2 := St.new
    clear St
    refine mv (nK a) rfl (mv (nK e) rfl (nq ?_))
    refine qL (qE (qE ?_))
    cases h1 : decide (((e : Nat) : Int) = 0)
    refine qG (mv (nK e) rfl (sv (vT) (jj 31 .i64 _ _ _ rfl underlying31 ((e : Nat) : Int) 0 rfl rfl true h1 _) rfl (nq ?_)))
    refine qL (qT rfl (qE (qG (sv (iA zM) (jK 42 _ rfl [] rfl _ (bdI0 _)) rfl (nq ?_)))))
    refine stI zM rfl rfl rfl kg1 rfl ?_
    intro w5 St
    replace kg2 := St.has (by omega) kg2
    replace HR := HR.st St dHRg1
    replace GG := GG.store St bg1
    replace kg1 := St.new
    clear St
    refine mv (vF) rfl (nq ?_)
    refine qL (qR (jm ?_))
    refine bodyPost_ret (jJ results71 _ _ g1 42 _ (0, 0) _ rfl (vF) rfl kg1 underlying42 rfl (siIt' _)) rfl ?_
    have ch1 := of_decide_eq_false h1
    have hr : riV r i = none := by
      unfold riV
      rw [h]
      exact if_neg (by simp only; omega)
    rw [hr]
    exact ⟨rfl, GG⟩
    refine qG (mv (nK e) rfl (sv (vF) (jj 31 .i64 _ _ _ rfl underlying31 ((e : Nat) : Int) 0 rfl rfl false h1 _) rfl (nq ?_)))
    refine qL (qF rfl (qK (qE (qG (mv (.slice ao r.length cap) rfl (mv (nK a) rfl (nq ?_)))))))
    refine jr 25 rfl rfl _ 95 call95 rfl rfl _ rfl [.slice ao r.length cap, nK a] rfl ((Zb _ ao cap r HR hlen ((a : Nat) : Int)).mono fun e w' H => by rw [hv] at H; exact H) ?_
    intro w5 G
    replace kg1 := G.has kg1
    replace kg2 := G.has kg2
    replace HR := HR.gro G
    replace GG := GG.trans G
    clear G
    refine nq ?_
    refine mv (.tuple #[.agg (veA (mkV ((n : Nat) : Int) z)), nK b, vT]) rfl (mv (.agg (veA (mkV ((n : Nat) : Int) z))) rfl (mv (nK b) rfl (mv (vT) rfl (nq ?_))))
    refine jH 8 rfl rfl 40 rfl _ zeroVe (veA zV) rfl ?_
    intro w6 g3 G eg3 kg3
    have bg3 := jh GG eg3
    have dg1g3 := jn kg1 eg3
    have dg2g3 := jn kg2 eg3
    have dHRg3 := HR.ne eg3
    replace kg1 := G.has kg1
    replace kg2 := G.has kg2
    replace HR := HR.gro G
    replace GG := GG.trans G
    clear G
    clear eg3
    refine nq ?_
    refine jE rfl rfl 40 _ _ rfl g3 0 rfl (.agg (veA (mkV ((n : Nat) : Int) z))) rfl 40 _ kg3 (veA (mkV ((n : Nat) : Int) z)) rfl (siVe' _) (vK _ _) (vJ _) (veA (mkV ((n : Nat) : Int) z)) (jS _ _ (uV _ _)) ?_
    intro w7 St
    replace kg1 := St.has (by omega) kg1
    replace kg2 := St.has (by omega) kg2
    replace HR := HR.st St dHRg3
    replace GG := GG.store St bg3
    replace kg3 := St.new
    clear St
    refine mv (nK b) rfl (mv (vT) rfl (nq ?_))
    refine qL (qE (qE (qG (mv (vT) rfl (sv (vF) (jZ _ _ rfl true rfl) rfl (nq ?_))))))
    refine qL (qF rfl (qK (qE (qG (mv (.slice ao r.length cap) rfl (mv (nK b) rfl (nq ?_)))))))
    refine jq 35 rfl rfl _ 96 call96 rfl rfl _ rfl [.slice ao r.length cap, nK b, iK 64] rfl (jap ao cap r _ HR ((b : Nat) : Int) hlen t c f g) (by rintro _ _ ⟨_, _, he, _, _⟩; exact ⟨_, he⟩) ?_
    have lzg1 := ji kg1
    have lzg2 := ji kg2
    have lzg3 := ji kg3
    rintro v w8 ⟨ao1, cap1, he, G, HO1⟩
    cases he
    have dHO1g1 := HO1.neB lzg1
    have dHO1g2 := HO1.neB lzg2
    have dHO1g3 := HO1.neB lzg3
    replace HO1 := HO1.mono GG.size
    replace kg1 := G.has kg1
    replace kg2 := G.has kg2
    replace kg3 := G.has kg3
    replace HR := HR.gro G
    replace GG := GG.trans G
    clear G
    refine nq ?_
    refine mv (.tuple #[.slice ao1 t.length cap1, nK c, nK f]) rfl (mv (.slice ao1 t.length cap1) rfl (mv (nK c) rfl (mv (nK f) rfl (mv (.slice ao1 t.length cap1) rfl (mv (nK c) rfl ?_)))))
    refine nq ?_
    refine mv (nK f) rfl (nq ?_)
    refine qL (qE (qE ?_))
    cases h2 : decide (((f : Nat) : Int) = 0)
    refine jg ?_
    intro OPS hY
    have y2 := hY 2 41 rfl
    clear hY
    refine mv (nK f) rfl (sv (vT) (jj 31 .i64 _ _ _ rfl underlying31 ((f : Nat) : Int) 0 rfl rfl true h2 _) rfl (mv (vT) rfl (jk 42 rfl rfl y2 rfl (jk 43 rfl rfl y2 rfl (jk 44 rfl rfl y2 rfl ?_)))))
    refine nq ?_
    refine jk 45 rfl rfl y2 rfl (mv (vT) rfl (nq ?_))
    refine qL (qT rfl (qE (qG (sv (iA zM) (jK 42 _ rfl [] rfl _ (bdI0 _)) rfl (nq ?_)))))
    refine stI zM rfl rfl rfl kg1 rfl ?_
    intro w9 St
    replace kg2 := St.has (by omega) kg2
    replace kg3 := St.has (by omega) kg3
    replace HR := HR.st St dHRg1
    replace HO1 := HO1.st St dHO1g1
    replace GG := GG.store St bg1
    replace kg1 := St.new
    clear St
    refine mv (vF) rfl (nq ?_)
    refine qL (qR (jm ?_))
    refine bodyPost_ret (jJ results71 _ _ g1 42 _ (0, 0) _ rfl (vF) rfl kg1 underlying42 rfl (siIt' _)) rfl ?_
    have ch1 := of_decide_eq_true h1
    have ch2 := of_decide_eq_false h2
    have hr : riV r i = none := by
      unfold riV
      rw [h]
      simp only
      rw [hv, if_pos (by omega)]
      simp only
      rw [g]
      exact if_neg (fun ⟨c1, c2⟩ => by simp only at c1 c2; omega)
    rw [hr]
    exact ⟨rfl, GG⟩
    cases h3 : decide (((c : Nat) : Int) = ((r.length : Nat) : Int))
    refine jg ?_
    intro OPS hY
    have y2 := hY 2 41 rfl
    clear hY
    refine mv (nK f) rfl (sv (vF) (jj 31 .i64 _ _ _ rfl underlying31 ((f : Nat) : Int) 0 rfl rfl false h2 _) rfl (mv (vF) rfl (jd 42 rfl rfl y2 rfl (nK c) (rfl) (jd 43 rfl rfl y2 rfl (.slice ao r.length cap) (rfl) (jd 44 rfl rfl y2 rfl (nK r.length) (js underlying27 _ rfl _ _ _ rfl _) ?_)))))
    refine nq ?_
    refine jd 45 rfl rfl y2 rfl (vT) (jj 3 .i64 _ _ _ rfl underlying3 ((c : Nat) : Int) ((r.length : Nat) : Int) rfl rfl true h3 _) (mv (vT) rfl (nq ?_))
    refine qL (qT rfl (qE (qG (sv (iA zM) (jK 42 _ rfl [] rfl _ (bdI0 _)) rfl (nq ?_)))))
    refine stI zM rfl rfl rfl kg1 rfl ?_
    intro w9 St
    replace kg2 := St.has (by omega) kg2
    replace kg3 := St.has (by omega) kg3
    replace HR := HR.st St dHRg1
    replace HO1 := HO1.st St dHO1g1
    replace GG := GG.store St bg1
    replace kg1 := St.new
    clear St
    refine mv (vF) rfl (nq ?_)
    refine qL (qR (jm ?_))
    refine bodyPost_ret (jJ results71 _ _ g1 42 _ (0, 0) _ rfl (vF) rfl kg1 underlying42 rfl (siIt' _)) rfl ?_
    have ch1 := of_decide_eq_true h1
    have ch2 := of_decide_eq_true h2
    have ch3 := of_decide_eq_false h3
    have hr : riV r i = none := by
      unfold riV
      rw [h]
      simp only
      rw [hv, if_pos (by omega)]
      simp only
      rw [g]
      exact if_neg (fun ⟨c1, c2⟩ => by simp only at c1 c2; omega)
    rw [hr]
    exact ⟨rfl, GG⟩
    refine jg ?_
    intro OPS hY
    have y2 := hY 2 41 rfl
    clear hY
    refine mv (nK f) rfl (sv (vF) (jj 31 .i64 _ _ _ rfl underlying31 ((f : Nat) : Int) 0 rfl rfl false h2 _) rfl (mv (vF) rfl (jd 42 rfl rfl y2 rfl (nK c) (rfl) (jd 43 rfl rfl y2 rfl (.slice ao r.length cap) (rfl) (jd 44 rfl rfl y2 rfl (nK r.length) (js underlying27 _ rfl _ _ _ rfl _) ?_)))))
    refine nq ?_
    refine jd 45 rfl rfl y2 rfl (vF) (jj 3 .i64 _ _ _ rfl underlying3 ((c : Nat) : Int) ((r.length : Nat) : Int) rfl rfl false h3 _) (mv (vF) rfl (nq ?_))
    refine qL (qF rfl (qK (qE (qG (sv (eA y) (ldI0 _ rfl g2 rfl (kg2)) rfl (sv (.agg (veA (mkV ((n : Nat) : Int) z))) (ldVe0 _ rfl g3 rfl (kg3)) rfl (mv (.slice ao1 t.length cap1) rfl (sv (iA (mkI y (mkV ((n : Nat) : Int) z) ao1 cap1 t)) (jK 42 _ rfl [(0, eA y), (1, .agg (veA (mkV ((n : Nat) : Int) z))), (2, .slice ao1 t.length cap1)] rfl _ (bdI012 y (mkV ((n : Nat) : Int) z) ao1 cap1 t _)) rfl (nq ?_)))))))))
    refine stI (mkI y (mkV ((n : Nat) : Int) z) ao1 cap1 t) rfl rfl rfl kg1 rfl ?_
    intro w9 St
    replace kg2 := St.has (by omega) kg2
    replace kg3 := St.has (by omega) kg3
    replace HR := HR.st St dHRg1
    replace HO1 := HO1.st St dHO1g1
    replace GG := GG.store St bg1
    replace kg1 := St.new
    clear St
    refine mv (vT) rfl (nq ?_)
    refine qL (qR ?_)
    refine bodyPost_ret (jJ results71 _ _ g1 42 _ (0, 0) _ rfl (vT) rfl kg1 underlying42 rfl (siIt' _)) rfl ?_
    have ch1 := of_decide_eq_true h1
    have ch2 := of_decide_eq_true h2
    have ch3 := of_decide_eq_true h3
    have hr : riV r i = some ⟨y, n, z, t⟩ := by
      unfold riV
      rw [h]
      simp only
      rw [hv, if_pos (by omega)]
      simp only
      rw [g]
      exact if_pos ⟨by simp only; omega, by simp only; omega⟩
    rw [hr]
    exact ⟨_, _, rfl, GG, HO1⟩
end Go.Proofs.YtgfnjekpafempaaGreat
