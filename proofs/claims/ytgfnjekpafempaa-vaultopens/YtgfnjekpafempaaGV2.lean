/- Records that are read: a beginning's, a version, an item; the document's reader. -/
import Derived.Test.YtgfnjekpafempaaGV1
import Derived.Test.YtgfnjekpafempaaGAb
namespace Go.Proofs.Ytgfnjekpafempaa
set_option maxHeartbeats 4000000
set_option maxRecDepth 100000
open Go.RowKit
def getV (l : List Nat) (i : Int) : Nat × Nat × Nat := (valL (getI l i).1, (getI l i).2.1, (getI l i).2.2)
theorem yx (ao : Option Addr) (cap : Nat) (l : List Nat) (w : World) (HC : NC w .u8 ao cap l) (i : Int) (hlen : l.length ≤ 140737488355000) (n a e : Nat) (h : getE l i = (n, a, e)) : Calls Try.prog 61 #[.slice ao l.length cap, .int .i64 i] w fun x w' => x = .returned (.tuple #[.int .u64 (n : Int), .int .i64 (a : Int), .int .i64 (e : Int)]) ∧ Gro w w' := by
  refine (yo ao cap l w HC i (by omega)).mono fun x w' hx => ?_
  obtain ⟨h1, h2⟩ := hx
  rw [h] at h1
  exact ⟨h1, h2 ▸ Gro.refl w⟩
theorem Jm (ao : Option Addr) (cap : Nat) (l : List Nat) (w : World) (HC : NC w .u8 ao cap l) (i : Int) (hlen : l.length ≤ 140737488355000) (n a e : Nat) (h : getE l i = (n, a, e)) : Calls Try.prog 82 #[.slice ao l.length cap, .int .i64 i] w fun x w' => x = .returned (.tuple #[.int .u64 (n : Int), .int .i64 (a : Int), .int .i64 (e : Int)]) ∧ Gro w w' := by
  refine (yn ao cap l w HC i (by omega)).mono fun x w' hx => ?_
  obtain ⟨h1, h2⟩ := hx
  rw [h] at h1
  exact ⟨h1, h2 ▸ Gro.refl w⟩
theorem Yo (ao : Option Addr) (cap : Nat) (l : List Nat) (w : World) (HC : NC w .u8 ao cap l) (i : Int) (hlen : l.length ≤ 140737488355000) (n a e : Nat) (h : getV l i = (n, a, e)) : Calls Try.prog 97 #[.slice ao l.length cap, .int .i64 i] w fun x w' => x = .returned (.tuple #[.agg (idA n), .int .i64 (a : Int), .int .i64 (e : Int)]) ∧ Gro w w' := by
  refine (QW ao cap l w HC i hlen).mono fun x w' hx => ?_
  obtain ⟨h1, h2⟩ := hx
  unfold getV at h
  injection h with e1 e2
  injection e2 with e2 e3
  rw [jca (Zu l i) (Yn l HC.lt256 i), e1, e2, e3] at h1
  exact ⟨h1, h2⟩
theorem YU (ao : Option Addr) (cap : Nat) (l : List Nat) (w : World) (HC : NC w .u8 ao cap l) (i : Int) (hlen : l.length ≤ 140737488355000) (n a e : Nat) (h : getV l i = (n, a, e)) : Calls Try.prog 83 #[.slice ao l.length cap, .int .i64 i] w fun x w' => x = .returned (.tuple #[.agg (idA n), .int .i64 (a : Int), .int .i64 (e : Int)]) ∧ Gro w w' := by
  refine (QV ao cap l w HC i hlen).mono fun x w' hx => ?_
  obtain ⟨h1, h2⟩ := hx
  unfold getV at h
  injection h with e1 e2
  injection e2 with e2 e3
  rw [jca (Zu l i) (Yn l HC.lt256 i), e1, e2, e3] at h1
  exact ⟨h1, h2⟩
theorem QT (ao : Option Addr) (cap : Nat) (l : List Nat) (w : World) (HC : NC w .u8 ao cap l) (i : Int) (hlen : l.length ≤ 140737488355000) (t : List Nat) (a e : Nat) (h : getT l i 64 = (t, a, e)) : Calls Try.prog 99 #[.slice ao l.length cap, .int .i64 i, .int .i64 64] w fun x w' => ∃ ao2 cap2, x = .returned (.tuple #[.slice ao2 t.length cap2, .int .i64 (a : Int), .int .i64 (e : Int)]) ∧ Gro w w' ∧ OB w' 5 .u8 w.heap.size ao2 cap2 t := by
  refine (Vh ao cap l w HC i 64 hlen (by decide)).mono fun x w' hx => ?_
  obtain ⟨ao2, cap2, L, h1, h2, h3, h4⟩ := hx
  have h5 := h2.out
  rw [h] at h5 h1
  subst h5
  exact ⟨ao2, cap2, h1, h4, h3⟩
theorem VG (ao : Option Addr) (cap : Nat) (l : List Nat) (w : World) (HC : NC w .u8 ao cap l) (i : Int) (hlen : l.length ≤ 140737488355000) (t : List Nat) (a e : Nat) (h : getT l i 64 = (t, a, e)) : Calls Try.prog 84 #[.slice ao l.length cap, .int .i64 i, .int .i64 64] w fun x w' => ∃ ao2 cap2, x = .returned (.tuple #[.slice ao2 t.length cap2, .int .i64 (a : Int), .int .i64 (e : Int)]) ∧ Gro w w' ∧ OB w' 5 .u8 w.heap.size ao2 cap2 t := by
  refine (Vg ao cap l w HC i 64 hlen (by decide)).mono fun x w' hx => ?_
  obtain ⟨ao2, cap2, L, h1, h2, h3, h4⟩ := hx
  have h5 := h2.out
  rw [h] at h5 h1
  subst h5
  exact ⟨ao2, cap2, h1, h4, h3⟩
theorem tri {α β γ : Type} (x : α × β × γ) : ∃ a b c, x = (a, b, c) := ⟨x.1, x.2.1, x.2.2, rfl⟩
def rbV (r : List Nat) (i : Int) : Option Nat := if (getE r i).2.2 = 0 ∧ (getE r i).2.1 = r.length ∧ (getE r i).1 ≤ 1048576 then some (getE r i).1 else none
def rvV (r : List Nat) (i : Int) : Option (Nat × Nat × Nat) := if (getE r i).2.2 = 0 ∧ 1 ≤ (getE r i).1 ∧ (getE r i).1 ≤ 4611686018427387903 then (if (getV r (getE r i).2.1).2.2 = 0 then some ((getE r i).1, (getV r (getE r i).2.1).1, (getV r (getE r i).2.1).2.1) else none) else none
def riV (r : List Nat) (i : Int) : Option It := if (getV r i).2.2 = 0 then (match rvV r (getV r i).2.1 with
  | none => none
  | some v => if (getT r v.2.2 64).2.2 = 0 ∧ (getT r v.2.2 64).2.1 = r.length then some ⟨(getV r i).1, v.1, v.2.1, (getT r v.2.2 64).1⟩ else none) else none
def It.im (x : It) (ao : Option Addr) (cap : Nat) : IM := ⟨x.key, x.n, x.who, ao, cap, x.val⟩
theorem Ve (x : It) (ao : Option Addr) (cap : Nat) : (x.im ao cap).it = x := by
  obtain ⟨k, n, w, v⟩ := x
  rfl
def RbP (w : World) : Option Nat → Ending → World → Prop
  | none, e, w' => e = .returned (.tuple #[.int .i64 0, .bool false]) ∧ Gro w w'
  | some n, e, w' => e = .returned (.tuple #[.int .i64 (n : Int), .bool true]) ∧ Gro w w'
def RvP (w : World) : Option (Nat × Nat × Nat) → Ending → World → Prop
  | none, e, w' => e = .returned (.tuple #[.agg (veA zV), .int .i64 0, .bool false]) ∧ Gro w w'
  | some v, e, w' => e = .returned (.tuple #[.agg (veA (mkV (v.1 : Int) v.2.1)), .int .i64 (v.2.2 : Int), .bool true]) ∧ Gro w w'
def RiP (w : World) : Option It → Ending → World → Prop
  | none, e, w' => e = .returned (.tuple #[.agg (itA zM), .bool false]) ∧ Gro w w'
  | some x, e, w' => ∃ ao cap, e = .returned (.tuple #[.agg (itA (x.im ao cap)), .bool true]) ∧ Gro w w' ∧ OB w' 5 .u8 w.heap.size ao cap x.val
theorem Jy (w : World) (ao : Option Addr) (cap : Nat) (r : List Nat) (HR : NC w .u8 ao cap r) (hlen : r.length ≤ 140737488355000) (i : Int) : Calls Try.prog 79 #[.slice ao r.length cap, iK i] w (RbP w (rbV r i)) := by
  obtain ⟨n, a, e, h⟩ := tri (getE r i)
  refine js Try.func79 rfl Try.ntmps79 [.slice ao r.length cap, iK i] [.slice ao r.length cap, iK i, uD, uD, uD, uD, uD, uD, uD, uD, uD, uD, uD, uD, uD, uD, uD, uD, uD, uD, uD, uD, uD, uD, uD, uD, uD, uD, uD, uD] rfl ?_
  have GG := Gro.refl w
  refine qS ?_
  refine ja 4 rfl rfl (iK 0) (rfl) ?_
  refine ja 5 rfl rfl (vF) (rfl) ?_
  refine nr ?_; intro U h; simp only [z0, z1] at h; subst h
  refine qA ?_
  refine ja 10 rfl rfl (.slice ao r.length cap) (rfl) ?_
  refine ja 11 rfl rfl (iK i) (rfl) ?_
  refine nr ?_; intro U h; simp only [z0, z1] at h; subst h
  refine jy 12 rfl rfl _ 61 Try.call61 rfl rfl _ rfl [.slice ao r.length cap, iK i] rfl (yx ao cap r _ HR i hlen n a e h) ?_
  intro w1 G
  replace HR := HR.gro G
  replace GG := GG.trans G
  clear G
  refine nr ?_; intro U h; simp only [z0, z1] at h; subst h
  refine ja 9 rfl rfl (.tuple #[.int .u64 ((n : Nat) : Int), nK a, nK e]) (rfl) ?_
  refine ja 13 rfl rfl (.int .u64 ((n : Nat) : Int)) (rfl) ?_
  refine ja 14 rfl rfl (nK a) (rfl) ?_
  refine ja 15 rfl rfl (nK e) (rfl) ?_
  refine ja 6 rfl rfl (.int .u64 ((n : Nat) : Int)) (rfl) ?_
  refine ja 7 rfl rfl (nK a) (rfl) ?_
  refine ja 8 rfl rfl (nK e) (rfl) ?_
  refine nr ?_; intro U h; simp only [z0, z1] at h; subst h
  refine qL (qE (qE ?_))
  cases h1 : decide (((e : Nat) : Int) = 0)
  refine jj ?_
  intro OPS hY
  have y2 := hY 2 18 rfl
  have y8 := hY 8 24 rfl
  clear hY
  refine ja 16 rfl rfl (nK e) (rfl) ?_
  refine ja 17 rfl rfl (vT) (jh 26 .i64 _ _ _ rfl Try.underlying26 ((e : Nat) : Int) 0 rfl rfl true h1 _) ?_
  refine ja 18 rfl rfl (vT) (rfl) ?_
  refine jo 19 rfl rfl y2 rfl ?_
  refine jo 20 rfl rfl y2 rfl ?_
  refine jo 21 rfl rfl y2 rfl ?_
  refine jo 22 rfl rfl y2 rfl ?_
  refine nr ?_; intro U h; simp only [z0, z1] at h; subst h
  refine ja 23 rfl rfl (vT) (rfl) ?_
  refine ja 24 rfl rfl (vT) (rfl) ?_
  refine jo 25 rfl rfl y8 rfl ?_
  refine jo 26 rfl rfl y8 rfl ?_
  refine ja 27 rfl rfl (vT) (rfl) ?_
  refine nr ?_; intro U h; simp only [z0, z1] at h; subst h
  refine qL (qT rfl (qS ?_))
  refine ja 4 rfl rfl (iK 0) (rfl) ?_
  refine ja 5 rfl rfl (vF) (rfl) ?_
  refine nr ?_; intro U h; simp only [z0, z1] at h; subst h
  refine qL (qR (jr ?_))
  refine bodyPost_ret (results_tmp2 Try.results79 _ _ _) rfl ?_
  have ch1 := of_decide_eq_false h1
  have hv : rbV r i = none := by
    unfold rbV
    rw [h]
    exact if_neg (fun ⟨c1, c2, c3⟩ => by simp only at c1 c2 c3; omega)
  rw [hv]
  exact ⟨rfl, GG⟩
  cases h2 : decide (((a : Nat) : Int) = ((r.length : Nat) : Int))
  refine jj ?_
  intro OPS hY
  have y2 := hY 2 18 rfl
  have y8 := hY 8 24 rfl
  clear hY
  refine ja 16 rfl rfl (nK e) (rfl) ?_
  refine ja 17 rfl rfl (vF) (jh 26 .i64 _ _ _ rfl Try.underlying26 ((e : Nat) : Int) 0 rfl rfl false h1 _) ?_
  refine ja 18 rfl rfl (vF) (rfl) ?_
  refine je 19 rfl rfl y2 rfl (nK a) (rfl) ?_
  refine je 20 rfl rfl y2 rfl (.slice ao r.length cap) (rfl) ?_
  refine je 21 rfl rfl y2 rfl (nK r.length) (jA Try.underlying30 _ rfl _ _ _ rfl _) ?_
  refine je 22 rfl rfl y2 rfl (vT) (jh 3 .i64 _ _ _ rfl Try.underlying3 ((a : Nat) : Int) ((r.length : Nat) : Int) rfl rfl true h2 _) ?_
  refine nr ?_; intro U h; simp only [z0, z1] at h; subst h
  refine ja 23 rfl rfl (vT) (rfl) ?_
  refine ja 24 rfl rfl (vT) (rfl) ?_
  refine jo 25 rfl rfl y8 rfl ?_
  refine jo 26 rfl rfl y8 rfl ?_
  refine ja 27 rfl rfl (vT) (rfl) ?_
  refine nr ?_; intro U h; simp only [z0, z1] at h; subst h
  refine qL (qT rfl (qS ?_))
  refine ja 4 rfl rfl (iK 0) (rfl) ?_
  refine ja 5 rfl rfl (vF) (rfl) ?_
  refine nr ?_; intro U h; simp only [z0, z1] at h; subst h
  refine qL (qR (jr ?_))
  refine bodyPost_ret (results_tmp2 Try.results79 _ _ _) rfl ?_
  have ch1 := of_decide_eq_true h1
  have ch2 := of_decide_eq_false h2
  have hv : rbV r i = none := by
    unfold rbV
    rw [h]
    exact if_neg (fun ⟨c1, c2, c3⟩ => by simp only at c1 c2 c3; omega)
  rw [hv]
  exact ⟨rfl, GG⟩
  cases h3 : decide (1048576 < n)
  refine jj ?_
  intro OPS hY
  have y2 := hY 2 18 rfl
  have y8 := hY 8 24 rfl
  clear hY
  refine ja 16 rfl rfl (nK e) (rfl) ?_
  refine ja 17 rfl rfl (vF) (jh 26 .i64 _ _ _ rfl Try.underlying26 ((e : Nat) : Int) 0 rfl rfl false h1 _) ?_
  refine ja 18 rfl rfl (vF) (rfl) ?_
  refine je 19 rfl rfl y2 rfl (nK a) (rfl) ?_
  refine je 20 rfl rfl y2 rfl (.slice ao r.length cap) (rfl) ?_
  refine je 21 rfl rfl y2 rfl (nK r.length) (jA Try.underlying30 _ rfl _ _ _ rfl _) ?_
  refine je 22 rfl rfl y2 rfl (vF) (jh 3 .i64 _ _ _ rfl Try.underlying3 ((a : Nat) : Int) ((r.length : Nat) : Int) rfl rfl false h2 _) ?_
  refine nr ?_; intro U h; simp only [z0, z1] at h; subst h
  refine ja 23 rfl rfl (vF) (rfl) ?_
  refine ja 24 rfl rfl (vF) (rfl) ?_
  refine je 25 rfl rfl y8 rfl (.int .u64 ((n : Nat) : Int)) (rfl) ?_
  refine je 26 rfl rfl y8 rfl (vF) (jS 75 75 _ _ rfl n 1048576 rfl rfl false h3 _) ?_
  refine ja 27 rfl rfl (vF) (rfl) ?_
  refine nr ?_; intro U h; simp only [z0, z1] at h; subst h
  refine qL (qF rfl (qK (qS ?_)))
  refine ja 28 rfl rfl (.int .u64 ((n : Nat) : Int)) (rfl) ?_
  refine ja 29 rfl rfl (nK n) (convU2 _ rfl n (by have := of_decide_eq_false h3; omega) rfl _) ?_
  refine ja 4 rfl rfl (nK n) (rfl) ?_
  refine ja 5 rfl rfl (vT) (rfl) ?_
  refine nr ?_; intro U h; simp only [z0, z1] at h; subst h
  refine qL (qR ?_)
  refine bodyPost_ret (results_tmp2 Try.results79 _ _ _) rfl ?_
  have ch1 := of_decide_eq_true h1
  have ch2 := of_decide_eq_true h2
  have ch3 := of_decide_eq_false h3
  have hv : rbV r i = some n := by
    unfold rbV
    rw [h]
    exact if_pos ⟨by simp only; omega, by simp only; omega, by simp only; omega⟩
  rw [hv]
  exact ⟨rfl, GG⟩
  refine jj ?_
  intro OPS hY
  have y2 := hY 2 18 rfl
  have y8 := hY 8 24 rfl
  clear hY
  refine ja 16 rfl rfl (nK e) (rfl) ?_
  refine ja 17 rfl rfl (vF) (jh 26 .i64 _ _ _ rfl Try.underlying26 ((e : Nat) : Int) 0 rfl rfl false h1 _) ?_
  refine ja 18 rfl rfl (vF) (rfl) ?_
  refine je 19 rfl rfl y2 rfl (nK a) (rfl) ?_
  refine je 20 rfl rfl y2 rfl (.slice ao r.length cap) (rfl) ?_
  refine je 21 rfl rfl y2 rfl (nK r.length) (jA Try.underlying30 _ rfl _ _ _ rfl _) ?_
  refine je 22 rfl rfl y2 rfl (vF) (jh 3 .i64 _ _ _ rfl Try.underlying3 ((a : Nat) : Int) ((r.length : Nat) : Int) rfl rfl false h2 _) ?_
  refine nr ?_; intro U h; simp only [z0, z1] at h; subst h
  refine ja 23 rfl rfl (vF) (rfl) ?_
  refine ja 24 rfl rfl (vF) (rfl) ?_
  refine je 25 rfl rfl y8 rfl (.int .u64 ((n : Nat) : Int)) (rfl) ?_
  refine je 26 rfl rfl y8 rfl (vT) (jS 75 75 _ _ rfl n 1048576 rfl rfl true h3 _) ?_
  refine ja 27 rfl rfl (vT) (rfl) ?_
  refine nr ?_; intro U h; simp only [z0, z1] at h; subst h
  refine qL (qT rfl (qS ?_))
  refine ja 4 rfl rfl (iK 0) (rfl) ?_
  refine ja 5 rfl rfl (vF) (rfl) ?_
  refine nr ?_; intro U h; simp only [z0, z1] at h; subst h
  refine qL (qR (jr ?_))
  refine bodyPost_ret (results_tmp2 Try.results79 _ _ _) rfl ?_
  have ch1 := of_decide_eq_true h1
  have ch2 := of_decide_eq_true h2
  have ch3 := of_decide_eq_true h3
  have hv : rbV r i = none := by
    unfold rbV
    rw [h]
    exact if_neg (fun ⟨c1, c2, c3⟩ => by simp only at c1 c2 c3; omega)
  rw [hv]
  exact ⟨rfl, GG⟩
theorem Jx (w : World) (ao : Option Addr) (cap : Nat) (r : List Nat) (HR : NC w .u8 ao cap r) (hlen : r.length ≤ 140737488355000) (i : Int) : Calls Try.prog 98 #[.slice ao r.length cap, iK i] w (RvP w (rvV r i)) := by
  obtain ⟨n, a, e, h⟩ := tri (getE r i)
  obtain ⟨y, b, f, g⟩ := tri (getV r ((a : Nat) : Int))
  refine js Try.func98 rfl Try.ntmps98 [.slice ao r.length cap, iK i] [.slice ao r.length cap, iK i, uD, uD, uD, uD, uD, uD, uD, uD, uD, uD, uD, uD, uD, uD, uD, uD, uD, uD, uD, uD, uD, uD, uD, uD, uD, uD, uD, uD, uD, uD, uD, uD, uD, uD, uD, uD, uD, uD, uD, uD, uD] rfl ?_
  have GG := Gro.refl w
  refine qS ?_
  refine jU 4 rfl rfl 54 rfl _ zeroVe (veA zV) rfl ?_
  intro w1 g1 G eg1 kg1
  have bg1 := jk GG eg1
  have dHRg1 := HR.ne eg1
  replace HR := HR.gro G
  replace GG := GG.trans G
  clear G
  clear eg1
  refine nr ?_; intro U h; simp only [z0, z1] at h; subst h
  refine ja 5 rfl rfl (iK 0) (rfl) ?_
  refine ja 6 rfl rfl (vF) (rfl) ?_
  refine nr ?_; intro U h; simp only [z0, z1] at h; subst h
  refine qA ?_
  refine ja 11 rfl rfl (.slice ao r.length cap) (rfl) ?_
  refine ja 12 rfl rfl (iK i) (rfl) ?_
  refine nr ?_; intro U h; simp only [z0, z1] at h; subst h
  refine jy 13 rfl rfl _ 61 Try.call61 rfl rfl _ rfl [.slice ao r.length cap, iK i] rfl (yx ao cap r _ HR i hlen n a e h) ?_
  intro w2 G
  replace kg1 := G.has kg1
  replace HR := HR.gro G
  replace GG := GG.trans G
  clear G
  refine nr ?_; intro U h; simp only [z0, z1] at h; subst h
  refine ja 10 rfl rfl (.tuple #[.int .u64 ((n : Nat) : Int), nK a, nK e]) (rfl) ?_
  refine ja 14 rfl rfl (.int .u64 ((n : Nat) : Int)) (rfl) ?_
  refine ja 15 rfl rfl (nK a) (rfl) ?_
  refine ja 16 rfl rfl (nK e) (rfl) ?_
  refine ja 7 rfl rfl (.int .u64 ((n : Nat) : Int)) (rfl) ?_
  refine ja 1 rfl rfl (nK a) (rfl) ?_
  refine ja 8 rfl rfl (nK e) (rfl) ?_
  refine nr ?_; intro U h; simp only [z0, z1] at h; subst h
  refine qL (qE (qE ?_))
  cases h1 : decide (((e : Nat) : Int) = 0)
  refine jj ?_
  intro OPS hY
  have y2 := hY 2 19 rfl
  have y6 := hY 6 23 rfl
  clear hY
  refine ja 17 rfl rfl (nK e) (rfl) ?_
  refine ja 18 rfl rfl (vT) (jh 26 .i64 _ _ _ rfl Try.underlying26 ((e : Nat) : Int) 0 rfl rfl true h1 _) ?_
  refine ja 19 rfl rfl (vT) (rfl) ?_
  refine jo 20 rfl rfl y2 rfl ?_
  refine jo 21 rfl rfl y2 rfl ?_
  refine ja 22 rfl rfl (vT) (rfl) ?_
  refine ja 23 rfl rfl (vT) (rfl) ?_
  refine nr ?_; intro U h; simp only [z0, z1] at h; subst h
  refine jo 24 rfl rfl y6 rfl ?_
  refine jo 25 rfl rfl y6 rfl ?_
  refine ja 26 rfl rfl (vT) (rfl) ?_
  refine nr ?_; intro U h; simp only [z0, z1] at h; subst h
  refine qL (qT rfl (qS ?_))
  refine ja 27 rfl rfl (.agg (veA zV)) (jN 54 _ rfl [] rfl _ (bdV0 _)) ?_
  refine nr ?_; intro U h; simp only [z0, z1] at h; subst h
  refine jt rfl rfl 54 _ _ rfl g1 0 rfl (.agg (veA zV)) rfl 54 _ kg1 (veA zV) rfl (siVe' _) (vu _ _) (vt _) (veA zV) (jm _ _ (uz _ _)) ?_
  intro w3 St
  replace HR := HR.st St dHRg1
  replace GG := GG.store St bg1
  replace kg1 := St.new
  clear St
  refine ja 5 rfl rfl (iK 0) (rfl) ?_
  refine ja 6 rfl rfl (vF) (rfl) ?_
  refine nr ?_; intro U h; simp only [z0, z1] at h; subst h
  refine qL (qR (jr ?_))
  refine bodyPost_ret (ju Try.results98 _ _ g1 54 _ (0, 0) _ rfl (iK 0) (vF) rfl rfl kg1 Try.underlying54 rfl (siVe' _)) rfl ?_
  have ch1 := of_decide_eq_false h1
  have hv : rvV r i = none := by
    unfold rvV
    rw [h]
    exact if_neg (fun ⟨c1, c2, c3⟩ => by simp only at c1 c2 c3; omega)
  rw [hv]
  exact ⟨rfl, GG⟩
  cases h2 : decide (n < 1)
  cases h3 : decide (4611686018427387903 < n)
  refine jj ?_
  intro OPS hY
  have y2 := hY 2 19 rfl
  have y6 := hY 6 23 rfl
  clear hY
  refine ja 17 rfl rfl (nK e) (rfl) ?_
  refine ja 18 rfl rfl (vF) (jh 26 .i64 _ _ _ rfl Try.underlying26 ((e : Nat) : Int) 0 rfl rfl false h1 _) ?_
  refine ja 19 rfl rfl (vF) (rfl) ?_
  refine je 20 rfl rfl y2 rfl (.int .u64 ((n : Nat) : Int)) (rfl) ?_
  refine je 21 rfl rfl y2 rfl (vF) (zK 75 75 _ _ rfl n 1 rfl rfl false h2 _) ?_
  refine ja 22 rfl rfl (vF) (rfl) ?_
  refine ja 23 rfl rfl (vF) (rfl) ?_
  refine nr ?_; intro U h; simp only [z0, z1] at h; subst h
  refine je 24 rfl rfl y6 rfl (.int .u64 ((n : Nat) : Int)) (rfl) ?_
  refine je 25 rfl rfl y6 rfl (vF) (jS 75 75 _ _ rfl n 4611686018427387903 rfl rfl false h3 _) ?_
  refine ja 26 rfl rfl (vF) (rfl) ?_
  refine nr ?_; intro U h; simp only [z0, z1] at h; subst h
  refine qL (qF rfl (qK (qS ?_)))
  refine ja 29 rfl rfl (.slice ao r.length cap) (rfl) ?_
  refine ja 30 rfl rfl (nK a) (rfl) ?_
  refine nr ?_; intro U h; simp only [z0, z1] at h; subst h
  refine jy 31 rfl rfl _ 97 Try.call97 rfl rfl _ rfl [.slice ao r.length cap, nK a] rfl (Yo ao cap r _ HR ((a : Nat) : Int) hlen y b f g) ?_
  intro w3 G
  replace kg1 := G.has kg1
  replace HR := HR.gro G
  replace GG := GG.trans G
  clear G
  refine nr ?_; intro U h; simp only [z0, z1] at h; subst h
  refine ja 28 rfl rfl (.tuple #[.agg (idA y), nK b, nK f]) (rfl) ?_
  refine ja 32 rfl rfl (.agg (idA y)) (rfl) ?_
  refine ja 33 rfl rfl (nK b) (rfl) ?_
  refine ja 34 rfl rfl (nK f) (rfl) ?_
  refine nr ?_; intro U h; simp only [z0, z1] at h; subst h
  refine jU 9 rfl rfl 52 rfl _ zero23 (idA 0) rfl ?_
  intro w4 g2 G eg2 kg2
  have bg2 := jk GG eg2
  have dg1g2 := jH kg1 eg2
  have dHRg2 := HR.ne eg2
  replace kg1 := G.has kg1
  replace HR := HR.gro G
  replace GG := GG.trans G
  clear G
  clear eg2
  refine nr ?_; intro U h; simp only [z0, z1] at h; subst h
  refine jt rfl rfl 52 _ _ rfl g2 0 rfl (.agg (idA y)) rfl 52 _ kg2 (idA y) rfl (size23' _) (un _ _) (vB _) (idA y) (jm _ _ (Js _ _)) ?_
  intro w5 St
  replace kg1 := St.has (by omega) kg1
  replace HR := HR.st St dHRg2
  replace GG := GG.store St bg2
  replace kg2 := St.new
  clear St
  refine ja 1 rfl rfl (nK b) (rfl) ?_
  refine ja 8 rfl rfl (nK f) (rfl) ?_
  refine nr ?_; intro U h; simp only [z0, z1] at h; subst h
  refine qL (qE (qE ?_))
  cases h4 : decide (((f : Nat) : Int) = 0)
  refine qG ?_
  refine ja 35 rfl rfl (nK f) (rfl) ?_
  refine ja 36 rfl rfl (vT) (jh 26 .i64 _ _ _ rfl Try.underlying26 ((f : Nat) : Int) 0 rfl rfl true h4 _) ?_
  refine nr ?_; intro U h; simp only [z0, z1] at h; subst h
  refine qL (qT rfl (qS ?_))
  refine ja 37 rfl rfl (.agg (veA zV)) (jN 54 _ rfl [] rfl _ (bdV0 _)) ?_
  refine nr ?_; intro U h; simp only [z0, z1] at h; subst h
  refine jt rfl rfl 54 _ _ rfl g1 0 rfl (.agg (veA zV)) rfl 54 _ kg1 (veA zV) rfl (siVe' _) (vu _ _) (vt _) (veA zV) (jm _ _ (uz _ _)) ?_
  intro w6 St
  replace kg2 := St.has (by omega) kg2
  replace HR := HR.st St dHRg1
  replace GG := GG.store St bg1
  replace kg1 := St.new
  clear St
  refine ja 5 rfl rfl (iK 0) (rfl) ?_
  refine ja 6 rfl rfl (vF) (rfl) ?_
  refine nr ?_; intro U h; simp only [z0, z1] at h; subst h
  refine qL (qR (jr ?_))
  refine bodyPost_ret (ju Try.results98 _ _ g1 54 _ (0, 0) _ rfl (iK 0) (vF) rfl rfl kg1 Try.underlying54 rfl (siVe' _)) rfl ?_
  have ch1 := of_decide_eq_true h1
  have ch2 := of_decide_eq_false h2
  have ch3 := of_decide_eq_false h3
  have ch4 := of_decide_eq_false h4
  have hv : rvV r i = none := by
    unfold rvV
    rw [h]
    simp only
    rw [g, if_pos ⟨by omega, by omega, by omega⟩]
    exact if_neg (by simp only; omega)
  rw [hv]
  exact ⟨rfl, GG⟩
  refine qG ?_
  refine ja 35 rfl rfl (nK f) (rfl) ?_
  refine ja 36 rfl rfl (vF) (jh 26 .i64 _ _ _ rfl Try.underlying26 ((f : Nat) : Int) 0 rfl rfl false h4 _) ?_
  refine nr ?_; intro U h; simp only [z0, z1] at h; subst h
  refine qL (qF rfl (qK (qS ?_)))
  refine ja 38 rfl rfl (.int .u64 ((n : Nat) : Int)) (rfl) ?_
  refine ja 39 rfl rfl (nK n) (convU2 _ rfl n (by have := of_decide_eq_false h3; omega) rfl _) ?_
  refine ja 40 rfl rfl (.agg (idA y)) (ldI0 _ rfl g2 rfl (kg2)) ?_
  refine ja 41 rfl rfl (.agg (veA (mkV ((n : Nat) : Int) y))) (jN 54 _ rfl [(0, nK n), (1, .agg (idA y))] rfl _ (bdV01 ((n : Nat) : Int) y _)) ?_
  refine ja 42 rfl rfl (nK b) (rfl) ?_
  refine nr ?_; intro U h; simp only [z0, z1] at h; subst h
  refine jt rfl rfl 54 _ _ rfl g1 0 rfl (.agg (veA (mkV ((n : Nat) : Int) y))) rfl 54 _ kg1 (veA (mkV ((n : Nat) : Int) y)) rfl (siVe' _) (vu _ _) (vt _) (veA (mkV ((n : Nat) : Int) y)) (jm _ _ (uz _ _)) ?_
  intro w6 St
  replace kg2 := St.has (by omega) kg2
  replace HR := HR.st St dHRg1
  replace GG := GG.store St bg1
  replace kg1 := St.new
  clear St
  refine ja 5 rfl rfl (nK b) (rfl) ?_
  refine ja 6 rfl rfl (vT) (rfl) ?_
  refine nr ?_; intro U h; simp only [z0, z1] at h; subst h
  refine qL (qR ?_)
  refine bodyPost_ret (ju Try.results98 _ _ g1 54 _ (0, 0) _ rfl (nK b) (vT) rfl rfl kg1 Try.underlying54 rfl (siVe' _)) rfl ?_
  have ch1 := of_decide_eq_true h1
  have ch2 := of_decide_eq_false h2
  have ch3 := of_decide_eq_false h3
  have ch4 := of_decide_eq_true h4
  have hv : rvV r i = some (n, y, b) := by
    unfold rvV
    rw [h]
    simp only
    rw [g, if_pos ⟨by omega, by omega, by omega⟩]
    exact if_pos (by simp only; omega)
  rw [hv]
  exact ⟨rfl, GG⟩
  refine jj ?_
  intro OPS hY
  have y2 := hY 2 19 rfl
  have y6 := hY 6 23 rfl
  clear hY
  refine ja 17 rfl rfl (nK e) (rfl) ?_
  refine ja 18 rfl rfl (vF) (jh 26 .i64 _ _ _ rfl Try.underlying26 ((e : Nat) : Int) 0 rfl rfl false h1 _) ?_
  refine ja 19 rfl rfl (vF) (rfl) ?_
  refine je 20 rfl rfl y2 rfl (.int .u64 ((n : Nat) : Int)) (rfl) ?_
  refine je 21 rfl rfl y2 rfl (vF) (zK 75 75 _ _ rfl n 1 rfl rfl false h2 _) ?_
  refine ja 22 rfl rfl (vF) (rfl) ?_
  refine ja 23 rfl rfl (vF) (rfl) ?_
  refine nr ?_; intro U h; simp only [z0, z1] at h; subst h
  refine je 24 rfl rfl y6 rfl (.int .u64 ((n : Nat) : Int)) (rfl) ?_
  refine je 25 rfl rfl y6 rfl (vT) (jS 75 75 _ _ rfl n 4611686018427387903 rfl rfl true h3 _) ?_
  refine ja 26 rfl rfl (vT) (rfl) ?_
  refine nr ?_; intro U h; simp only [z0, z1] at h; subst h
  refine qL (qT rfl (qS ?_))
  refine ja 27 rfl rfl (.agg (veA zV)) (jN 54 _ rfl [] rfl _ (bdV0 _)) ?_
  refine nr ?_; intro U h; simp only [z0, z1] at h; subst h
  refine jt rfl rfl 54 _ _ rfl g1 0 rfl (.agg (veA zV)) rfl 54 _ kg1 (veA zV) rfl (siVe' _) (vu _ _) (vt _) (veA zV) (jm _ _ (uz _ _)) ?_
  intro w3 St
  replace HR := HR.st St dHRg1
  replace GG := GG.store St bg1
  replace kg1 := St.new
  clear St
  refine ja 5 rfl rfl (iK 0) (rfl) ?_
  refine ja 6 rfl rfl (vF) (rfl) ?_
  refine nr ?_; intro U h; simp only [z0, z1] at h; subst h
  refine qL (qR (jr ?_))
  refine bodyPost_ret (ju Try.results98 _ _ g1 54 _ (0, 0) _ rfl (iK 0) (vF) rfl rfl kg1 Try.underlying54 rfl (siVe' _)) rfl ?_
  have ch1 := of_decide_eq_true h1
  have ch2 := of_decide_eq_false h2
  have ch3 := of_decide_eq_true h3
  have hv : rvV r i = none := by
    unfold rvV
    rw [h]
    exact if_neg (fun ⟨c1, c2, c3⟩ => by simp only at c1 c2 c3; omega)
  rw [hv]
  exact ⟨rfl, GG⟩
  refine jj ?_
  intro OPS hY
  have y2 := hY 2 19 rfl
  have y6 := hY 6 23 rfl
  clear hY
  refine ja 17 rfl rfl (nK e) (rfl) ?_
  refine ja 18 rfl rfl (vF) (jh 26 .i64 _ _ _ rfl Try.underlying26 ((e : Nat) : Int) 0 rfl rfl false h1 _) ?_
  refine ja 19 rfl rfl (vF) (rfl) ?_
  refine je 20 rfl rfl y2 rfl (.int .u64 ((n : Nat) : Int)) (rfl) ?_
  refine je 21 rfl rfl y2 rfl (vT) (zK 75 75 _ _ rfl n 1 rfl rfl true h2 _) ?_
  refine ja 22 rfl rfl (vT) (rfl) ?_
  refine ja 23 rfl rfl (vT) (rfl) ?_
  refine nr ?_; intro U h; simp only [z0, z1] at h; subst h
  refine jo 24 rfl rfl y6 rfl ?_
  refine jo 25 rfl rfl y6 rfl ?_
  refine ja 26 rfl rfl (vT) (rfl) ?_
  refine nr ?_; intro U h; simp only [z0, z1] at h; subst h
  refine qL (qT rfl (qS ?_))
  refine ja 27 rfl rfl (.agg (veA zV)) (jN 54 _ rfl [] rfl _ (bdV0 _)) ?_
  refine nr ?_; intro U h; simp only [z0, z1] at h; subst h
  refine jt rfl rfl 54 _ _ rfl g1 0 rfl (.agg (veA zV)) rfl 54 _ kg1 (veA zV) rfl (siVe' _) (vu _ _) (vt _) (veA zV) (jm _ _ (uz _ _)) ?_
  intro w3 St
  replace HR := HR.st St dHRg1
  replace GG := GG.store St bg1
  replace kg1 := St.new
  clear St
  refine ja 5 rfl rfl (iK 0) (rfl) ?_
  refine ja 6 rfl rfl (vF) (rfl) ?_
  refine nr ?_; intro U h; simp only [z0, z1] at h; subst h
  refine qL (qR (jr ?_))
  refine bodyPost_ret (ju Try.results98 _ _ g1 54 _ (0, 0) _ rfl (iK 0) (vF) rfl rfl kg1 Try.underlying54 rfl (siVe' _)) rfl ?_
  have ch1 := of_decide_eq_true h1
  have ch2 := of_decide_eq_true h2
  have hv : rvV r i = none := by
    unfold rvV
    rw [h]
    exact if_neg (fun ⟨c1, c2, c3⟩ => by simp only at c1 c2 c3; omega)
  rw [hv]
  exact ⟨rfl, GG⟩
theorem uW (w : World) (ao : Option Addr) (cap : Nat) (r : List Nat) (HR : NC w .u8 ao cap r) (hlen : r.length ≤ 140737488355000) (i : Int) : Calls Try.prog 80 #[.slice ao r.length cap, iK i] w (RiP w (riV r i)) := by
  obtain ⟨y, a, e, h⟩ := tri (getV r i)
  cases hv : rvV r ((a : Nat) : Int) with
  | none =>
    refine js Try.func80 rfl Try.ntmps80 [.slice ao r.length cap, iK i] [.slice ao r.length cap, iK i, uD, uD, uD, uD, uD, uD, uD, uD, uD, uD, uD, uD, uD, uD, uD, uD, uD, uD, uD, uD, uD, uD, uD, uD, uD, uD, uD, uD, uD, uD, uD, uD, uD, uD, uD, uD, uD, uD, uD, uD, uD, uD, uD, uD, uD, uD, uD, uD, uD, uD] rfl ?_
    have GG := Gro.refl w
    refine qS ?_
    refine jU 4 rfl rfl 56 rfl _ zeroIt (itA zM) rfl ?_
    intro w1 g1 G eg1 kg1
    have bg1 := jk GG eg1
    have dHRg1 := HR.ne eg1
    replace HR := HR.gro G
    replace GG := GG.trans G
    clear G
    clear eg1
    refine nr ?_; intro U h; simp only [z0, z1] at h; subst h
    refine ja 5 rfl rfl (vF) (rfl) ?_
    refine nr ?_; intro U h; simp only [z0, z1] at h; subst h
    refine qA ?_
    refine ja 13 rfl rfl (.slice ao r.length cap) (rfl) ?_
    refine ja 14 rfl rfl (iK i) (rfl) ?_
    refine nr ?_; intro U h; simp only [z0, z1] at h; subst h
    refine jy 15 rfl rfl _ 97 Try.call97 rfl rfl _ rfl [.slice ao r.length cap, iK i] rfl (Yo ao cap r _ HR i hlen y a e h) ?_
    intro w2 G
    replace kg1 := G.has kg1
    replace HR := HR.gro G
    replace GG := GG.trans G
    clear G
    refine nr ?_; intro U h; simp only [z0, z1] at h; subst h
    refine ja 12 rfl rfl (.tuple #[.agg (idA y), nK a, nK e]) (rfl) ?_
    refine ja 16 rfl rfl (.agg (idA y)) (rfl) ?_
    refine ja 17 rfl rfl (nK a) (rfl) ?_
    refine ja 18 rfl rfl (nK e) (rfl) ?_
    refine nr ?_; intro U h; simp only [z0, z1] at h; subst h
    refine jU 6 rfl rfl 52 rfl _ zero23 (idA 0) rfl ?_
    intro w3 g2 G eg2 kg2
    have bg2 := jk GG eg2
    have dg1g2 := jH kg1 eg2
    have dHRg2 := HR.ne eg2
    replace kg1 := G.has kg1
    replace HR := HR.gro G
    replace GG := GG.trans G
    clear G
    clear eg2
    refine nr ?_; intro U h; simp only [z0, z1] at h; subst h
    refine jt rfl rfl 52 _ _ rfl g2 0 rfl (.agg (idA y)) rfl 52 _ kg2 (idA y) rfl (size23' _) (un _ _) (vB _) (idA y) (jm _ _ (Js _ _)) ?_
    intro w4 St
    replace kg1 := St.has (by omega) kg1
    replace HR := HR.st St dHRg2
    replace GG := GG.store St bg2
    replace kg2 := St.new
    clear St
    refine ja 1 rfl rfl (nK a) (rfl) ?_
    refine ja 7 rfl rfl (nK e) (rfl) ?_
    refine nr ?_; intro U h; simp only [z0, z1] at h; subst h
    refine qL (qE (qE ?_))
    cases h1 : decide (((e : Nat) : Int) = 0)
    refine qG ?_
    refine ja 19 rfl rfl (nK e) (rfl) ?_
    refine ja 20 rfl rfl (vT) (jh 26 .i64 _ _ _ rfl Try.underlying26 ((e : Nat) : Int) 0 rfl rfl true h1 _) ?_
    refine nr ?_; intro U h; simp only [z0, z1] at h; subst h
    refine qL (qT rfl (qS ?_))
    refine ja 21 rfl rfl (.agg (itA zM)) (jN 56 _ rfl [] rfl _ (bdI0 _)) ?_
    refine nr ?_; intro U h; simp only [z0, z1] at h; subst h
    refine jt rfl rfl 56 _ _ rfl g1 0 rfl (.agg (itA zM)) rfl 56 _ kg1 (itA zM) rfl (siIt' _) (jT _ _) (jQ _) (itA zM) (jm _ _ (jZ _ _)) ?_
    intro w5 St
    replace kg2 := St.has (by omega) kg2
    replace HR := HR.st St dHRg1
    replace GG := GG.store St bg1
    replace kg1 := St.new
    clear St
    refine ja 5 rfl rfl (vF) (rfl) ?_
    refine nr ?_; intro U h; simp only [z0, z1] at h; subst h
    refine qL (qR (jr ?_))
    refine bodyPost_ret (za Try.results80 _ _ g1 56 _ (0, 0) _ rfl (vF) rfl kg1 Try.underlying56 rfl (siIt' _)) rfl ?_
    have ch1 := of_decide_eq_false h1
    have hr : riV r i = none := by
      unfold riV
      rw [h]
      exact if_neg (by simp only; omega)
    rw [hr]
    exact ⟨rfl, GG⟩
    refine qG ?_
    refine ja 19 rfl rfl (nK e) (rfl) ?_
    refine ja 20 rfl rfl (vF) (jh 26 .i64 _ _ _ rfl Try.underlying26 ((e : Nat) : Int) 0 rfl rfl false h1 _) ?_
    refine nr ?_; intro U h; simp only [z0, z1] at h; subst h
    refine qL (qF rfl (qK (qS ?_)))
    refine ja 23 rfl rfl (.slice ao r.length cap) (rfl) ?_
    refine ja 24 rfl rfl (nK a) (rfl) ?_
    refine nr ?_; intro U h; simp only [z0, z1] at h; subst h
    refine jy 25 rfl rfl _ 98 Try.call98 rfl rfl _ rfl [.slice ao r.length cap, nK a] rfl ((Jx _ ao cap r HR hlen ((a : Nat) : Int)).mono fun e w' H => by rw [hv] at H; exact H) ?_
    intro w5 G
    replace kg1 := G.has kg1
    replace kg2 := G.has kg2
    replace HR := HR.gro G
    replace GG := GG.trans G
    clear G
    refine nr ?_; intro U h; simp only [z0, z1] at h; subst h
    refine ja 22 rfl rfl (.tuple #[.agg (veA zV), iK 0, vF]) (rfl) ?_
    refine ja 26 rfl rfl (.agg (veA zV)) (rfl) ?_
    refine ja 27 rfl rfl (iK 0) (rfl) ?_
    refine ja 28 rfl rfl (vF) (rfl) ?_
    refine nr ?_; intro U h; simp only [z0, z1] at h; subst h
    refine jU 8 rfl rfl 54 rfl _ zeroVe (veA zV) rfl ?_
    intro w6 g3 G eg3 kg3
    have bg3 := jk GG eg3
    have dg1g3 := jH kg1 eg3
    have dg2g3 := jH kg2 eg3
    have dHRg3 := HR.ne eg3
    replace kg1 := G.has kg1
    replace kg2 := G.has kg2
    replace HR := HR.gro G
    replace GG := GG.trans G
    clear G
    clear eg3
    refine nr ?_; intro U h; simp only [z0, z1] at h; subst h
    refine jt rfl rfl 54 _ _ rfl g3 0 rfl (.agg (veA zV)) rfl 54 _ kg3 (veA zV) rfl (siVe' _) (vu _ _) (vt _) (veA zV) (jm _ _ (uz _ _)) ?_
    intro w7 St
    replace kg1 := St.has (by omega) kg1
    replace kg2 := St.has (by omega) kg2
    replace HR := HR.st St dHRg3
    replace GG := GG.store St bg3
    replace kg3 := St.new
    clear St
    refine ja 1 rfl rfl (iK 0) (rfl) ?_
    refine ja 9 rfl rfl (vF) (rfl) ?_
    refine nr ?_; intro U h; simp only [z0, z1] at h; subst h
    refine qL (qE (qS ?_))
    refine ja 29 rfl rfl (vF) (rfl) ?_
    refine ja 30 rfl rfl (vT) (zi _ _ rfl false rfl) ?_
    refine nr ?_; intro U h; simp only [z0, z1] at h; subst h
    refine qL (qT rfl (qS ?_))
    refine ja 31 rfl rfl (.agg (itA zM)) (jN 56 _ rfl [] rfl _ (bdI0 _)) ?_
    refine nr ?_; intro U h; simp only [z0, z1] at h; subst h
    refine jt rfl rfl 56 _ _ rfl g1 0 rfl (.agg (itA zM)) rfl 56 _ kg1 (itA zM) rfl (siIt' _) (jT _ _) (jQ _) (itA zM) (jm _ _ (jZ _ _)) ?_
    intro w8 St
    replace kg2 := St.has (by omega) kg2
    replace kg3 := St.has (by omega) kg3
    replace HR := HR.st St dHRg1
    replace GG := GG.store St bg1
    replace kg1 := St.new
    clear St
    refine ja 5 rfl rfl (vF) (rfl) ?_
    refine nr ?_; intro U h; simp only [z0, z1] at h; subst h
    refine qL (qR (jr ?_))
    refine bodyPost_ret (za Try.results80 _ _ g1 56 _ (0, 0) _ rfl (vF) rfl kg1 Try.underlying56 rfl (siIt' _)) rfl ?_
    have ch1 := of_decide_eq_true h1
    have hr : riV r i = none := by
      unfold riV
      rw [h]
      simp only
      rw [hv, if_pos (by omega)]
    rw [hr]
    exact ⟨rfl, GG⟩
  | some v =>
    obtain ⟨n, z, b, rfl⟩ := tri v
    obtain ⟨t, c, f, g⟩ := tri (getT r ((b : Nat) : Int) 64)
    refine js Try.func80 rfl Try.ntmps80 [.slice ao r.length cap, iK i] [.slice ao r.length cap, iK i, uD, uD, uD, uD, uD, uD, uD, uD, uD, uD, uD, uD, uD, uD, uD, uD, uD, uD, uD, uD, uD, uD, uD, uD, uD, uD, uD, uD, uD, uD, uD, uD, uD, uD, uD, uD, uD, uD, uD, uD, uD, uD, uD, uD, uD, uD, uD, uD, uD, uD] rfl ?_
    have GG := Gro.refl w
    refine qS ?_
    refine jU 4 rfl rfl 56 rfl _ zeroIt (itA zM) rfl ?_
    intro w1 g1 G eg1 kg1
    have bg1 := jk GG eg1
    have dHRg1 := HR.ne eg1
    replace HR := HR.gro G
    replace GG := GG.trans G
    clear G
    clear eg1
    refine nr ?_; intro U h; simp only [z0, z1] at h; subst h
    refine ja 5 rfl rfl (vF) (rfl) ?_
    refine nr ?_; intro U h; simp only [z0, z1] at h; subst h
    refine qA ?_
    refine ja 13 rfl rfl (.slice ao r.length cap) (rfl) ?_
    refine ja 14 rfl rfl (iK i) (rfl) ?_
    refine nr ?_; intro U h; simp only [z0, z1] at h; subst h
    refine jy 15 rfl rfl _ 97 Try.call97 rfl rfl _ rfl [.slice ao r.length cap, iK i] rfl (Yo ao cap r _ HR i hlen y a e h) ?_
    intro w2 G
    replace kg1 := G.has kg1
    replace HR := HR.gro G
    replace GG := GG.trans G
    clear G
    refine nr ?_; intro U h; simp only [z0, z1] at h; subst h
    refine ja 12 rfl rfl (.tuple #[.agg (idA y), nK a, nK e]) (rfl) ?_
    refine ja 16 rfl rfl (.agg (idA y)) (rfl) ?_
    refine ja 17 rfl rfl (nK a) (rfl) ?_
    refine ja 18 rfl rfl (nK e) (rfl) ?_
    refine nr ?_; intro U h; simp only [z0, z1] at h; subst h
    refine jU 6 rfl rfl 52 rfl _ zero23 (idA 0) rfl ?_
    intro w3 g2 G eg2 kg2
    have bg2 := jk GG eg2
    have dg1g2 := jH kg1 eg2
    have dHRg2 := HR.ne eg2
    replace kg1 := G.has kg1
    replace HR := HR.gro G
    replace GG := GG.trans G
    clear G
    clear eg2
    refine nr ?_; intro U h; simp only [z0, z1] at h; subst h
    refine jt rfl rfl 52 _ _ rfl g2 0 rfl (.agg (idA y)) rfl 52 _ kg2 (idA y) rfl (size23' _) (un _ _) (vB _) (idA y) (jm _ _ (Js _ _)) ?_
    intro w4 St
    replace kg1 := St.has (by omega) kg1
    replace HR := HR.st St dHRg2
    replace GG := GG.store St bg2
    replace kg2 := St.new
    clear St
    refine ja 1 rfl rfl (nK a) (rfl) ?_
    refine ja 7 rfl rfl (nK e) (rfl) ?_
    refine nr ?_; intro U h; simp only [z0, z1] at h; subst h
    refine qL (qE (qE ?_))
    cases h1 : decide (((e : Nat) : Int) = 0)
    refine qG ?_
    refine ja 19 rfl rfl (nK e) (rfl) ?_
    refine ja 20 rfl rfl (vT) (jh 26 .i64 _ _ _ rfl Try.underlying26 ((e : Nat) : Int) 0 rfl rfl true h1 _) ?_
    refine nr ?_; intro U h; simp only [z0, z1] at h; subst h
    refine qL (qT rfl (qS ?_))
    refine ja 21 rfl rfl (.agg (itA zM)) (jN 56 _ rfl [] rfl _ (bdI0 _)) ?_
    refine nr ?_; intro U h; simp only [z0, z1] at h; subst h
    refine jt rfl rfl 56 _ _ rfl g1 0 rfl (.agg (itA zM)) rfl 56 _ kg1 (itA zM) rfl (siIt' _) (jT _ _) (jQ _) (itA zM) (jm _ _ (jZ _ _)) ?_
    intro w5 St
    replace kg2 := St.has (by omega) kg2
    replace HR := HR.st St dHRg1
    replace GG := GG.store St bg1
    replace kg1 := St.new
    clear St
    refine ja 5 rfl rfl (vF) (rfl) ?_
    refine nr ?_; intro U h; simp only [z0, z1] at h; subst h
    refine qL (qR (jr ?_))
    refine bodyPost_ret (za Try.results80 _ _ g1 56 _ (0, 0) _ rfl (vF) rfl kg1 Try.underlying56 rfl (siIt' _)) rfl ?_
    have ch1 := of_decide_eq_false h1
    have hr : riV r i = none := by
      unfold riV
      rw [h]
      exact if_neg (by simp only; omega)
    rw [hr]
    exact ⟨rfl, GG⟩
    refine qG ?_
    refine ja 19 rfl rfl (nK e) (rfl) ?_
    refine ja 20 rfl rfl (vF) (jh 26 .i64 _ _ _ rfl Try.underlying26 ((e : Nat) : Int) 0 rfl rfl false h1 _) ?_
    refine nr ?_; intro U h; simp only [z0, z1] at h; subst h
    refine qL (qF rfl (qK (qS ?_)))
    refine ja 23 rfl rfl (.slice ao r.length cap) (rfl) ?_
    refine ja 24 rfl rfl (nK a) (rfl) ?_
    refine nr ?_; intro U h; simp only [z0, z1] at h; subst h
    refine jy 25 rfl rfl _ 98 Try.call98 rfl rfl _ rfl [.slice ao r.length cap, nK a] rfl ((Jx _ ao cap r HR hlen ((a : Nat) : Int)).mono fun e w' H => by rw [hv] at H; exact H) ?_
    intro w5 G
    replace kg1 := G.has kg1
    replace kg2 := G.has kg2
    replace HR := HR.gro G
    replace GG := GG.trans G
    clear G
    refine nr ?_; intro U h; simp only [z0, z1] at h; subst h
    refine ja 22 rfl rfl (.tuple #[.agg (veA (mkV ((n : Nat) : Int) z)), nK b, vT]) (rfl) ?_
    refine ja 26 rfl rfl (.agg (veA (mkV ((n : Nat) : Int) z))) (rfl) ?_
    refine ja 27 rfl rfl (nK b) (rfl) ?_
    refine ja 28 rfl rfl (vT) (rfl) ?_
    refine nr ?_; intro U h; simp only [z0, z1] at h; subst h
    refine jU 8 rfl rfl 54 rfl _ zeroVe (veA zV) rfl ?_
    intro w6 g3 G eg3 kg3
    have bg3 := jk GG eg3
    have dg1g3 := jH kg1 eg3
    have dg2g3 := jH kg2 eg3
    have dHRg3 := HR.ne eg3
    replace kg1 := G.has kg1
    replace kg2 := G.has kg2
    replace HR := HR.gro G
    replace GG := GG.trans G
    clear G
    clear eg3
    refine nr ?_; intro U h; simp only [z0, z1] at h; subst h
    refine jt rfl rfl 54 _ _ rfl g3 0 rfl (.agg (veA (mkV ((n : Nat) : Int) z))) rfl 54 _ kg3 (veA (mkV ((n : Nat) : Int) z)) rfl (siVe' _) (vu _ _) (vt _) (veA (mkV ((n : Nat) : Int) z)) (jm _ _ (uz _ _)) ?_
    intro w7 St
    replace kg1 := St.has (by omega) kg1
    replace kg2 := St.has (by omega) kg2
    replace HR := HR.st St dHRg3
    replace GG := GG.store St bg3
    replace kg3 := St.new
    clear St
    refine ja 1 rfl rfl (nK b) (rfl) ?_
    refine ja 9 rfl rfl (vT) (rfl) ?_
    refine nr ?_; intro U h; simp only [z0, z1] at h; subst h
    refine qL (qE (qS ?_))
    refine ja 29 rfl rfl (vT) (rfl) ?_
    refine ja 30 rfl rfl (vF) (zi _ _ rfl true rfl) ?_
    refine nr ?_; intro U h; simp only [z0, z1] at h; subst h
    refine qL (qF rfl (qK (qS ?_)))
    refine ja 33 rfl rfl (.slice ao r.length cap) (rfl) ?_
    refine ja 34 rfl rfl (nK b) (rfl) ?_
    refine nr ?_; intro U h; simp only [z0, z1] at h; subst h
    refine jx 35 rfl rfl _ 99 Try.call99 rfl rfl _ rfl [.slice ao r.length cap, nK b, iK 64] rfl (QT ao cap r _ HR ((b : Nat) : Int) hlen t c f g) (by rintro _ _ ⟨_, _, he, _, _⟩; exact ⟨_, he⟩) ?_
    have lzg1 := ji kg1
    have lzg2 := ji kg2
    have lzg3 := ji kg3
    rintro v w8 ⟨ao1, cap1, he, G, HO1⟩
    cases he
    have dHO1g1 := HO1.neB lzg1
    have dHO1g2 := HO1.neB lzg2
    have dHO1g3 := HO1.neB lzg3
    replace HO1 := HO1.mono GG.size
    replace kg1 := G.has kg1
    replace kg2 := G.has kg2
    replace kg3 := G.has kg3
    replace HR := HR.gro G
    replace GG := GG.trans G
    clear G
    refine nr ?_; intro U h; simp only [z0, z1] at h; subst h
    refine ja 32 rfl rfl (.tuple #[.slice ao1 t.length cap1, nK c, nK f]) (rfl) ?_
    refine ja 36 rfl rfl (.slice ao1 t.length cap1) (rfl) ?_
    refine ja 37 rfl rfl (nK c) (rfl) ?_
    refine ja 38 rfl rfl (nK f) (rfl) ?_
    refine ja 10 rfl rfl (.slice ao1 t.length cap1) (rfl) ?_
    refine ja 11 rfl rfl (nK c) (rfl) ?_
    refine ja 7 rfl rfl (nK f) (rfl) ?_
    refine nr ?_; intro U h; simp only [z0, z1] at h; subst h
    refine qL (qE (qE ?_))
    cases h2 : decide (((f : Nat) : Int) = 0)
    refine jj ?_
    intro OPS hY
    have y2 := hY 2 41 rfl
    clear hY
    refine ja 39 rfl rfl (nK f) (rfl) ?_
    refine ja 40 rfl rfl (vT) (jh 26 .i64 _ _ _ rfl Try.underlying26 ((f : Nat) : Int) 0 rfl rfl true h2 _) ?_
    refine ja 41 rfl rfl (vT) (rfl) ?_
    refine jo 42 rfl rfl y2 rfl ?_
    refine jo 43 rfl rfl y2 rfl ?_
    refine jo 44 rfl rfl y2 rfl ?_
    refine jo 45 rfl rfl y2 rfl ?_
    refine nr ?_; intro U h; simp only [z0, z1] at h; subst h
    refine ja 46 rfl rfl (vT) (rfl) ?_
    refine nr ?_; intro U h; simp only [z0, z1] at h; subst h
    refine qL (qT rfl (qS ?_))
    refine ja 47 rfl rfl (.agg (itA zM)) (jN 56 _ rfl [] rfl _ (bdI0 _)) ?_
    refine nr ?_; intro U h; simp only [z0, z1] at h; subst h
    refine jt rfl rfl 56 _ _ rfl g1 0 rfl (.agg (itA zM)) rfl 56 _ kg1 (itA zM) rfl (siIt' _) (jT _ _) (jQ _) (itA zM) (jm _ _ (jZ _ _)) ?_
    intro w9 St
    replace kg2 := St.has (by omega) kg2
    replace kg3 := St.has (by omega) kg3
    replace HR := HR.st St dHRg1
    replace HO1 := HO1.st St dHO1g1
    replace GG := GG.store St bg1
    replace kg1 := St.new
    clear St
    refine ja 5 rfl rfl (vF) (rfl) ?_
    refine nr ?_; intro U h; simp only [z0, z1] at h; subst h
    refine qL (qR (jr ?_))
    refine bodyPost_ret (za Try.results80 _ _ g1 56 _ (0, 0) _ rfl (vF) rfl kg1 Try.underlying56 rfl (siIt' _)) rfl ?_
    have ch1 := of_decide_eq_true h1
    have ch2 := of_decide_eq_false h2
    have hr : riV r i = none := by
      unfold riV
      rw [h]
      simp only
      rw [hv, if_pos (by omega)]
      simp only
      rw [g]
      exact if_neg (fun ⟨c1, c2⟩ => by simp only at c1 c2; omega)
    rw [hr]
    exact ⟨rfl, GG⟩
    cases h3 : decide (((c : Nat) : Int) = ((r.length : Nat) : Int))
    refine jj ?_
    intro OPS hY
    have y2 := hY 2 41 rfl
    clear hY
    refine ja 39 rfl rfl (nK f) (rfl) ?_
    refine ja 40 rfl rfl (vF) (jh 26 .i64 _ _ _ rfl Try.underlying26 ((f : Nat) : Int) 0 rfl rfl false h2 _) ?_
    refine ja 41 rfl rfl (vF) (rfl) ?_
    refine je 42 rfl rfl y2 rfl (nK c) (rfl) ?_
    refine je 43 rfl rfl y2 rfl (.slice ao r.length cap) (rfl) ?_
    refine je 44 rfl rfl y2 rfl (nK r.length) (jA Try.underlying30 _ rfl _ _ _ rfl _) ?_
    refine je 45 rfl rfl y2 rfl (vT) (jh 3 .i64 _ _ _ rfl Try.underlying3 ((c : Nat) : Int) ((r.length : Nat) : Int) rfl rfl true h3 _) ?_
    refine nr ?_; intro U h; simp only [z0, z1] at h; subst h
    refine ja 46 rfl rfl (vT) (rfl) ?_
    refine nr ?_; intro U h; simp only [z0, z1] at h; subst h
    refine qL (qT rfl (qS ?_))
    refine ja 47 rfl rfl (.agg (itA zM)) (jN 56 _ rfl [] rfl _ (bdI0 _)) ?_
    refine nr ?_; intro U h; simp only [z0, z1] at h; subst h
    refine jt rfl rfl 56 _ _ rfl g1 0 rfl (.agg (itA zM)) rfl 56 _ kg1 (itA zM) rfl (siIt' _) (jT _ _) (jQ _) (itA zM) (jm _ _ (jZ _ _)) ?_
    intro w9 St
    replace kg2 := St.has (by omega) kg2
    replace kg3 := St.has (by omega) kg3
    replace HR := HR.st St dHRg1
    replace HO1 := HO1.st St dHO1g1
    replace GG := GG.store St bg1
    replace kg1 := St.new
    clear St
    refine ja 5 rfl rfl (vF) (rfl) ?_
    refine nr ?_; intro U h; simp only [z0, z1] at h; subst h
    refine qL (qR (jr ?_))
    refine bodyPost_ret (za Try.results80 _ _ g1 56 _ (0, 0) _ rfl (vF) rfl kg1 Try.underlying56 rfl (siIt' _)) rfl ?_
    have ch1 := of_decide_eq_true h1
    have ch2 := of_decide_eq_true h2
    have ch3 := of_decide_eq_false h3
    have hr : riV r i = none := by
      unfold riV
      rw [h]
      simp only
      rw [hv, if_pos (by omega)]
      simp only
      rw [g]
      exact if_neg (fun ⟨c1, c2⟩ => by simp only at c1 c2; omega)
    rw [hr]
    exact ⟨rfl, GG⟩
    refine jj ?_
    intro OPS hY
    have y2 := hY 2 41 rfl
    clear hY
    refine ja 39 rfl rfl (nK f) (rfl) ?_
    refine ja 40 rfl rfl (vF) (jh 26 .i64 _ _ _ rfl Try.underlying26 ((f : Nat) : Int) 0 rfl rfl false h2 _) ?_
    refine ja 41 rfl rfl (vF) (rfl) ?_
    refine je 42 rfl rfl y2 rfl (nK c) (rfl) ?_
    refine je 43 rfl rfl y2 rfl (.slice ao r.length cap) (rfl) ?_
    refine je 44 rfl rfl y2 rfl (nK r.length) (jA Try.underlying30 _ rfl _ _ _ rfl _) ?_
    refine je 45 rfl rfl y2 rfl (vF) (jh 3 .i64 _ _ _ rfl Try.underlying3 ((c : Nat) : Int) ((r.length : Nat) : Int) rfl rfl false h3 _) ?_
    refine nr ?_; intro U h; simp only [z0, z1] at h; subst h
    refine ja 46 rfl rfl (vF) (rfl) ?_
    refine nr ?_; intro U h; simp only [z0, z1] at h; subst h
    refine qL (qF rfl (qK (qS ?_)))
    refine ja 48 rfl rfl (.agg (idA y)) (ldI0 _ rfl g2 rfl (kg2)) ?_
    refine ja 49 rfl rfl (.agg (veA (mkV ((n : Nat) : Int) z))) (ldVe0 _ rfl g3 rfl (kg3)) ?_
    refine ja 50 rfl rfl (.slice ao1 t.length cap1) (rfl) ?_
    refine ja 51 rfl rfl (.agg (itA (mkI y (mkV ((n : Nat) : Int) z) ao1 cap1 t))) (jN 56 _ rfl [(0, .agg (idA y)), (1, .agg (veA (mkV ((n : Nat) : Int) z))), (2, .slice ao1 t.length cap1)] rfl _ (bdI012 y (mkV ((n : Nat) : Int) z) ao1 cap1 t _)) ?_
    refine nr ?_; intro U h; simp only [z0, z1] at h; subst h
    refine jt rfl rfl 56 _ _ rfl g1 0 rfl (.agg (itA (mkI y (mkV ((n : Nat) : Int) z) ao1 cap1 t))) rfl 56 _ kg1 (itA (mkI y (mkV ((n : Nat) : Int) z) ao1 cap1 t)) rfl (siIt' _) (jT _ _) (jQ _) (itA (mkI y (mkV ((n : Nat) : Int) z) ao1 cap1 t)) (jm _ _ (jZ _ _)) ?_
    intro w9 St
    replace kg2 := St.has (by omega) kg2
    replace kg3 := St.has (by omega) kg3
    replace HR := HR.st St dHRg1
    replace HO1 := HO1.st St dHO1g1
    replace GG := GG.store St bg1
    replace kg1 := St.new
    clear St
    refine ja 5 rfl rfl (vT) (rfl) ?_
    refine nr ?_; intro U h; simp only [z0, z1] at h; subst h
    refine qL (qR ?_)
    refine bodyPost_ret (za Try.results80 _ _ g1 56 _ (0, 0) _ rfl (vT) rfl kg1 Try.underlying56 rfl (siIt' _)) rfl ?_
    have ch1 := of_decide_eq_true h1
    have ch2 := of_decide_eq_true h2
    have ch3 := of_decide_eq_true h3
    have hr : riV r i = some ⟨y, n, z, t⟩ := by
      unfold riV
      rw [h]
      simp only
      rw [hv, if_pos (by omega)]
      simp only
      rw [g]
      exact if_pos ⟨by simp only; omega, by simp only; omega⟩
    rw [hr]
    exact ⟨_, _, rfl, GG, HO1⟩
end Go.Proofs.Ytgfnjekpafempaa
