/- A record is appended. -/
import Derived.Test.YtgfnjekpafempaaGE5
import Derived.Test.YtgfnjekpafempaaGAb
namespace Go.Proofs.Ytgfnjekpafempaa
set_option maxHeartbeats 4000000
set_option maxRecDepth 100000
open Go.RowKit
theorem yf {P : Program} {o : Oper} {A : Act} (t t2 : TypeId) (x y : Operand) (ho : o.op = .binOp .add t x y t2) (a b : Nat) (hx : A.eval x = .int .u64 (a : Int)) (hy : A.eval y = .int .u64 (b : Int)) (h : a + b < lim) (w : World) : (execOp A.eval o).run P w = .ok (.value (.int .u64 ((a + b : Nat) : Int))) w := by
  refine jD .add t x y t2 ho _ _ _ hx hy (by simp [eqGuard]) ?_
  have e : IntKind.u64.wrap ((a : Int) + (b : Int)) = ((a + b : Nat) : Int) := by
    have : lim = 18446744073709551616 := rfl
    simp [IntKind.wrap, IntKind.bits, IntKind.signed]
    omega
  show (Op.intArith .add .u64 (a : Int) (b : Int)).run P w = _
  unfold Op.intArith
  simp only [Sem.run_pure]
  exact congrArg (fun z => Result.ok (Value.int .u64 z) w) e
theorem apF {pw pj : Int} {j k : Nat} (h : PJ pw j pj) (hj : j ≤ k) (h0 : pj = 0) : apOK pw k = false ∧ apT pw k = j ∧ apP pw k = 0 := by
  unfold PJ at h
  have h1 : pw ≠ -1 := by omega
  have h2 : ¬ ((k : Int) < pw) := by omega
  refine ⟨decide_eq_false (by omega), ?_, ?_⟩
  · rw [apT, if_neg h1]; omega
  · rw [apP, if_neg h1, if_neg h2]
theorem apS {pw pj : Int} {k : Nat} (h : PJ pw k pj) (h0 : pj ≠ 0) : apOK pw k = true ∧ apP pw k = if pj = -1 then -1 else pj - 1 := by
  unfold PJ at h
  refine ⟨decide_eq_true (by omega), ?_⟩
  unfold apP
  rcases h with ⟨h1, h2⟩ | ⟨h1, h2⟩
  · rw [if_pos h1, if_pos h2]
  · rw [if_neg (by omega), if_pos (by omega), if_neg (by omega)]
    omega
theorem Zd (l : List Nat) : (recW l).take (secN l.length * 64) = recW l := List.take_of_length_le (by rw [zG]; exact Nat.le_refl _)
def allE (B : Nat) : PostE := PostE.ex (fun v w => ∃ g, v = .pointer (some ⟨g, 0, none⟩) ∧ B ≤ g ∧ w.heap[g]? = some (.cells (c119 0 0 0) 119 (0, 0))) (fun _ _ _ G ⟨g, h, b, k⟩ => ⟨g, h, b, G.has k⟩)
theorem jbp (n : Nat) (v : Value) : (allE n).fill v = v := rfl
theorem jcd {ops : Array Oper} {o : Oper} {A : Act} {w : World} {B : Nat} (hw : Region.wanted o (yielded ops A.tmps) = true) (ho : o.op = .alloc 119) (hB : B ≤ w.heap.size) : OpE Try.prog ops (allE B) o A w := by
  have hr : (execOp A.eval o).run Try.prog w = .ok (.value (.pointer (some ⟨w.heap.size, 0, none⟩))) (w.alloc (.cells (c119 0 0 0) 119)) := by
    exact yB 119 ho (.agg (c119 0 0 0)) zv119
  exact UF (allE B) hw hr (zq _ _) ⟨_, rfl, hB, heap_alloc_new _ _⟩
def AppendP (w : World) (lp p sg n : Nat) (L : List Nat) (pw dn : Int) (h : Hd) (l : List Nat) (e : Ending) (w' : World) : Prop :=
  ∃ dn', e = .returned (.int .i64 (bif apOK pw (secN l.length) then 0 else 8)) ∧ GroS [p, sg, lp] w w' ∧ dn ≤ dn' ∧ dn' ≤ dn + 20 ∧ DK w' p sg n (apL L pw h l) (apP pw (secN l.length)) dn' ∧ LK w' lp p (apH pw h l) (!apOK pw (secN l.length))
theorem JE (w : World) (lp p : Nat) (h : Hd) (HK : LK w lp p h true) (ao : Option Addr) (cap : Nat) (l : List Nat) : Calls Try.prog 39 #[vP lp 0, .slice ao l.length cap] w fun e w' => e = .returned (iK 8) ∧ Gro w w' := by
  refine js Try.func39 rfl Try.ntmps39 [vP lp 0, .slice ao l.length cap] [vP lp 0, .slice ao l.length cap, uD, uD, uD, uD, uD, uD, uD, uD, uD, uD, uD, uD, uD, uD, uD, uD, uD, uD, uD, uD, uD, uD, uD, uD, uD, uD, uD, uD, uD, uD, uD, uD, uD, uD, uD, uD, uD, uD, uD, uD, uD, uD, uD, uD, uD, uD, uD, uD, uD, uD, uD, uD, uD, uD, uD, uD, uD, uD, uD, uD, uD, uD, uD, uD, uD, uD, uD, uD, uD, uD, uD, uD, uD, uD, uD, uD, uD, uD, uD, uD, uD] rfl ?_
  have GG := Gro.refl w
  have klp := HK.box
  have hllp := ji klp
  refine qS ?_
  refine ja 4 rfl rfl (iK 0) (rfl) ?_
  refine nr ?_; intro U h; simp only [z0, z1] at h; subst h
  refine qL (qE (qB (qS ?_)))
  refine ja 9 rfl rfl (vP lp 0) (rfl) ?_
  refine ja 10 rfl rfl (vF) (zg 86 _ _ _ rfl _ rfl rfl Try.underlying86 _) ?_
  refine ja 8 rfl rfl (vF) (rfl) ?_
  refine nr ?_; intro U h; simp only [z0, z1] at h; subst h
  refine qL (qF rfl (qS ?_))
  refine ja 12 rfl rfl (vP lp 0) (rfl) ?_
  refine ja 13 rfl rfl (vP lp 0) (jn _ rfl _ rfl) ?_
  refine ja 14 rfl rfl (vP lp 4) (jf 124 _ 2 rfl _ _ rfl _ (by kernel_rfl)) ?_
  refine ja 15 rfl rfl (vT) (jq 4 _ rfl lp 4 rfl 124 _ klp (na4 _) _ rfl) ?_
  refine ja 11 rfl rfl (vT) (rfl) ?_
  refine nr ?_; intro U h; simp only [z0, z1] at h; subst h
  refine qL (qT rfl (qS ?_))
  refine ja 4 rfl rfl (iK 8) (rfl) ?_
  refine nr ?_; intro U h; simp only [z0, z1] at h; subst h
  refine qL (qR (zk (jr ?_)))
  refine bodyPost_ret (results_tmp Try.results39 _ _ _) rfl ?_
  exact ⟨rfl, GG⟩
theorem JC (w : World) (lp p : Nat) (h : Hd) (HK : LK w lp p h false) (ao : Option Addr) (cap : Nat) (l : List Nat) (hl : 1024 < l.length) : Calls Try.prog 39 #[vP lp 0, .slice ao l.length cap] w fun e w' => e = .returned (iK 4) ∧ Gro w w' := by
  refine js Try.func39 rfl Try.ntmps39 [vP lp 0, .slice ao l.length cap] [vP lp 0, .slice ao l.length cap, uD, uD, uD, uD, uD, uD, uD, uD, uD, uD, uD, uD, uD, uD, uD, uD, uD, uD, uD, uD, uD, uD, uD, uD, uD, uD, uD, uD, uD, uD, uD, uD, uD, uD, uD, uD, uD, uD, uD, uD, uD, uD, uD, uD, uD, uD, uD, uD, uD, uD, uD, uD, uD, uD, uD, uD, uD, uD, uD, uD, uD, uD, uD, uD, uD, uD, uD, uD, uD, uD, uD, uD, uD, uD, uD, uD, uD, uD, uD, uD, uD] rfl ?_
  have GG := Gro.refl w
  have klp := HK.box
  have hllp := ji klp
  refine qS ?_
  refine ja 4 rfl rfl (iK 0) (rfl) ?_
  refine nr ?_; intro U h; simp only [z0, z1] at h; subst h
  refine qL (qE (qB (qS ?_)))
  refine ja 9 rfl rfl (vP lp 0) (rfl) ?_
  refine ja 10 rfl rfl (vF) (zg 86 _ _ _ rfl _ rfl rfl Try.underlying86 _) ?_
  refine ja 8 rfl rfl (vF) (rfl) ?_
  refine nr ?_; intro U h; simp only [z0, z1] at h; subst h
  refine qL (qF rfl (qS ?_))
  refine ja 12 rfl rfl (vP lp 0) (rfl) ?_
  refine ja 13 rfl rfl (vP lp 0) (jn _ rfl _ rfl) ?_
  refine ja 14 rfl rfl (vP lp 4) (jf 124 _ 2 rfl _ _ rfl _ (by kernel_rfl)) ?_
  refine ja 15 rfl rfl (vF) (jq 4 _ rfl lp 4 rfl 124 _ klp (na4 _) _ rfl) ?_
  refine ja 11 rfl rfl (vF) (rfl) ?_
  refine nr ?_; intro U h; simp only [z0, z1] at h; subst h
  refine qL (qF rfl (qS ?_))
  refine ja 17 rfl rfl (.slice ao l.length cap) (rfl) ?_
  refine ja 18 rfl rfl (nK l.length) (jA Try.underlying30 _ rfl _ _ _ rfl _) ?_
  refine ja 19 rfl rfl (vT) (jJ 3 _ _ _ rfl ((l.length : Nat) : Int) 1024 rfl rfl true (by first | exact decide_eq_true (by omega) | exact decide_eq_false (by omega)) _) ?_
  refine ja 16 rfl rfl (vT) (rfl) ?_
  refine nr ?_; intro U h; simp only [z0, z1] at h; subst h
  refine qL (qT rfl (qS ?_))
  refine ja 4 rfl rfl (iK 4) (rfl) ?_
  refine nr ?_; intro U h; simp only [z0, z1] at h; subst h
  refine qL (qR (zk (jr ?_)))
  refine bodyPost_ret (results_tmp Try.results39 _ _ _) rfl ?_
  exact ⟨rfl, GG⟩
theorem JD (w : World) (lp p : Nat) (h : Hd) (HK : LK w lp p h false) (sg n : Nat) (L : List Nat) (pw dn : Int) (HD : DK w p sg n L pw dn) (hu : h.u + 2 ≤ n) (ao : Option Addr) (cap : Nat) (l : List Nat) (hl : l.length ≤ 1024) (hf : n - 2 - h.u < secN l.length) : Calls Try.prog 39 #[vP lp 0, .slice ao l.length cap] w fun e w' => e = .returned (iK 5) ∧ Gro w w' := by
  refine js Try.func39 rfl Try.ntmps39 [vP lp 0, .slice ao l.length cap] [vP lp 0, .slice ao l.length cap, uD, uD, uD, uD, uD, uD, uD, uD, uD, uD, uD, uD, uD, uD, uD, uD, uD, uD, uD, uD, uD, uD, uD, uD, uD, uD, uD, uD, uD, uD, uD, uD, uD, uD, uD, uD, uD, uD, uD, uD, uD, uD, uD, uD, uD, uD, uD, uD, uD, uD, uD, uD, uD, uD, uD, uD, uD, uD, uD, uD, uD, uD, uD, uD, uD, uD, uD, uD, uD, uD, uD, uD, uD, uD, uD, uD, uD, uD, uD, uD, uD] rfl ?_
  have GG := Gro.refl w
  have klp := HK.box
  have hllp := ji klp
  refine qS ?_
  refine ja 4 rfl rfl (iK 0) (rfl) ?_
  refine nr ?_; intro U h; simp only [z0, z1] at h; subst h
  refine qL (qE (qB (qS ?_)))
  refine ja 9 rfl rfl (vP lp 0) (rfl) ?_
  refine ja 10 rfl rfl (vF) (zg 86 _ _ _ rfl _ rfl rfl Try.underlying86 _) ?_
  refine ja 8 rfl rfl (vF) (rfl) ?_
  refine nr ?_; intro U h; simp only [z0, z1] at h; subst h
  refine qL (qF rfl (qS ?_))
  refine ja 12 rfl rfl (vP lp 0) (rfl) ?_
  refine ja 13 rfl rfl (vP lp 0) (jn _ rfl _ rfl) ?_
  refine ja 14 rfl rfl (vP lp 4) (jf 124 _ 2 rfl _ _ rfl _ (by kernel_rfl)) ?_
  refine ja 15 rfl rfl (vF) (jq 4 _ rfl lp 4 rfl 124 _ klp (na4 _) _ rfl) ?_
  refine ja 11 rfl rfl (vF) (rfl) ?_
  refine nr ?_; intro U h; simp only [z0, z1] at h; subst h
  refine qL (qF rfl (qS ?_))
  refine ja 17 rfl rfl (.slice ao l.length cap) (rfl) ?_
  refine ja 18 rfl rfl (nK l.length) (jA Try.underlying30 _ rfl _ _ _ rfl _) ?_
  refine ja 19 rfl rfl (vF) (jJ 3 _ _ _ rfl ((l.length : Nat) : Int) 1024 rfl rfl false (by first | exact decide_eq_true (by omega) | exact decide_eq_false (by omega)) _) ?_
  refine ja 16 rfl rfl (vF) (rfl) ?_
  refine nr ?_; intro U h; simp only [z0, z1] at h; subst h
  refine qL (qF rfl (qS ?_))
  refine ja 21 rfl rfl (.slice ao l.length cap) (rfl) ?_
  refine ja 22 rfl rfl (nK l.length) (jA Try.underlying30 _ rfl _ _ _ rfl _) ?_
  refine nr ?_; intro U h; simp only [z0, z1] at h; subst h
  refine jy 23 rfl rfl _ 64 Try.call64 rfl rfl _ rfl [nK l.length] rfl (yt _ l.length (by omega)) ?_
  intro w1 G
  replace klp := G.has klp
  replace HD := HD.gro G
  replace GG := GG.trans G
  clear G
  refine nr ?_; intro U h; simp only [z0, z1] at h; subst h
  refine ja 24 rfl rfl (vP lp 0) (rfl) ?_
  refine nr ?_; intro U h; simp only [z0, z1] at h; subst h
  refine jy 25 rfl rfl _ 65 Try.call65 rfl rfl _ rfl [vP lp 0] rfl (YT _ lp p h false ⟨klp⟩ sg n L pw dn HD hu) ?_
  intro w2 G
  replace klp := G.has klp
  replace HD := HD.gro G
  replace GG := GG.trans G
  clear G
  refine nr ?_; intro U h; simp only [z0, z1] at h; subst h
  refine ja 26 rfl rfl (vT) (jJ 3 _ _ _ rfl ((secN l.length : Nat) : Int) ((n - 2 - h.u : Nat) : Int) rfl rfl true (by first | exact decide_eq_true (by omega) | exact decide_eq_false (by omega)) _) ?_
  refine ja 20 rfl rfl (vT) (rfl) ?_
  refine nr ?_; intro U h; simp only [z0, z1] at h; subst h
  refine qL (qT rfl (qS ?_))
  refine ja 4 rfl rfl (iK 5) (rfl) ?_
  refine nr ?_; intro U h; simp only [z0, z1] at h; subst h
  refine qL (qR (zk (jr ?_)))
  refine bodyPost_ret (results_tmp Try.results39 _ _ _) rfl ?_
  exact ⟨rfl, GG⟩
theorem ZV (w : World) (lp p : Nat) (h : Hd) (HK : LK w lp p h false) (sg n : Nat) (L : List Nat) (pw dn : Int) (HD : DK w p sg n L pw dn) (hu : h.u + 2 ≤ n) (ao : Option Addr) (cap : Nat) (l : List Nat) (HB : BS [p, sg] w ao cap l) (hl : l.length ≤ 1024) (hf : h.u + secN l.length + 2 ≤ n) (hP : okP pw) (hg : h.g + 1 < lim) (hc : h.c + 1 < lim) (hne1 : lp ≠ p) (hne2 : lp ≠ sg) (hd : 0 ≤ dn) (hd2 : dn < 9223372036854760000) : Calls Try.prog 39 #[vP lp 0, .slice ao l.length cap] w (AppendP w lp p sg n L pw dn h l) := by
  refine js Try.func39 rfl Try.ntmps39 [vP lp 0, .slice ao l.length cap] [vP lp 0, .slice ao l.length cap, uD, uD, uD, uD, uD, uD, uD, uD, uD, uD, uD, uD, uD, uD, uD, uD, uD, uD, uD, uD, uD, uD, uD, uD, uD, uD, uD, uD, uD, uD, uD, uD, uD, uD, uD, uD, uD, uD, uD, uD, uD, uD, uD, uD, uD, uD, uD, uD, uD, uD, uD, uD, uD, uD, uD, uD, uD, uD, uD, uD, uD, uD, uD, uD, uD, uD, uD, uD, uD, uD, uD, uD, uD, uD, uD, uD, uD, uD, uD, uD, uD] rfl ?_
  have GG := GroS.refl [p, sg, lp] w
  have klp := HK.box
  have hllp := ji klp
  have hn4 := HD.le
  have hlim : lim = 18446744073709551616 := rfl
  have hsn : secN l.length ≤ 17 := by unfold secN; omega
  have hs2 : l.length + 2 ≤ secN l.length * 64 := by unfold secN; omega
  have hlp1 := ji HD.box
  have hls1 := ji HD.sec
  have HB0 := HB.nc.lt
  refine qS ?_
  refine ja 4 rfl rfl (iK 0) (rfl) ?_
  refine nr ?_; intro U h; simp only [z0, z1] at h; subst h
  refine qL (qE (qB (qS ?_)))
  refine ja 9 rfl rfl (vP lp 0) (rfl) ?_
  refine ja 10 rfl rfl (vF) (zg 86 _ _ _ rfl _ rfl rfl Try.underlying86 _) ?_
  refine ja 8 rfl rfl (vF) (rfl) ?_
  refine nr ?_; intro U h; simp only [z0, z1] at h; subst h
  refine qL (qF rfl (qS ?_))
  refine ja 12 rfl rfl (vP lp 0) (rfl) ?_
  refine ja 13 rfl rfl (vP lp 0) (jn _ rfl _ rfl) ?_
  refine ja 14 rfl rfl (vP lp 4) (jf 124 _ 2 rfl _ _ rfl _ (by kernel_rfl)) ?_
  refine ja 15 rfl rfl (vF) (jq 4 _ rfl lp 4 rfl 124 _ klp (na4 _) _ rfl) ?_
  refine ja 11 rfl rfl (vF) (rfl) ?_
  refine nr ?_; intro U h; simp only [z0, z1] at h; subst h
  refine qL (qF rfl (qS ?_))
  refine ja 17 rfl rfl (.slice ao l.length cap) (rfl) ?_
  refine ja 18 rfl rfl (nK l.length) (jA Try.underlying30 _ rfl _ _ _ rfl _) ?_
  refine ja 19 rfl rfl (vF) (jJ 3 _ _ _ rfl ((l.length : Nat) : Int) 1024 rfl rfl false (by first | exact decide_eq_true (by omega) | exact decide_eq_false (by omega)) _) ?_
  refine ja 16 rfl rfl (vF) (rfl) ?_
  refine nr ?_; intro U h; simp only [z0, z1] at h; subst h
  refine qL (qF rfl (qS ?_))
  refine ja 21 rfl rfl (.slice ao l.length cap) (rfl) ?_
  refine ja 22 rfl rfl (nK l.length) (jA Try.underlying30 _ rfl _ _ _ rfl _) ?_
  refine nr ?_; intro U h; simp only [z0, z1] at h; subst h
  refine jy 23 rfl rfl _ 64 Try.call64 rfl rfl _ rfl [nK l.length] rfl (yt _ l.length (by omega)) ?_
  intro w1 G
  replace klp := G.has klp
  replace HD := HD.gro G
  replace HB := HB.gro G
  replace GG := GG.tg G
  clear G
  refine nr ?_; intro U h; simp only [z0, z1] at h; subst h
  refine ja 24 rfl rfl (vP lp 0) (rfl) ?_
  refine nr ?_; intro U h; simp only [z0, z1] at h; subst h
  refine jy 25 rfl rfl _ 65 Try.call65 rfl rfl _ rfl [vP lp 0] rfl (YT _ lp p h false ⟨klp⟩ sg n L pw dn HD hu) ?_
  intro w2 G
  replace klp := G.has klp
  replace HD := HD.gro G
  replace HB := HB.gro G
  replace GG := GG.tg G
  clear G
  refine nr ?_; intro U h; simp only [z0, z1] at h; subst h
  refine ja 26 rfl rfl (vF) (jJ 3 _ _ _ rfl ((secN l.length : Nat) : Int) ((n - 2 - h.u : Nat) : Int) rfl rfl false (by first | exact decide_eq_true (by omega) | exact decide_eq_false (by omega)) _) ?_
  refine ja 20 rfl rfl (vF) (rfl) ?_
  refine nr ?_; intro U h; simp only [z0, z1] at h; subst h
  refine qL (qF rfl (wp_skip (zh (jG (qS ?_)))))
  refine ja 27 rfl rfl (.slice ao l.length cap) (rfl) ?_
  refine ja 28 rfl rfl (nK l.length) (jA Try.underlying30 _ rfl _ _ _ rfl _) ?_
  refine nr ?_; intro U h; simp only [z0, z1] at h; subst h
  refine jy 29 rfl rfl _ 64 Try.call64 rfl rfl _ rfl [nK l.length] rfl (yt _ l.length (by omega)) ?_
  intro w3 G
  replace klp := G.has klp
  replace HD := HD.gro G
  replace HB := HB.gro G
  replace GG := GG.tg G
  clear G
  refine nr ?_; intro U h; simp only [z0, z1] at h; subst h
  refine ja 5 rfl rfl (nK (secN l.length)) (rfl) ?_
  refine nr ?_; intro U h; simp only [z0, z1] at h; subst h
  refine qL (qE ?_)
  refine jl (A := ?Ax1) 22 [(0, 30), (1, 31), (2, 32), (3, 33), (4, 34), (5, 35), (6, 36), (7, 37), (8, 38), (9, 39), (10, 40), (11, 41), (12, 42), (13, 43), (14, 44), (15, 45), (16, 46), (17, 47), (18, 48), (19, 49), (20, 50), (21, 6)] [.val (vP lp 0), .val (vP lp 0), .val (vP lp 1), .val (vP lp 1), .val (.int .u64 ((h.g : Nat) : Int)), .val (.int .u64 ((h.g + 1 : Nat) : Int)), .val (vP lp 0), .val (vP lp 0), .val (vP lp 1), .val (vP lp 2), .val (.int .u64 ((h.u : Nat) : Int)), .val (nK (secN l.length)), .val (.int .u64 ((secN l.length : Nat) : Int)), .val (.int .u64 ((h.u + secN l.length : Nat) : Int)), .val (vP lp 0), .val (vP lp 0), .val (vP lp 1), .val (vP lp 3), .val (.int .u64 ((h.c : Nat) : Int)), .val (.int .u64 ((h.c + 1 : Nat) : Int)), .val (.agg (c119 ((h.g + 1 : Nat) : Int) ((h.u + secN l.length : Nat) : Int) ((h.c + 1 : Nat) : Int))), allE w.heap.size] follows (by kernel_rfl) rfl ?hAx1 (jb ?o0x1 (jb ?o1x1 (jb ?o2x1 (jb ?o3x1 (jb ?o4x1 (jb ?o5x1 (jb ?o6x1 (jb ?o7x1 (jb ?o8x1 (jb ?o9x1 (jb ?o10x1 (jb ?o11x1 (jb ?o12x1 (jb ?o13x1 (jb ?o14x1 (jb ?o15x1 (jb ?o16x1 (jb ?o17x1 (jb ?o18x1 (jb ?o19x1 (jb ?o20x1 (jb ?o21x1 jF)))))))))))))))))))))) ?restx1
  case hAx1 =>
    intro ptrs
    simp only [full, foldSlots, filledE, postE, List.foldl_cons, List.foldl_nil, List.getD_cons_zero, List.getD_cons_succ, jI, jbp, List.set_cons_zero, List.set_cons_succ]
    exact rfl
  case o0x1 => exact fun _ _ _ _ => jg (v := vP lp 0) _ rfl rfl rfl
  case o1x1 => exact fun _ _ hw _ => jd (v := vP lp 0) rfl (jn _ rfl _ rfl)
  case o2x1 => exact fun _ _ hw _ => jd (v := vP lp 1) rfl (jf 124 _ 1 rfl _ _ rfl _ (by kernel_rfl))
  case o3x1 => exact fun _ _ hw _ => jd (v := vP lp 1) rfl (jf 119 _ 0 rfl _ _ rfl _ (by kernel_rfl))
  case o4x1 => exact fun _ _ hw _ => jd (v := .int .u64 ((h.g : Nat) : Int)) rfl (jq 75 _ rfl lp 1 rfl 124 _ (hw.has klp) (na75 _) _ rfl)
  case o5x1 => exact fun _ _ hw _ => jd (v := .int .u64 ((h.g + 1 : Nat) : Int)) rfl (yf 75 75 _ _ rfl h.g 1 rfl rfl (by omega) _)
  case o6x1 => exact fun _ _ _ _ => jg (v := vP lp 0) _ rfl rfl rfl
  case o7x1 => exact fun _ _ hw _ => jd (v := vP lp 0) rfl (jn _ rfl _ rfl)
  case o8x1 => exact fun _ _ hw _ => jd (v := vP lp 1) rfl (jf 124 _ 1 rfl _ _ rfl _ (by kernel_rfl))
  case o9x1 => exact fun _ _ hw _ => jd (v := vP lp 2) rfl (jf 119 _ 1 rfl _ _ rfl _ (by kernel_rfl))
  case o10x1 => exact fun _ _ hw _ => jd (v := .int .u64 ((h.u : Nat) : Int)) rfl (jq 75 _ rfl lp 2 rfl 124 _ (hw.has klp) (na75 _) _ rfl)
  case o11x1 => exact fun _ _ _ _ => jg (v := nK (secN l.length)) _ rfl rfl rfl
  case o12x1 => exact fun _ _ hw _ => jd (v := .int .u64 ((secN l.length : Nat) : Int)) rfl (conv325 _ rfl (secN l.length) (by omega) rfl _)
  case o13x1 => exact fun _ _ hw _ => jd (v := .int .u64 ((h.u + secN l.length : Nat) : Int)) rfl (yf 75 75 _ _ rfl h.u (secN l.length) rfl rfl (by omega) _)
  case o14x1 => exact fun _ _ _ _ => jg (v := vP lp 0) _ rfl rfl rfl
  case o15x1 => exact fun _ _ hw _ => jd (v := vP lp 0) rfl (jn _ rfl _ rfl)
  case o16x1 => exact fun _ _ hw _ => jd (v := vP lp 1) rfl (jf 124 _ 1 rfl _ _ rfl _ (by kernel_rfl))
  case o17x1 => exact fun _ _ hw _ => jd (v := vP lp 3) rfl (jf 119 _ 2 rfl _ _ rfl _ (by kernel_rfl))
  case o18x1 => exact fun _ _ hw _ => jd (v := .int .u64 ((h.c : Nat) : Int)) rfl (jq 75 _ rfl lp 3 rfl 124 _ (hw.has klp) (na75 _) _ rfl)
  case o19x1 => exact fun _ _ hw _ => jd (v := .int .u64 ((h.c + 1 : Nat) : Int)) rfl (yf 75 75 _ _ rfl h.c 1 rfl rfl (by omega) _)
  case o20x1 => exact fun _ _ hw _ => jd (v := .agg (c119 ((h.g + 1 : Nat) : Int) ((h.u + secN l.length : Nat) : Int) ((h.c + 1 : Nat) : Int))) rfl (jN 119 _ rfl [(0, .int .u64 ((h.g + 1 : Nat) : Int)), (1, .int .u64 ((h.u + secN l.length : Nat) : Int)), (2, .int .u64 ((h.c + 1 : Nat) : Int))] rfl _ (by kernel_rfl))
  case o21x1 => exact fun _ _ hw _ => jcd rfl rfl (GG.drew.tg hw).size
  intro ptrs w4 GD hxE
  simp only [List.drop_succ_cons, List.drop_zero]
  replace klp := GD.has klp
  replace HD := HD.gro ((Gro.refl _).drew.trans GD)
  replace HB := HB.gro ((Gro.refl _).drew.trans GD)
  replace GG := GG.drew.tg GD
  obtain ⟨⟨ga6, hga6, bga6, kga6⟩, _⟩ := hxE
  simp only [hga6]
  clear GD
  refine jt rfl rfl 119 _ _ rfl ga6 0 rfl (.agg (c119 ((h.g + 1 : Nat) : Int) ((h.u + secN l.length : Nat) : Int) ((h.c + 1 : Nat) : Int))) rfl 119 _ kga6 (c119 ((h.g + 1 : Nat) : Int) ((h.u + secN l.length : Nat) : Int) ((h.c + 1 : Nat) : Int)) rfl (by kernel_rfl) (Nat.le_of_ble_eq_true rfl) (by kernel_rfl) (c119 ((h.g + 1 : Nat) : Int) ((h.u + secN l.length : Nat) : Int) ((h.c + 1 : Nat) : Int)) (by kernel_rfl) ?_
  intro w6 St
  replace klp := St.has (by omega) klp
  replace HD := HD.st St (by omega) (by omega)
  replace HB := HB.st St (fun ad ha h0 => by have := HB0 ad ha h0; omega)
  replace GG := GG.st St (.inl bga6)
  replace kga6 := St.new
  clear St
  refine qL (qE ?_)
  refine jl (A := ?Ax2) 13 [(0, 51), (1, 52), (2, 53), (3, 54), (4, 55), (5, 56), (6, 57), (7, 58), (8, 59), (9, 60), (10, 61), (11, 62), (12, 63)] [.val (vP lp 0), .val (vP lp 0), .val (vP lp 0), .val (vP p 0), .val (vP lp 0), .val (vP lp 0), .val (vP lp 1), .val (vP lp 2), .val (.int .u64 ((h.u : Nat) : Int)), .val (nK h.u), .val (nK (2 + h.u)), .val (nK (secN l.length)), .val (.slice ao l.length cap)] follows (by kernel_rfl) rfl ?hAx2 (jb ?o0x2 (jb ?o1x2 (jb ?o2x2 (jb ?o3x2 (jb ?o4x2 (jb ?o5x2 (jb ?o6x2 (jb ?o7x2 (jb ?o8x2 (jb ?o9x2 (jb ?o10x2 (jb ?o11x2 (jb ?o12x2 jF))))))))))))) ?restx2
  case hAx2 =>
    intro ptrs
    simp only [full, foldSlots, filledE, postE, List.foldl_cons, List.foldl_nil, List.getD_cons_zero, List.getD_cons_succ, jI, List.set_cons_zero, List.set_cons_succ]
    exact rfl
  case o0x2 => exact fun _ _ _ _ => jg (v := vP lp 0) _ rfl rfl rfl
  case o1x2 => exact fun _ _ hw _ => jd (v := vP lp 0) rfl (jn _ rfl _ rfl)
  case o2x2 => exact fun _ _ hw _ => jd (v := vP lp 0) rfl (jf 124 _ 0 rfl _ _ rfl _ (by kernel_rfl))
  case o3x2 => exact fun _ _ hw _ => jd (v := vP p 0) rfl (jq 32 _ rfl lp 0 rfl 124 _ (hw.has klp) (na32 _) _ rfl)
  case o4x2 => exact fun _ _ _ _ => jg (v := vP lp 0) _ rfl rfl rfl
  case o5x2 => exact fun _ _ hw _ => jd (v := vP lp 0) rfl (jn _ rfl _ rfl)
  case o6x2 => exact fun _ _ hw _ => jd (v := vP lp 1) rfl (jf 124 _ 1 rfl _ _ rfl _ (by kernel_rfl))
  case o7x2 => exact fun _ _ hw _ => jd (v := vP lp 2) rfl (jf 119 _ 1 rfl _ _ rfl _ (by kernel_rfl))
  case o8x2 => exact fun _ _ hw _ => jd (v := .int .u64 ((h.u : Nat) : Int)) rfl (jq 75 _ rfl lp 2 rfl 124 _ (hw.has klp) (na75 _) _ rfl)
  case o9x2 => exact fun _ _ hw _ => jd (v := nK h.u) rfl (conv253 _ rfl h.u (by omega) rfl _)
  case o10x2 => exact fun _ _ hw _ => jd (v := nK (2 + h.u)) rfl (jp _ _ _ rfl 2 ((h.u : Nat) : Int) _ rfl rfl (by omega) (by omega) (by omega) _)
  case o11x2 => exact fun _ _ _ _ => jg (v := nK (secN l.length)) _ rfl rfl rfl
  case o12x2 => exact fun _ _ _ _ => jg (v := .slice ao l.length cap) _ rfl rfl rfl
  intro ptrs w7 GD hxE
  simp only [List.drop_succ_cons, List.drop_zero]
  replace klp := GD.has klp
  replace kga6 := GD.has kga6
  replace HD := HD.gro ((Gro.refl _).drew.trans GD)
  replace HB := HB.gro ((Gro.refl _).drew.trans GD)
  replace GG := GG.drew.tg GD
  clear GD
  have HX := JF _ p sg n L pw dn HD hP (2 + h.u) (secN l.length) ao cap l HB hl rfl hs2 (by omega) hd (by omega)
  refine jx 64 rfl rfl _ 66 Try.call66 rfl rfl _ rfl [vP p 0, nK (2 + h.u), nK (secN l.length), .slice ao l.length cap] rfl (HX) (fun _ _ ⟨_, _, he, _⟩ => ⟨_, he⟩) ?_
  rintro v w8 ⟨j, pj, he, G, hjk, hpj, hor, HD2⟩
  cases he
  replace klp := G.has klp (by simp; omega)
  replace kga6 := G.has kga6 (by simp; omega)
  replace GG := GG.trans (G.mono (fun x hx => by simp at hx ⊢; omega))
  clear G HD HX HB
  have HD := HD2
  clear HD2
  by_cases hje : j = secN l.length
  subst hje
  rw [if_pos rfl]
  refine nr ?_; intro U h; simp only [z0, z1] at h; subst h
  refine ja 7 rfl rfl (iK 0) (rfl) ?_
  refine nr ?_; intro U h; simp only [z0, z1] at h; subst h
  refine qL (qE (qS ?_))
  refine ja 65 rfl rfl (iK 0) (rfl) ?_
  refine ja 66 rfl rfl (vT) (jB 26 .i64 _ _ _ rfl Try.underlying26 _ _ rfl rfl true rfl _) ?_
  refine nr ?_; intro U h; simp only [z0, z1] at h; subst h
  refine qL (qT rfl ?_)
  refine jl (A := ?Ax3) 5 [(0, 67), (1, 68), (2, 69), (3, 70), (4, 71)] [.val (vP lp 0), .val (vP lp 0), .val (vP lp 0), .val (vP p 0), .val (.agg (c119 ((h.g + 1 : Nat) : Int) ((h.u + secN l.length : Nat) : Int) ((h.c + 1 : Nat) : Int)))] follows (by kernel_rfl) rfl ?hAx3 (jb ?o0x3 (jb ?o1x3 (jb ?o2x3 (jb ?o3x3 (jb ?o4x3 jF))))) ?restx3
  case hAx3 =>
    intro ptrs
    simp only [full, foldSlots, filledE, postE, List.foldl_cons, List.foldl_nil, List.getD_cons_zero, List.getD_cons_succ, jI, List.set_cons_zero, List.set_cons_succ]
    exact rfl
  case o0x3 => exact fun _ _ _ _ => jg (v := vP lp 0) _ rfl rfl rfl
  case o1x3 => exact fun _ _ hw _ => jd (v := vP lp 0) rfl (jn _ rfl _ rfl)
  case o2x3 => exact fun _ _ hw _ => jd (v := vP lp 0) rfl (jf 124 _ 0 rfl _ _ rfl _ (by kernel_rfl))
  case o3x3 => exact fun _ _ hw _ => jd (v := vP p 0) rfl (jq 32 _ rfl lp 0 rfl 124 _ (hw.has klp) (na32 _) _ rfl)
  case o4x3 => exact fun _ _ hw _ => jd (v := .agg (c119 ((h.g + 1 : Nat) : Int) ((h.u + secN l.length : Nat) : Int) ((h.c + 1 : Nat) : Int))) rfl (zP 119 _ rfl ga6 0 3 rfl 119 _ (hw.has kga6) _ Try.underlying119 rfl si119 (Nat.le_of_ble_eq_true rfl) _ (by kernel_rfl))
  intro ptrs w9 GD hxE
  simp only [List.drop_succ_cons, List.drop_zero]
  replace klp := GD.has klp
  replace kga6 := GD.has kga6
  replace HD := HD.gro ((Gro.refl _).drew.trans GD)
  replace GG := GG.drew.tg GD
  clear GD
  have HX := ZB _ p sg n _ _ _ HD (hpj.ok hP) ⟨h.g + 1, h.u + secN l.length, h.c + 1⟩ (by show h.g + 1 < lim; omega) (by show h.u + secN l.length < lim; omega) (by show h.c + 1 < lim; omega) (by omega) (by omega) (by omega)
  refine jx 72 rfl rfl _ 67 Try.call67 rfl rfl _ rfl [vP p 0, .agg (c119 ((h.g + 1 : Nat) : Int) ((h.u + secN l.length : Nat) : Int) ((h.c + 1 : Nat) : Int))] rfl (HX) (fun _ _ ⟨_, he, _⟩ => ⟨_, he⟩) ?_
  rintro v w10 ⟨b, he, G, hb, HD2⟩
  cases he
  replace klp := G.has klp (by simp; omega)
  replace kga6 := G.has kga6 (by simp; omega)
  replace GG := GG.trans (G.mono (fun x hx => by simp at hx ⊢; omega))
  clear G HD HX
  have HD := HD2
  clear HD2
  cases b
  have h0 : pj = 0 := hb.2
  replace HD : DK _ p sg n _ _ _ := HD
  simp only [cond_false]
  refine nr ?_; intro U h; simp only [z0, z1] at h; subst h
  refine ja 7 rfl rfl (iK 8) (rfl) ?_
  refine nr ?_; intro U h; simp only [z0, z1] at h; subst h
  refine qL (qE (qS ?_))
  refine ja 73 rfl rfl (iK 8) (rfl) ?_
  refine ja 74 rfl rfl (vT) (jh 26 .i64 _ _ _ rfl Try.underlying26 _ _ rfl rfl true rfl _) ?_
  refine nr ?_; intro U h; simp only [z0, z1] at h; subst h
  refine qL (qT rfl (qS ?_))
  refine ja 75 rfl rfl (vP lp 0) (rfl) ?_
  refine ja 76 rfl rfl (vP lp 0) (jn _ rfl _ rfl) ?_
  refine ja 77 rfl rfl (vP lp 4) (jf 124 _ 2 rfl _ _ rfl _ (by kernel_rfl)) ?_
  refine nr ?_; intro U h; simp only [z0, z1] at h; subst h
  refine jt rfl rfl 4 _ _ rfl lp 4 rfl (vT) rfl 124 _ klp #[vT] rfl (by kernel_rfl) (Nat.le_of_ble_eq_true rfl) (by kernel_rfl) (c124 (some ⟨p, 0, none⟩) ((h.g : Nat) : Int) ((h.u : Nat) : Int) ((h.c : Nat) : Int) true) (by kernel_rfl) ?_
  intro w12 St
  replace kga6 := St.has (by omega) kga6
  replace HD := HD.st St (by omega) (by omega)
  replace GG := GG.st St (.inr (by simp))
  replace klp := St.new
  clear St
  refine qA ?_
  refine ja 78 rfl rfl (iK 8) (rfl) ?_
  refine ja 4 rfl rfl (iK 8) (rfl) ?_
  refine nr ?_; intro U h; simp only [z0, z1] at h; subst h
  refine qL (qR (jr ?_))
  refine bodyPost_ret (results_tmp Try.results39 _ _ _) rfl ?_
  have hA := apF hpj hjk h0
  unfold AppendP apL apH
  rw [hA.1, hA.2.1, hA.2.2]
  subst h0
  exact ⟨_, rfl, GG, (by omega), (by omega), HD, ⟨klp⟩⟩
  have h0 : pj ≠ 0 := hb.1
  replace HD : DK _ p sg n _ _ _ := HD
  simp only [cond_true]
  refine nr ?_; intro U h; simp only [z0, z1] at h; subst h
  refine ja 7 rfl rfl (iK 0) (rfl) ?_
  refine nr ?_; intro U h; simp only [z0, z1] at h; subst h
  refine qL (qE (qS ?_))
  refine ja 73 rfl rfl (iK 0) (rfl) ?_
  refine ja 74 rfl rfl (vF) (jh 26 .i64 _ _ _ rfl Try.underlying26 _ _ rfl rfl false rfl _) ?_
  refine nr ?_; intro U h; simp only [z0, z1] at h; subst h
  refine qL (qF rfl (qK (qS ?_)))
  refine ja 79 rfl rfl (vP lp 0) (rfl) ?_
  refine ja 80 rfl rfl (.agg (c119 ((h.g + 1 : Nat) : Int) ((h.u + secN l.length : Nat) : Int) ((h.c + 1 : Nat) : Int))) (zP 119 _ rfl ga6 0 3 rfl 119 _ kga6 _ Try.underlying119 rfl si119 (Nat.le_of_ble_eq_true rfl) _ (by kernel_rfl)) ?_
  refine ja 81 rfl rfl (vP lp 0) (jn _ rfl _ rfl) ?_
  refine ja 82 rfl rfl (vP lp 1) (jf 124 _ 1 rfl _ _ rfl _ (by kernel_rfl)) ?_
  refine nr ?_; intro U h; simp only [z0, z1] at h; subst h
  refine jt rfl rfl 119 _ _ rfl lp 1 rfl (.agg (c119 ((h.g + 1 : Nat) : Int) ((h.u + secN l.length : Nat) : Int) ((h.c + 1 : Nat) : Int))) rfl 124 _ klp (c119 ((h.g + 1 : Nat) : Int) ((h.u + secN l.length : Nat) : Int) ((h.c + 1 : Nat) : Int)) rfl (by kernel_rfl) (Nat.le_of_ble_eq_true rfl) (by kernel_rfl) (c124 (some ⟨p, 0, none⟩) ((h.g + 1 : Nat) : Int) ((h.u + secN l.length : Nat) : Int) ((h.c + 1 : Nat) : Int) false) (by kernel_rfl) ?_
  intro w12 St
  replace kga6 := St.has (by omega) kga6
  replace HD := HD.st St (by omega) (by omega)
  replace GG := GG.st St (.inr (by simp))
  replace klp := St.new
  clear St
  refine qA ?_
  refine ja 4 rfl rfl (iK 0) (rfl) ?_
  refine nr ?_; intro U h; simp only [z0, z1] at h; subst h
  refine qL (qR ?_)
  refine bodyPost_ret (results_tmp Try.results39 _ _ _) rfl ?_
  have hA := apS hpj h0
  unfold AppendP apL apH
  rw [hA.1, hA.2]
  rw [Zd] at HD
  exact ⟨_, rfl, GG, (by omega), (by omega), HD, ⟨klp⟩⟩
  have h0 : pj = 0 := by omega
  rw [if_neg hje]
  refine nr ?_; intro U h; simp only [z0, z1] at h; subst h
  refine ja 7 rfl rfl (iK 8) (rfl) ?_
  refine nr ?_; intro U h; simp only [z0, z1] at h; subst h
  refine qL (qE (qS ?_))
  refine ja 65 rfl rfl (iK 8) (rfl) ?_
  refine ja 66 rfl rfl (vF) (jB 26 .i64 _ _ _ rfl Try.underlying26 _ _ rfl rfl false rfl _) ?_
  refine nr ?_; intro U h; simp only [z0, z1] at h; subst h
  refine qL (qF rfl (qK (qE (qS ?_))))
  refine ja 73 rfl rfl (iK 8) (rfl) ?_
  refine ja 74 rfl rfl (vT) (jh 26 .i64 _ _ _ rfl Try.underlying26 _ _ rfl rfl true rfl _) ?_
  refine nr ?_; intro U h; simp only [z0, z1] at h; subst h
  refine qL (qT rfl (qS ?_))
  refine ja 75 rfl rfl (vP lp 0) (rfl) ?_
  refine ja 76 rfl rfl (vP lp 0) (jn _ rfl _ rfl) ?_
  refine ja 77 rfl rfl (vP lp 4) (jf 124 _ 2 rfl _ _ rfl _ (by kernel_rfl)) ?_
  refine nr ?_; intro U h; simp only [z0, z1] at h; subst h
  refine jt rfl rfl 4 _ _ rfl lp 4 rfl (vT) rfl 124 _ klp #[vT] rfl (by kernel_rfl) (Nat.le_of_ble_eq_true rfl) (by kernel_rfl) (c124 (some ⟨p, 0, none⟩) ((h.g : Nat) : Int) ((h.u : Nat) : Int) ((h.c : Nat) : Int) true) (by kernel_rfl) ?_
  intro w10 St
  replace kga6 := St.has (by omega) kga6
  replace HD := HD.st St (by omega) (by omega)
  replace GG := GG.st St (.inr (by simp))
  replace klp := St.new
  clear St
  refine qA ?_
  refine ja 78 rfl rfl (iK 8) (rfl) ?_
  refine ja 4 rfl rfl (iK 8) (rfl) ?_
  refine nr ?_; intro U h; simp only [z0, z1] at h; subst h
  refine qL (qR (jr ?_))
  refine bodyPost_ret (results_tmp Try.results39 _ _ _) rfl ?_
  have hA := apF hpj hjk h0
  unfold AppendP apL apH
  rw [hA.1, hA.2.1, hA.2.2]
  subst h0
  exact ⟨_, rfl, GG, (by omega), (by omega), HD, ⟨klp⟩⟩
end Go.Proofs.Ytgfnjekpafempaa
