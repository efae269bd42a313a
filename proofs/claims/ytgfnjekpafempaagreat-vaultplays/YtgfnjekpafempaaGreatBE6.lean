import Derived.Test.YtgfnjekpafempaaGreatBE5
import Derived.Test.YtgfnjekpafempaaGreatBAb
namespace Go.Proofs.YtgfnjekpafempaaGreat
open Go.Proofs.Tryz
set_option maxHeartbeats 4000000
set_option maxRecDepth 100000
open Go.RowKit
theorem yh {P : Program} {o : Oper} {A : Act} (t t2 : TypeId) (x y : Operand) (ho : o.op = .binOp .add t x y t2) (a b : Nat) (hx : A.eval x = .int .u64 (a : Int)) (hy : A.eval y = .int .u64 (b : Int)) (h : a + b < lim) (w : World) : (execOp A.eval o).run P w = .ok (.value (.int .u64 ((a + b : Nat) : Int))) w := by
  refine jF .add t x y t2 ho _ _ _ hx hy (by simp [eqGuard]) ?_
  have e : IntKind.u64.wrap ((a : Int) + (b : Int)) = ((a + b : Nat) : Int) := by
    have : lim = 18446744073709551616 := rfl
    simp [IntKind.wrap, IntKind.bits, IntKind.signed]
    omega
  show (Op.intArith .add .u64 (a : Int) (b : Int)).run P w = _
  unfold Op.intArith
  simp only [Sem.run_pure]
  exact congrArg (fun z => Result.ok (Value.int .u64 z) w) e
theorem apF {pw pj : Int} {j k : Nat} (h : PJ pw j pj) (hj : j ≤ k) (h0 : pj = 0) : apOK pw k = false ∧ apT pw k = j ∧ apP pw k = 0 := by
  unfold PJ at h
  have h1 : pw ≠ -1 := by omega
  have h2 : ¬ ((k : Int) < pw) := by omega
  refine ⟨decide_eq_false (by omega), ?_, ?_⟩
  · rw [apT, if_neg h1]; omega
  · rw [apP, if_neg h1, if_neg h2]
theorem apS {pw pj : Int} {k : Nat} (h : PJ pw k pj) (h0 : pj ≠ 0) : apOK pw k = true ∧ apP pw k = if pj = -1 then -1 else pj - 1 := by
  unfold PJ at h
  refine ⟨decide_eq_true (by omega), ?_⟩
  unfold apP
  rcases h with ⟨h1, h2⟩ | ⟨h1, h2⟩
  · rw [if_pos h1, if_pos h2]
  · rw [if_neg (by omega), if_pos (by omega), if_neg (by omega)]
    omega
theorem ZG (l : List Nat) : (recW l).take (secN l.length * 64) = recW l := List.take_of_length_le (by rw [zF]; exact Nat.le_refl _)
def allE (B : Nat) : PostE := PostE.ex (fun v w => ∃ g, v = .pointer (some ⟨g, 0, none⟩) ∧ B ≤ g ∧ w.heap[g]? = some (.cells (c101 0 0 0) 101 (0, 0))) (fun _ _ _ G ⟨g, h, b, k⟩ => ⟨g, h, b, G.has k⟩)
theorem fill_all (n : Nat) (v : Value) : (allE n).fill v = v := rfl
theorem allE_new {ops : Array Oper} {o : Oper} {A : Act} {w : World} {B : Nat} (hw : Region.wanted o (yielded ops A.tmps) = true) (ho : o.op = .alloc 101) (hB : B ≤ w.heap.size) : OpE Tryz.prog ops (allE B) o A w := by
  have hr : (execOp A.eval o).run Tryz.prog w = .ok (.value (.pointer (some ⟨w.heap.size, 0, none⟩))) (w.alloc (.cells (c101 0 0 0) 101)) := by
    exact yk 101 ho (.agg (c101 0 0 0)) zv101
  exact uA (allE B) hw hr (zl _ _) ⟨_, rfl, hB, heap_alloc_new _ _⟩
def AppendP (w : World) (lp p sg n : Nat) (L : List Nat) (pw dn : Int) (h : Hd) (l : List Nat) (e : Ending) (w' : World) : Prop :=
  ∃ dn', e = .returned (.int .i64 (bif apOK pw (secN l.length) then 0 else 8)) ∧ GroS [p, sg, lp] w w' ∧ dn ≤ dn' ∧ dn' ≤ dn + 20 ∧ DK w' p sg n (apL L pw h l) (apP pw (secN l.length)) dn' ∧ LK w' lp p (apH pw h l) (!apOK pw (secN l.length))
theorem Zi (w : World) (lp p : Nat) (h : Hd) (HK : LK w lp p h true) (ao : Option Addr) (cap : Nat) (l : List Nat) : Calls Tryz.prog 27 #[vP lp 0, .slice ao l.length cap] w fun e w' => e = .returned (iK 8) ∧ Gro w w' := by
  refine eN func27 rfl ntmps27 [vP lp 0, .slice ao l.length cap] ?_
  have GG := Gro.refl w
  have klp := HK.box
  have hllp := ji klp
  refine qE (qG (mv (iK 0) rfl (nq ?_)))
  refine qL (qE (qB (qE (qG (mv (vP lp 0) rfl (sv (vF) (jT 72 _ _ _ rfl _ rfl rfl underlying72 _) rfl (mv (vF) rfl (nq ?_))))))))
  refine qL (qF rfl (qE (qG (mv (vP lp 0) rfl (sv (vP lp 0) (jl _ rfl _ rfl) rfl (sv (vP lp 4) (je 106 _ 2 rfl _ _ rfl _ (by kernel_rfl)) rfl (sv (vT) (jo 4 _ rfl lp 4 rfl 106 _ klp (na4 _) _ rfl) rfl (mv (vT) rfl (nq ?_)))))))))
  refine qL (qT rfl (qE (qG (mv (iK 8) rfl (nq ?_)))))
  refine qL (qR (ze (jm ?_)))
  refine bodyPost_ret (results_tmp results27 _ _ _) rfl ?_
  exact ⟨rfl, GG⟩
theorem Zg (w : World) (lp p : Nat) (h : Hd) (HK : LK w lp p h false) (ao : Option Addr) (cap : Nat) (l : List Nat) (hl : 1024 < l.length) : Calls Tryz.prog 27 #[vP lp 0, .slice ao l.length cap] w fun e w' => e = .returned (iK 4) ∧ Gro w w' := by
  refine eN func27 rfl ntmps27 [vP lp 0, .slice ao l.length cap] ?_
  have GG := Gro.refl w
  have klp := HK.box
  have hllp := ji klp
  refine qE (qG (mv (iK 0) rfl (nq ?_)))
  refine qL (qE (qB (qE (qG (mv (vP lp 0) rfl (sv (vF) (jT 72 _ _ _ rfl _ rfl rfl underlying72 _) rfl (mv (vF) rfl (nq ?_))))))))
  refine qL (qF rfl (qE (qG (mv (vP lp 0) rfl (sv (vP lp 0) (jl _ rfl _ rfl) rfl (sv (vP lp 4) (je 106 _ 2 rfl _ _ rfl _ (by kernel_rfl)) rfl (sv (vF) (jo 4 _ rfl lp 4 rfl 106 _ klp (na4 _) _ rfl) rfl (mv (vF) rfl (nq ?_)))))))))
  refine qL (qF rfl (qE (qG (mv (.slice ao l.length cap) rfl (sv (nK l.length) (js underlying27 _ rfl _ _ _ rfl _) rfl (sv (vT) (jy 3 _ _ _ rfl ((l.length : Nat) : Int) 1024 rfl rfl true (by first | exact decide_eq_true (by omega) | exact decide_eq_false (by omega)) _) rfl (mv (vT) rfl (nq ?_))))))))
  refine qL (qT rfl (qE (qG (mv (iK 4) rfl (nq ?_)))))
  refine qL (qR (ze (jm ?_)))
  refine bodyPost_ret (results_tmp results27 _ _ _) rfl ?_
  exact ⟨rfl, GG⟩
theorem Zh (w : World) (lp p : Nat) (h : Hd) (HK : LK w lp p h false) (sg n : Nat) (L : List Nat) (pw dn : Int) (HD : DK w p sg n L pw dn) (hu : h.u + 2 ≤ n) (ao : Option Addr) (cap : Nat) (l : List Nat) (hl : l.length ≤ 1024) (hf : n - 2 - h.u < secN l.length) : Calls Tryz.prog 27 #[vP lp 0, .slice ao l.length cap] w fun e w' => e = .returned (iK 5) ∧ Gro w w' := by
  refine eN func27 rfl ntmps27 [vP lp 0, .slice ao l.length cap] ?_
  have GG := Gro.refl w
  have klp := HK.box
  have hllp := ji klp
  refine qE (qG (mv (iK 0) rfl (nq ?_)))
  refine qL (qE (qB (qE (qG (mv (vP lp 0) rfl (sv (vF) (jT 72 _ _ _ rfl _ rfl rfl underlying72 _) rfl (mv (vF) rfl (nq ?_))))))))
  refine qL (qF rfl (qE (qG (mv (vP lp 0) rfl (sv (vP lp 0) (jl _ rfl _ rfl) rfl (sv (vP lp 4) (je 106 _ 2 rfl _ _ rfl _ (by kernel_rfl)) rfl (sv (vF) (jo 4 _ rfl lp 4 rfl 106 _ klp (na4 _) _ rfl) rfl (mv (vF) rfl (nq ?_)))))))))
  refine qL (qF rfl (qE (qG (mv (.slice ao l.length cap) rfl (sv (nK l.length) (js underlying27 _ rfl _ _ _ rfl _) rfl (sv (vF) (jy 3 _ _ _ rfl ((l.length : Nat) : Int) 1024 rfl rfl false (by first | exact decide_eq_true (by omega) | exact decide_eq_false (by omega)) _) rfl (mv (vF) rfl (nq ?_))))))))
  refine qL (qF rfl (qE (qG (mv (.slice ao l.length cap) rfl (sv (nK l.length) (js underlying27 _ rfl _ _ _ rfl _) rfl (nq ?_))))))
  refine jr 23 rfl rfl _ 49 call49 rfl rfl _ rfl [nK l.length] rfl (yz _ l.length (by omega)) ?_
  intro w1 G
  replace klp := G.has klp
  replace HD := HD.gro G
  replace GG := GG.trans G
  clear G
  refine nq ?_
  refine mv (vP lp 0) rfl (nq ?_)
  refine jr 25 rfl rfl _ 50 call50 rfl rfl _ rfl [vP lp 0] rfl (Ue _ lp p h false ⟨klp⟩ sg n L pw dn HD hu) ?_
  intro w2 G
  replace klp := G.has klp
  replace HD := HD.gro G
  replace GG := GG.trans G
  clear G
  refine nq ?_
  refine sv (vT) (jy 3 _ _ _ rfl ((secN l.length : Nat) : Int) ((n - 2 - h.u : Nat) : Int) rfl rfl true (by first | exact decide_eq_true (by omega) | exact decide_eq_false (by omega)) _) rfl (mv (vT) rfl (nq ?_))
  refine qL (qT rfl (qE (qG (mv (iK 5) rfl (nq ?_)))))
  refine qL (qR (ze (jm ?_)))
  refine bodyPost_ret (results_tmp results27 _ _ _) rfl ?_
  exact ⟨rfl, GG⟩
theorem YJ (w : World) (lp p : Nat) (h : Hd) (HK : LK w lp p h false) (sg n : Nat) (L : List Nat) (pw dn : Int) (HD : DK w p sg n L pw dn) (hu : h.u + 2 ≤ n) (ao : Option Addr) (cap : Nat) (l : List Nat) (HB : BS [p, sg] w ao cap l) (hl : l.length ≤ 1024) (hf : h.u + secN l.length + 2 ≤ n) (hP : okP pw) (hg : h.g + 1 < lim) (hc : h.c + 1 < lim) (hne1 : lp ≠ p) (hne2 : lp ≠ sg) (hd : 0 ≤ dn) (hd2 : dn < 9223372036854760000) : Calls Tryz.prog 27 #[vP lp 0, .slice ao l.length cap] w (AppendP w lp p sg n L pw dn h l) := by
  refine eN func27 rfl ntmps27 [vP lp 0, .slice ao l.length cap] ?_
  have GG := GroS.refl [p, sg, lp] w
  have klp := HK.box
  have hllp := ji klp
  have hn4 := HD.le
  have hlim : lim = 18446744073709551616 := rfl
  have hsn : secN l.length ≤ 17 := by unfold secN; omega
  have hs2 : l.length + 2 ≤ secN l.length * 64 := by unfold secN; omega
  have hlp1 := ji HD.box
  have hls1 := ji HD.sec
  have HB0 := HB.nc.lt
  refine qE (qG (mv (iK 0) rfl (nq ?_)))
  refine qL (qE (qB (qE (qG (mv (vP lp 0) rfl (sv (vF) (jT 72 _ _ _ rfl _ rfl rfl underlying72 _) rfl (mv (vF) rfl (nq ?_))))))))
  refine qL (qF rfl (qE (qG (mv (vP lp 0) rfl (sv (vP lp 0) (jl _ rfl _ rfl) rfl (sv (vP lp 4) (je 106 _ 2 rfl _ _ rfl _ (by kernel_rfl)) rfl (sv (vF) (jo 4 _ rfl lp 4 rfl 106 _ klp (na4 _) _ rfl) rfl (mv (vF) rfl (nq ?_)))))))))
  refine qL (qF rfl (qE (qG (mv (.slice ao l.length cap) rfl (sv (nK l.length) (js underlying27 _ rfl _ _ _ rfl _) rfl (sv (vF) (jy 3 _ _ _ rfl ((l.length : Nat) : Int) 1024 rfl rfl false (by first | exact decide_eq_true (by omega) | exact decide_eq_false (by omega)) _) rfl (mv (vF) rfl (nq ?_))))))))
  refine qL (qF rfl (qE (qG (mv (.slice ao l.length cap) rfl (sv (nK l.length) (js underlying27 _ rfl _ _ _ rfl _) rfl (nq ?_))))))
  refine jr 23 rfl rfl _ 49 call49 rfl rfl _ rfl [nK l.length] rfl (yz _ l.length (by omega)) ?_
  intro w1 G
  replace klp := G.has klp
  replace HD := HD.gro G
  replace HB := HB.gro G
  replace GG := GG.tg G
  clear G
  refine nq ?_
  refine mv (vP lp 0) rfl (nq ?_)
  refine jr 25 rfl rfl _ 50 call50 rfl rfl _ rfl [vP lp 0] rfl (Ue _ lp p h false ⟨klp⟩ sg n L pw dn HD hu) ?_
  intro w2 G
  replace klp := G.has klp
  replace HD := HD.gro G
  replace HB := HB.gro G
  replace GG := GG.tg G
  clear G
  refine nq ?_
  refine sv (vF) (jy 3 _ _ _ rfl ((secN l.length : Nat) : Int) ((n - 2 - h.u : Nat) : Int) rfl rfl false (by first | exact decide_eq_true (by omega) | exact decide_eq_false (by omega)) _) rfl (mv (vF) rfl (nq ?_))
  refine qL (qF rfl (wp_skip (zb (jC (qE (qG (mv (.slice ao l.length cap) rfl (sv (nK l.length) (js underlying27 _ rfl _ _ _ rfl _) rfl (nq ?_)))))))))
  refine jr 29 rfl rfl _ 49 call49 rfl rfl _ rfl [nK l.length] rfl (yz _ l.length (by omega)) ?_
  intro w3 G
  replace klp := G.has klp
  replace HD := HD.gro G
  replace HB := HB.gro G
  replace GG := GG.tg G
  clear G
  refine nq ?_
  refine mv (nK (secN l.length)) rfl (nq ?_)
  refine qL (qE ?_)
  refine jQ (A := ?Ax1) 22 [(0, 30), (1, 31), (2, 32), (3, 33), (4, 34), (5, 35), (6, 36), (7, 37), (8, 38), (9, 39), (10, 40), (11, 41), (12, 42), (13, 43), (14, 44), (15, 45), (16, 46), (17, 47), (18, 48), (19, 49), (20, 50), (21, 6)] [.val (vP lp 0), .val (vP lp 0), .val (vP lp 1), .val (vP lp 1), .val (.int .u64 ((h.g : Nat) : Int)), .val (.int .u64 ((h.g + 1 : Nat) : Int)), .val (vP lp 0), .val (vP lp 0), .val (vP lp 1), .val (vP lp 2), .val (.int .u64 ((h.u : Nat) : Int)), .val (nK (secN l.length)), .val (.int .u64 ((secN l.length : Nat) : Int)), .val (.int .u64 ((h.u + secN l.length : Nat) : Int)), .val (vP lp 0), .val (vP lp 0), .val (vP lp 1), .val (vP lp 3), .val (.int .u64 ((h.c : Nat) : Int)), .val (.int .u64 ((h.c + 1 : Nat) : Int)), .val (.agg (c101 ((h.g + 1 : Nat) : Int) ((h.u + secN l.length : Nat) : Int) ((h.c + 1 : Nat) : Int))), allE w.heap.size] follows (by kernel_rfl) rfl ?hAx1 (ja ?_ (ja ?_ (ja ?_ (ja ?_ (ja ?_ (ja ?_ (ja ?_ (ja ?_ (ja ?_ (ja ?_ (ja ?_ (ja ?_ (ja ?_ (ja ?_ (ja ?_ (ja ?_ (ja ?_ (ja ?_ (ja ?_ (ja ?_ (ja ?_ (ja ?_ jD)))))))))))))))))))))) ?_
  case hAx1 =>
    intro ptrs
    simp only [full, foldSlots, filledE, postE, List.foldl_cons, List.foldl_nil, List.getD_cons_zero, List.getD_cons_succ, zu, fill_all, List.set_cons_zero, List.set_cons_succ]
    exact rfl
  exact fun _ _ _ _ => jf _ rfl rfl rfl
  exact fun _ _ hw _ => jb rfl (jl _ rfl _ rfl)
  exact fun _ _ hw _ => jb rfl (je 106 _ 1 rfl _ _ rfl _ (by kernel_rfl))
  exact fun _ _ hw _ => jb rfl (je 101 _ 0 rfl _ _ rfl _ (by kernel_rfl))
  exact fun _ _ hw _ => jb rfl (jo 64 _ rfl lp 1 rfl 106 _ (hw.has klp) (na64 _) _ rfl)
  exact fun _ _ hw _ => jb rfl (yh 64 64 _ _ rfl h.g 1 rfl rfl (by omega) _)
  exact fun _ _ _ _ => jf _ rfl rfl rfl
  exact fun _ _ hw _ => jb rfl (jl _ rfl _ rfl)
  exact fun _ _ hw _ => jb rfl (je 106 _ 1 rfl _ _ rfl _ (by kernel_rfl))
  exact fun _ _ hw _ => jb rfl (je 101 _ 1 rfl _ _ rfl _ (by kernel_rfl))
  exact fun _ _ hw _ => jb rfl (jo 64 _ rfl lp 2 rfl 106 _ (hw.has klp) (na64 _) _ rfl)
  exact fun _ _ _ _ => jf _ rfl rfl rfl
  exact fun _ _ hw _ => jb rfl (conv325 _ rfl (secN l.length) (by omega) rfl _)
  exact fun _ _ hw _ => jb rfl (yh 64 64 _ _ rfl h.u (secN l.length) rfl rfl (by omega) _)
  exact fun _ _ _ _ => jf _ rfl rfl rfl
  exact fun _ _ hw _ => jb rfl (jl _ rfl _ rfl)
  exact fun _ _ hw _ => jb rfl (je 106 _ 1 rfl _ _ rfl _ (by kernel_rfl))
  exact fun _ _ hw _ => jb rfl (je 101 _ 2 rfl _ _ rfl _ (by kernel_rfl))
  exact fun _ _ hw _ => jb rfl (jo 64 _ rfl lp 3 rfl 106 _ (hw.has klp) (na64 _) _ rfl)
  exact fun _ _ hw _ => jb rfl (yh 64 64 _ _ rfl h.c 1 rfl rfl (by omega) _)
  exact fun _ _ hw _ => jb rfl (jK 101 _ rfl [(0, .int .u64 ((h.g + 1 : Nat) : Int)), (1, .int .u64 ((h.u + secN l.length : Nat) : Int)), (2, .int .u64 ((h.c + 1 : Nat) : Int))] rfl _ (by kernel_rfl))
  exact fun _ _ hw _ => allE_new rfl rfl (GG.drew.tg hw).size
  intro ptrs w4 GD hxE
  simp only [List.drop_succ_cons, List.drop_zero]
  replace klp := GD.has klp
  replace HD := HD.gro ((Gro.refl _).drew.trans GD)
  replace HB := HB.gro ((Gro.refl _).drew.trans GD)
  replace GG := GG.drew.tg GD
  obtain ⟨⟨ga6, hga6, bga6, kga6⟩, _⟩ := hxE
  simp only [hga6]
  clear GD
  refine jE rfl rfl 101 _ _ rfl ga6 0 rfl (.agg (c101 ((h.g + 1 : Nat) : Int) ((h.u + secN l.length : Nat) : Int) ((h.c + 1 : Nat) : Int))) rfl 101 _ kga6 (c101 ((h.g + 1 : Nat) : Int) ((h.u + secN l.length : Nat) : Int) ((h.c + 1 : Nat) : Int)) rfl (by kernel_rfl) (Nat.le_of_ble_eq_true rfl) (by kernel_rfl) (c101 ((h.g + 1 : Nat) : Int) ((h.u + secN l.length : Nat) : Int) ((h.c + 1 : Nat) : Int)) (by kernel_rfl) ?_
  intro w6 St
  replace klp := St.has (by omega) klp
  replace HD := HD.st St (by omega) (by omega)
  replace HB := HB.st St (fun ad ha h0 => by have := HB0 ad ha h0; omega)
  replace GG := GG.st St (.inl bga6)
  replace kga6 := St.new
  clear St
  refine qL (qE ?_)
  refine exQ 13 [(0, 51), (1, 52), (2, 53), (3, 54), (4, 55), (5, 56), (6, 57), (7, 58), (8, 59), (9, 60), (10, 61), (11, 62), (12, 63)] [.val (vP lp 0), .val (vP lp 0), .val (vP lp 0), .val (vP p 0), .val (vP lp 0), .val (vP lp 0), .val (vP lp 1), .val (vP lp 2), .val (.int .u64 ((h.u : Nat) : Int)), .val (nK h.u), .val (nK (2 + h.u)), .val (nK (secN l.length)), .val (.slice ao l.length cap)] follows (by kernel_rfl) rfl (ja ?_ (ja ?_ (ja ?_ (ja ?_ (ja ?_ (ja ?_ (ja ?_ (ja ?_ (ja ?_ (ja ?_ (ja ?_ (ja ?_ (ja ?_ jD))))))))))))) ?_
  exact fun _ _ _ _ => jf _ rfl rfl rfl
  exact fun _ _ hw _ => jb rfl (jl _ rfl _ rfl)
  exact fun _ _ hw _ => jb rfl (je 106 _ 0 rfl _ _ rfl _ (by kernel_rfl))
  exact fun _ _ hw _ => jb rfl (jo 23 _ rfl lp 0 rfl 106 _ (hw.has klp) (na23 _) _ rfl)
  exact fun _ _ _ _ => jf _ rfl rfl rfl
  exact fun _ _ hw _ => jb rfl (jl _ rfl _ rfl)
  exact fun _ _ hw _ => jb rfl (je 106 _ 1 rfl _ _ rfl _ (by kernel_rfl))
  exact fun _ _ hw _ => jb rfl (je 101 _ 1 rfl _ _ rfl _ (by kernel_rfl))
  exact fun _ _ hw _ => jb rfl (jo 64 _ rfl lp 2 rfl 106 _ (hw.has klp) (na64 _) _ rfl)
  exact fun _ _ hw _ => jb rfl (conv253 _ rfl h.u (by omega) rfl _)
  exact fun _ _ hw _ => jb rfl (jp _ _ _ rfl 2 ((h.u : Nat) : Int) _ rfl rfl (by omega) (by omega) (by omega) _)
  exact fun _ _ _ _ => jf _ rfl rfl rfl
  exact fun _ _ _ _ => jf _ rfl rfl rfl
  intro ptrs w7 GD hxE
  simp only [List.drop_succ_cons, List.drop_zero]
  replace klp := GD.has klp
  replace kga6 := GD.has kga6
  replace HD := HD.gro ((Gro.refl _).drew.trans GD)
  replace HB := HB.gro ((Gro.refl _).drew.trans GD)
  replace GG := GG.drew.tg GD
  clear GD
  have HX := Zj _ p sg n L pw dn HD hP (2 + h.u) (secN l.length) ao cap l HB hl rfl hs2 (by omega) hd (by omega)
  refine jq 64 rfl rfl _ 51 call51 rfl rfl _ rfl [vP p 0, nK (2 + h.u), nK (secN l.length), .slice ao l.length cap] rfl (HX) (fun _ _ ⟨_, _, he, _⟩ => ⟨_, he⟩) ?_
  rintro v w8 ⟨j, pj, he, G, hjk, hpj, hor, HD2⟩
  cases he
  replace klp := G.has klp (by simp; omega)
  replace kga6 := G.has kga6 (by simp; omega)
  replace GG := GG.trans (G.mono (fun x hx => by simp at hx ⊢; omega))
  clear G HD HX HB
  have HD := HD2
  clear HD2
  by_cases hje : j = secN l.length
  subst hje
  rw [if_pos rfl]
  refine nq ?_
  refine mv (iK 0) rfl (nq ?_)
  refine qL (qE (qE (qG (mv (iK 0) rfl (sv (vT) (jw 31 .i64 _ _ _ rfl underlying31 _ _ rfl rfl true rfl _) rfl (nq ?_))))))
  refine qL (qT rfl ?_)
  refine exQ 5 [(0, 67), (1, 68), (2, 69), (3, 70), (4, 71)] [.val (vP lp 0), .val (vP lp 0), .val (vP lp 0), .val (vP p 0), .val (.agg (c101 ((h.g + 1 : Nat) : Int) ((h.u + secN l.length : Nat) : Int) ((h.c + 1 : Nat) : Int)))] follows (by kernel_rfl) rfl (ja ?_ (ja ?_ (ja ?_ (ja ?_ (ja ?_ jD))))) ?_
  exact fun _ _ _ _ => jf _ rfl rfl rfl
  exact fun _ _ hw _ => jb rfl (jl _ rfl _ rfl)
  exact fun _ _ hw _ => jb rfl (je 106 _ 0 rfl _ _ rfl _ (by kernel_rfl))
  exact fun _ _ hw _ => jb rfl (jo 23 _ rfl lp 0 rfl 106 _ (hw.has klp) (na23 _) _ rfl)
  exact fun _ _ hw _ => jb rfl (zx 101 _ rfl ga6 0 3 rfl 101 _ (hw.has kga6) _ underlying101 rfl si101 (Nat.le_of_ble_eq_true rfl) _ (by kernel_rfl))
  intro ptrs w9 GD hxE
  simp only [List.drop_succ_cons, List.drop_zero]
  replace klp := GD.has klp
  replace kga6 := GD.has kga6
  replace HD := HD.gro ((Gro.refl _).drew.trans GD)
  replace GG := GG.drew.tg GD
  clear GD
  have HX := Yn _ p sg n _ _ _ HD (hpj.ok hP) ⟨h.g + 1, h.u + secN l.length, h.c + 1⟩ (by show h.g + 1 < lim; omega) (by show h.u + secN l.length < lim; omega) (by show h.c + 1 < lim; omega) (by omega) (by omega) (by omega)
  refine jq 72 rfl rfl _ 52 call52 rfl rfl _ rfl [vP p 0, .agg (c101 ((h.g + 1 : Nat) : Int) ((h.u + secN l.length : Nat) : Int) ((h.c + 1 : Nat) : Int))] rfl (HX) (fun _ _ ⟨_, he, _⟩ => ⟨_, he⟩) ?_
  rintro v w10 ⟨b, he, G, hb, HD2⟩
  cases he
  replace klp := G.has klp (by simp; omega)
  replace kga6 := G.has kga6 (by simp; omega)
  replace GG := GG.trans (G.mono (fun x hx => by simp at hx ⊢; omega))
  clear G HD HX
  have HD := HD2
  clear HD2
  cases b
  have h0 : pj = 0 := hb.2
  replace HD : DK _ p sg n _ _ _ := HD
  simp only [cond_false]
  refine nq ?_
  refine mv (iK 8) rfl (nq ?_)
  refine qL (qE (qE (qG (mv (iK 8) rfl (sv (vT) (jj 31 .i64 _ _ _ rfl underlying31 _ _ rfl rfl true rfl _) rfl (nq ?_))))))
  refine qL (qT rfl (qE (qG (mv (vP lp 0) rfl (sv (vP lp 0) (jl _ rfl _ rfl) rfl (sv (vP lp 4) (je 106 _ 2 rfl _ _ rfl _ (by kernel_rfl)) rfl (nq ?_)))))))
  refine jE rfl rfl 4 _ _ rfl lp 4 rfl (vT) rfl 106 _ klp #[vT] rfl (by kernel_rfl) (Nat.le_of_ble_eq_true rfl) (by kernel_rfl) (c106 (some ⟨p, 0, none⟩) ((h.g : Nat) : Int) ((h.u : Nat) : Int) ((h.c : Nat) : Int) true) (by kernel_rfl) ?_
  intro w12 St
  replace kga6 := St.has (by omega) kga6
  replace HD := HD.st St (by omega) (by omega)
  replace GG := GG.st St (.inr (by simp))
  replace klp := St.new
  clear St
  refine qL (qE (qG (mv (iK 8) rfl (mv (iK 8) rfl (nq ?_)))))
  refine qL (qR (jm ?_))
  refine bodyPost_ret (results_tmp results27 _ _ _) rfl ?_
  have hA := apF hpj hjk h0
  unfold AppendP apL apH
  rw [hA.1, hA.2.1, hA.2.2]
  subst h0
  exact ⟨_, rfl, GG, (by omega), (by omega), HD, ⟨klp⟩⟩
  have h0 : pj ≠ 0 := hb.1
  replace HD : DK _ p sg n _ _ _ := HD
  simp only [cond_true]
  refine nq ?_
  refine mv (iK 0) rfl (nq ?_)
  refine qL (qE (qE (qG (mv (iK 0) rfl (sv (vF) (jj 31 .i64 _ _ _ rfl underlying31 _ _ rfl rfl false rfl _) rfl (nq ?_))))))
  refine qL (qF rfl (qK (qE (qG (mv (vP lp 0) rfl (sv (.agg (c101 ((h.g + 1 : Nat) : Int) ((h.u + secN l.length : Nat) : Int) ((h.c + 1 : Nat) : Int))) (zx 101 _ rfl ga6 0 3 rfl 101 _ kga6 _ underlying101 rfl si101 (Nat.le_of_ble_eq_true rfl) _ (by kernel_rfl)) rfl (sv (vP lp 0) (jl _ rfl _ rfl) rfl (sv (vP lp 1) (je 106 _ 1 rfl _ _ rfl _ (by kernel_rfl)) rfl (nq ?_)))))))))
  refine jE rfl rfl 101 _ _ rfl lp 1 rfl (.agg (c101 ((h.g + 1 : Nat) : Int) ((h.u + secN l.length : Nat) : Int) ((h.c + 1 : Nat) : Int))) rfl 106 _ klp (c101 ((h.g + 1 : Nat) : Int) ((h.u + secN l.length : Nat) : Int) ((h.c + 1 : Nat) : Int)) rfl (by kernel_rfl) (Nat.le_of_ble_eq_true rfl) (by kernel_rfl) (c106 (some ⟨p, 0, none⟩) ((h.g + 1 : Nat) : Int) ((h.u + secN l.length : Nat) : Int) ((h.c + 1 : Nat) : Int) false) (by kernel_rfl) ?_
  intro w12 St
  replace kga6 := St.has (by omega) kga6
  replace HD := HD.st St (by omega) (by omega)
  replace GG := GG.st St (.inr (by simp))
  replace klp := St.new
  clear St
  refine qL (qE (qG (mv (iK 0) rfl (nq ?_))))
  refine qL (qR ?_)
  refine bodyPost_ret (results_tmp results27 _ _ _) rfl ?_
  have hA := apS hpj h0
  unfold AppendP apL apH
  rw [hA.1, hA.2]
  rw [ZG] at HD
  exact ⟨_, rfl, GG, (by omega), (by omega), HD, ⟨klp⟩⟩
  have h0 : pj = 0 := by omega
  rw [if_neg hje]
  refine nq ?_
  refine mv (iK 8) rfl (nq ?_)
  refine qL (qE (qE (qG (mv (iK 8) rfl (sv (vF) (jw 31 .i64 _ _ _ rfl underlying31 _ _ rfl rfl false rfl _) rfl (nq ?_))))))
  refine qL (qF rfl (qK (qE (qE (qG (mv (iK 8) rfl (sv (vT) (jj 31 .i64 _ _ _ rfl underlying31 _ _ rfl rfl true rfl _) rfl (nq ?_))))))))
  refine qL (qT rfl (qE (qG (mv (vP lp 0) rfl (sv (vP lp 0) (jl _ rfl _ rfl) rfl (sv (vP lp 4) (je 106 _ 2 rfl _ _ rfl _ (by kernel_rfl)) rfl (nq ?_)))))))
  refine jE rfl rfl 4 _ _ rfl lp 4 rfl (vT) rfl 106 _ klp #[vT] rfl (by kernel_rfl) (Nat.le_of_ble_eq_true rfl) (by kernel_rfl) (c106 (some ⟨p, 0, none⟩) ((h.g : Nat) : Int) ((h.u : Nat) : Int) ((h.c : Nat) : Int) true) (by kernel_rfl) ?_
  intro w10 St
  replace kga6 := St.has (by omega) kga6
  replace HD := HD.st St (by omega) (by omega)
  replace GG := GG.st St (.inr (by simp))
  replace klp := St.new
  clear St
  refine qL (qE (qG (mv (iK 8) rfl (mv (iK 8) rfl (nq ?_)))))
  refine qL (qR (jm ?_))
  refine bodyPost_ret (results_tmp results27 _ _ _) rfl ?_
  have hA := apF hpj hjk h0
  unfold AppendP apL apH
  rw [hA.1, hA.2.1, hA.2.2]
  subst h0
  exact ⟨_, rfl, GG, (by omega), (by omega), HD, ⟨klp⟩⟩
end Go.Proofs.YtgfnjekpafempaaGreat
