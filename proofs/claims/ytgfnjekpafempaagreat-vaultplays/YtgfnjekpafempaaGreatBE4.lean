import Derived.Test.YtgfnjekpafempaaGreatBE3
import Derived.Test.YtgfnjekpafempaaGreatBAb
namespace Go.Proofs.YtgfnjekpafempaaGreat
open Go.Proofs.Tryz
set_option maxHeartbeats 4000000
set_option maxRecDepth 100000
open Go.RowKit
structure LK (w : World) (lp p : Nat) (h : Hd) (dw : Bool) : Prop where
  box : w.heap[lp]? = some (.cells (c106 (some ⟨p, 0, none⟩) (h.g : Int) (h.u : Int) (h.c : Int) dw) 106 (0, 0))
theorem LK.gro {w w' : World} {lp p : Nat} {h : Hd} {dw : Bool} (H : LK w lp p h dw) (G : Gro w w') : LK w' lp p h dw := ⟨G.has H.box⟩
theorem LK.gros {S : List Nat} {w w' : World} {lp p : Nat} {h : Hd} {dw : Bool} (H : LK w lp p h dw) (G : GroS S w w') (hs : lp ∉ S) : LK w' lp p h dw := ⟨G.has H.box hs⟩
theorem LK.st {w w' : World} {lp p : Nat} {h : Hd} {dw : Bool} {g : Nat} {x : Obj} (H : LK w lp p h dw) (S : Stored w w' g x) (h1 : g ≠ lp) : LK w' lp p h dw := ⟨S.has (Ne.symm h1) H.box⟩
theorem LK.below {w w' : World} {lp p B : Nat} {h : Hd} {dw : Bool} (H : LK w lp p h dw) (G : Below B w w') (h1 : lp < B) : LK w' lp p h dw := ⟨by rw [G.block lp h1]; exact H.box⟩
theorem JQ (w : World) (p sg n : Nat) (L : List Nat) (pw dn : Int) (H : DK w p sg n L pw dn) (u : Nat) (hu : u + 2 ≤ n) (rs : List (List Nat)) (hr : prs (reg L u) = some rs) : Calls Tryz.prog 45 #[.pointer (some ⟨p, 0, none⟩), .int .i64 ((u : Nat) : Int)] w fun e w' => ∃ ao cap q, e = .returned (.tuple #[.slice ao (List.length q) cap, .bool true]) ∧ rs = q.map (·.2) ∧ Gro w w' ∧ RS w' w.heap.size ao cap q := by
  have := Zl w p sg n L pw dn H u hu
  rw [hr] at this
  exact this
theorem jaf (w : World) (p sg n : Nat) (L : List Nat) (pw dn : Int) (H : DK w p sg n L pw dn) (hn : 3 ≤ n) (h1 : (cntE L).g ≤ 9223372036854775807) (h2 : (cntE L).u ≤ n - 2) (h3 : (cntE L).c ≤ (cntE L).u) (rs : List (List Nat)) (hr : prs (reg L (cntE L).u) = some rs) (hd : rs.length = (cntE L).c) : Calls Tryz.prog 25 #[vP p 0] w fun e w' => ∃ lp ao cap q, e = .returned (.tuple #[vP lp 0, .slice ao (List.length q) cap, iK 0]) ∧ rs = q.map (·.2) ∧ Gro w w' ∧ w.heap.size ≤ lp ∧ LK w' lp p (cntE L) false ∧ RS w' w.heap.size ao cap q := by
  refine eN func25 rfl ntmps25 [vP p 0] ?_
  have GG := Gro.refl w
  have hn4 := H.le
  have hlt := uM H.byte
  have hlim : lim = 18446744073709551616 := rfl
  refine qE (qG (mv (.pointer none) rfl (mv (.slice none 0 0) rfl (mv (iK 0) rfl (nq ?_)))))
  refine qL (qE (qE (qG (mv (vP p 0) rfl (nq ?_)))))
  refine jr 9 rfl rfl _ 33 call33 rfl rfl _ rfl [vP p 0] rfl (yT _ p sg n L pw dn (H.gro GG)) ?_
  intro w1 G
  replace GG := GG.trans G
  clear G
  refine nq ?_
  refine sv (vF) (yV 3 _ _ _ rfl ((n : Nat) : Int) 2 rfl rfl false (decide_eq_false (by omega)) _) rfl (nq ?_)
  refine qL (qF rfl (qK (qE (qG (mv (vP p 0) rfl (nq ?_))))))
  refine jr 12 rfl rfl _ 44 call44 rfl rfl _ rfl [vP p 0] rfl (Vt _ p sg n L pw dn (H.gro GG) (by omega)) ?_
  intro w2 G
  replace GG := GG.trans G
  clear G
  refine nq ?_
  refine jH 5 rfl rfl 101 rfl _ zv101 _ rfl ?_
  intro w3 g1 G eg1 kg1
  have bg1 := jh GG eg1
  replace GG := GG.trans G
  clear G eg1
  refine nq ?_
  refine jE rfl rfl 101 _ _ rfl g1 0 rfl (.agg (c101 (((cntE L).g : Nat) : Int) (((cntE L).u : Nat) : Int) (((cntE L).c : Nat) : Int))) rfl 101 _ kg1 (c101 (((cntE L).g : Nat) : Int) (((cntE L).u : Nat) : Int) (((cntE L).c : Nat) : Int)) rfl (by kernel_rfl) (Nat.le_of_ble_eq_true rfl) (by kernel_rfl) (c101 (((cntE L).g : Nat) : Int) (((cntE L).u : Nat) : Int) (((cntE L).c : Nat) : Int)) (by kernel_rfl) ?_
  intro w5 St
  replace GG := GG.store St bg1
  replace kg1 := St.new
  clear St
  refine qL (qE (qE ?_))
  refine exQ 17 [(0, 13), (1, 14), (2, 15), (3, 16), (4, 17), (5, 18), (6, 19), (7, 20), (8, 21), (9, 22), (10, 23), (11, 24), (12, 25), (13, 26), (14, 27), (15, 28), (16, 29)] [.val (vP g1 0), .val (.int .u64 (((cntE L).g : Nat) : Int)), .val (vF), .val (vF), .val (vP g1 1), .val (.int .u64 (((cntE L).u : Nat) : Int)), .val (vP p 0), .val (nK n), .val (nK (n - 2)), .val (.int .u64 ((n - 2 : Nat) : Int)), .val (vF), .val (vF), .val (vF), .val (vP g1 2), .val (.int .u64 (((cntE L).c : Nat) : Int)), .val (vP g1 1), .val (.int .u64 (((cntE L).u : Nat) : Int))] follows (by kernel_rfl) rfl (ja ?_ (ja ?_ (ja ?_ (ja ?_ (ja ?_ (ja ?_ (ja ?_ (ja ?_ (ja ?_ (ja ?_ (ja ?_ (ja ?_ (ja ?_ (ja ?_ (ja ?_ (ja ?_ (ja ?_ jD))))))))))))))))) ?_
  exact fun _ _ hw _ => jb rfl (je 101 _ 0 rfl _ _ rfl _ (by kernel_rfl))
  exact fun _ _ hw _ => jb rfl (jo 64 _ rfl g1 0 rfl 101 _ (hw.has kg1) (na64 _) _ rfl)
  exact fun _ _ hw _ => jb rfl (jR 64 64 _ _ rfl (cntE L).g 9223372036854775807 rfl rfl false (by first | exact decide_eq_true (by omega) | exact decide_eq_false (by omega)) _)
  exact fun _ _ _ _ => jf _ rfl rfl rfl
  exact fun _ _ hw _ => jb rfl (je 101 _ 1 rfl _ _ rfl _ (by kernel_rfl))
  exact fun _ _ hw _ => jb rfl (jo 64 _ rfl g1 1 rfl 101 _ (hw.has kg1) (na64 _) _ rfl)
  exact fun _ _ _ _ => jf _ rfl rfl rfl
  exact fun _ _ hw _ => zi (.val (nK n)) rfl _ 33 call33 rfl rfl _ rfl [vP p 0] rfl ((yT _ p sg n L pw dn (H.gro (GG.drew.trans hw))).mono fun e w' ⟨he, hg⟩ => ⟨_, he, hg, rfl⟩)
  exact fun _ _ hw _ => jb rfl (jP _ _ _ rfl ((n : Nat) : Int) 2 _ rfl rfl (by omega) (by omega) (by omega) _)
  exact fun _ _ hw _ => jb rfl (conv325 _ rfl (n - 2) (by omega) rfl _)
  exact fun _ _ hw _ => jb rfl (jR 64 64 _ _ rfl (cntE L).u (n - 2) rfl rfl false (by first | exact decide_eq_true (by omega) | exact decide_eq_false (by omega)) _)
  exact fun _ _ _ _ => zw (v := vF) _ _ _ rfl rfl false rfl rfl
  exact fun _ _ _ _ => jf _ rfl rfl rfl
  exact fun _ _ hw _ => jb rfl (je 101 _ 2 rfl _ _ rfl _ (by kernel_rfl))
  exact fun _ _ hw _ => jb rfl (jo 64 _ rfl g1 2 rfl 101 _ (hw.has kg1) (na64 _) _ rfl)
  exact fun _ _ hw _ => jb rfl (je 101 _ 1 rfl _ _ rfl _ (by kernel_rfl))
  exact fun _ _ hw _ => jb rfl (jo 64 _ rfl g1 1 rfl 101 _ (hw.has kg1) (na64 _) _ rfl)
  intro ptrs w6 GD hxE
  simp only [List.drop_succ_cons, List.drop_zero]
  replace kg1 := GD.has kg1
  replace GG := GG.drew.trans GD
  clear GD
  refine YU 30 rfl rfl (vF) (jR 64 64 _ _ rfl (cntE L).c (cntE L).u rfl rfl false (by first | exact decide_eq_true (by omega) | exact decide_eq_false (by omega)) _) ?_
  refine nq ?_
  refine mv (vF) rfl (nq ?_)
  refine qL (qF rfl (qK (qE (qG (mv (vP p 0) rfl (sv (vP g1 1) (je 101 _ 1 rfl _ _ rfl _ (by kernel_rfl)) rfl (sv (.int .u64 (((cntE L).u : Nat) : Int)) (jo 64 _ rfl g1 1 rfl 101 _ kg1 (na64 _) _ rfl) rfl (sv (iK (((cntE L).u : Nat) : Int)) (conv253 _ rfl (cntE L).u (by omega) rfl _) rfl (nq ?_)))))))))
  refine jq 37 rfl rfl _ 45 call45 rfl rfl _ rfl [vP p 0, iK (((cntE L).u : Nat) : Int)] rfl (JQ _ p sg n L pw dn (H.gro GG) (cntE L).u (by omega) rs hr) (fun _ _ ⟨_, _, _, he, _⟩ => ⟨_, he⟩) ?_
  rintro v w7 ⟨ao, cap, q, he, hrq, G, HL⟩
  cases he
  subst hrq
  have hql : (q.map (·.2)).length = q.length := List.length_map _
  have bRS := GG.size
  replace kg1 := G.has kg1
  replace GG := GG.trans G
  clear G
  refine nq ?_
  have hqlim : q.length < 9223372036854775808 := by have := HL.ox.xc.fit; have h2 := cap_le HL.ox; omega
  refine mv (.tuple #[.slice ao q.length cap, vT]) rfl (mv (.slice ao q.length cap) rfl (mv (vT) rfl (mv (.slice ao q.length cap) rfl (mv (vT) rfl (nq ?_)))))
  refine qL (qE (qE ?_))
  refine jg ?_
  intro OPS hY
  have y2 := hY 2 42 rfl
  clear hY
  refine mv (vT) rfl (sv (vF) (jZ _ _ rfl true rfl) rfl (mv (vF) rfl (jd 43 rfl rfl y2 rfl (.slice ao q.length cap) (rfl) (jd 44 rfl rfl y2 rfl (nK q.length) (js underlying73 _ rfl _ _ _ rfl _) (jd 45 rfl rfl y2 rfl (.int .u64 ((q.length : Nat) : Int)) (conv325 _ rfl q.length (by omega) rfl _) ?_)))))
  refine nq ?_
  refine jd 46 rfl rfl y2 rfl (vP g1 2) (je 101 _ 2 rfl _ _ rfl _ (by kernel_rfl)) (jd 47 rfl rfl y2 rfl (.int .u64 (((cntE L).c : Nat) : Int)) (jo 64 _ rfl g1 2 rfl 101 _ kg1 (na64 _) _ rfl) (jd 48 rfl rfl y2 rfl (vF) (jj 64 .u64 _ _ _ rfl underlying64 ((q.length : Nat) : Int) (((cntE L).c : Nat) : Int) rfl rfl false (by first | exact decide_eq_true (by omega) | exact decide_eq_false (by omega)) _) (mv (vF) rfl (nq ?_))))
  refine qL (qF rfl (qK (qE (qG (mv (vP p 0) rfl (sv (.agg (c101 (((cntE L).g : Nat) : Int) (((cntE L).u : Nat) : Int) (((cntE L).c : Nat) : Int))) (zx 101 _ rfl g1 0 3 rfl 101 _ kg1 _ underlying101 rfl si101 (Nat.le_of_ble_eq_true rfl) _ (by kernel_rfl)) rfl (sv (.agg (c106 (some ⟨p, 0, none⟩) (((cntE L).g : Nat) : Int) (((cntE L).u : Nat) : Int) (((cntE L).c : Nat) : Int) false)) (jK 106 _ rfl [(0, vP p 0), (1, .agg (c101 (((cntE L).g : Nat) : Int) (((cntE L).u : Nat) : Int) (((cntE L).c : Nat) : Int)))] rfl _ (by kernel_rfl)) rfl (nq ?_))))))))
  refine jW 53 rfl rfl 106 _ rfl _ rfl (c106 (some ⟨p, 0, none⟩) (((cntE L).g : Nat) : Int) (((cntE L).u : Nat) : Int) (((cntE L).c : Nat) : Int) false) rfl ?_
  intro w8 g2 G eg2 kg2
  have bg2 := jh GG eg2
  have dg1g2 := jn kg1 eg2
  replace kg1 := G.has kg1
  replace HL := HL.gro G
  replace GG := GG.trans G
  clear G eg2
  refine nq ?_
  refine mv (.slice ao q.length cap) rfl (mv (vP g2 0) rfl (mv (.slice ao q.length cap) rfl (mv (iK 0) rfl (nq ?_))))
  refine qL (qR ?_)
  refine bodyPost_ret (results_tmp3 results25 _ _ _) rfl ?_
  exact ⟨g2, ao, cap, q, rfl, rfl, GG, bg2, ⟨kg2⟩, ⟨HL.ox.mono bRS, fun x hx => ⟨Nat.le_trans bRS (HL.row x hx).1, (HL.row x hx).2⟩⟩⟩
theorem Zx (w : World) (p sg n : Nat) (L : List Nat) (pw dn : Int) (H : DK w p sg n L pw dn) (hn : 3 ≤ n) (rs : List (List Nat)) (ho : opE L n = some rs) : Calls Tryz.prog 25 #[.pointer (some ⟨p, 0, none⟩)] w fun e w' => ∃ lp ao cap q, e = .returned (.tuple #[.pointer (some ⟨lp, 0, none⟩), .slice ao (List.length q) cap, .int .i64 0]) ∧ rs = q.map (·.2) ∧ Gro w w' ∧ w.heap.size ≤ lp ∧ LK w' lp p (cntE L) false ∧ RS w' w.heap.size ao cap q := by
  by_cases h1 : 9223372036854775807 < (cntE L).g ∨ n - 2 < (cntE L).u ∨ (cntE L).u < (cntE L).c
  · rw [opE, if_pos h1] at ho
    cases ho
  rw [opE, if_neg h1] at ho
  cases hr : prs (reg L (cntE L).u) with
  | none => rw [hr] at ho; cases ho
  | some rs' =>
    rw [hr, Option.bind_some] at ho
    by_cases hd : rs'.length = (cntE L).c
    · rw [if_pos hd] at ho
      cases ho
      exact jaf w p sg n L pw dn H hn (by omega) (by omega) (by omega) rs hr hd
    · rw [if_neg hd] at ho
      cases ho
theorem Qf (w : World) (p sg n : Nat) (L : List Nat) (pw dn : Int) (H : DK w p sg n L pw dn) (hn : n ≤ 2) : Calls Tryz.prog 25 #[vP p 0] w fun e w' => e = .returned (.tuple #[.pointer none, .slice none 0 0, iK 1]) ∧ Gro w w' := by
  refine eN func25 rfl ntmps25 [vP p 0] ?_
  have GG := Gro.refl w
  refine qE (qG (mv (.pointer none) rfl (mv (.slice none 0 0) rfl (mv (iK 0) rfl (nq ?_)))))
  refine qL (qE (qE (qG (mv (vP p 0) rfl (nq ?_)))))
  refine jr 9 rfl rfl _ 33 call33 rfl rfl _ rfl [vP p 0] rfl (yT _ p sg n L pw dn (H.gro GG)) ?_
  intro w1 G
  replace GG := GG.trans G
  clear G
  refine nq ?_
  refine sv (vT) (yV 3 _ _ _ rfl ((n : Nat) : Int) 2 rfl rfl true (decide_eq_true (by omega)) _) rfl (nq ?_)
  refine qL (qT rfl (qE (qG (mv (.pointer none) rfl (mv (.slice none 0 0) rfl (mv (iK 1) rfl (nq ?_)))))))
  refine qL (qR (jm ?_))
  refine bodyPost_ret (results_tmp3 results25 _ _ _) rfl ?_
  exact ⟨rfl, GG⟩
theorem Ue (w : World) (lp p : Nat) (h : Hd) (dw : Bool) (HK : LK w lp p h dw) (sg n : Nat) (L : List Nat) (pw dn : Int) (HD : DK w p sg n L pw dn) (hu : h.u + 2 ≤ n) : Calls Tryz.prog 50 #[vP lp 0] w fun e w' => e = .returned (nK (n - 2 - h.u)) ∧ Gro w w' := by
  refine eN func50 rfl ntmps50 [vP lp 0] ?_
  have GG := Gro.refl w
  have klp := HK.box
  have hn4 := HD.le
  refine qE (qG (mv (iK 0) rfl (nq ?_)))
  refine qL (qE (qE (qG (mv (vP lp 0) rfl (sv (vF) (jT 72 _ _ _ rfl _ rfl rfl underlying72 _) rfl (nq ?_))))))
  refine qL (qF rfl (qK (qE ?_)))
  refine exQ 12 [(0, 5), (1, 6), (2, 7), (3, 8), (4, 9), (5, 10), (6, 11), (7, 12), (8, 13), (9, 14), (10, 15), (11, 16)] [.val (vP lp 0), .val (vP lp 0), .val (vP lp 0), .val (vP p 0), .val (nK n), .val (nK (n - 2)), .val (vP lp 0), .val (vP lp 0), .val (vP lp 1), .val (vP lp 2), .val (.int .u64 ((h.u : Nat) : Int)), .val (nK h.u)] follows (by kernel_rfl) rfl (ja ?_ (ja ?_ (ja ?_ (ja ?_ (ja ?_ (ja ?_ (ja ?_ (ja ?_ (ja ?_ (ja ?_ (ja ?_ (ja ?_ jD)))))))))))) ?_
  exact fun _ _ _ _ => jf _ rfl rfl rfl
  exact fun _ _ hw _ => jb rfl (jl _ rfl _ rfl)
  exact fun _ _ hw _ => jb rfl (je 106 _ 0 rfl _ _ rfl _ (by kernel_rfl))
  exact fun _ _ hw _ => jb rfl (jo 23 _ rfl lp 0 rfl 106 _ (hw.has klp) (na23 _) _ rfl)
  exact fun _ _ hw _ => zi (.val (nK n)) rfl _ 33 call33 rfl rfl _ rfl [vP p 0] rfl ((yT _ p sg n L pw dn (HD.gro (GG.drew.trans hw))).mono fun e w' ⟨he, hg⟩ => ⟨_, he, hg, rfl⟩)
  exact fun _ _ hw _ => jb rfl (jP _ _ _ rfl ((n : Nat) : Int) 2 _ rfl rfl (by omega) (by omega) (by omega) _)
  exact fun _ _ _ _ => jf _ rfl rfl rfl
  exact fun _ _ hw _ => jb rfl (jl _ rfl _ rfl)
  exact fun _ _ hw _ => jb rfl (je 106 _ 1 rfl _ _ rfl _ (by kernel_rfl))
  exact fun _ _ hw _ => jb rfl (je 101 _ 1 rfl _ _ rfl _ (by kernel_rfl))
  exact fun _ _ hw _ => jb rfl (jo 64 _ rfl lp 2 rfl 106 _ (hw.has klp) (na64 _) _ rfl)
  exact fun _ _ hw _ => jb rfl (conv253 _ rfl h.u (by omega) rfl _)
  intro ptrs w1 GD hxE
  simp only [List.drop_succ_cons, List.drop_zero]
  replace klp := GD.has klp
  replace GG := GG.drew.trans GD
  clear GD
  refine sv (nK (n - 2 - h.u)) (jP _ _ _ rfl ((n - 2 : Nat) : Int) ((h.u : Nat) : Int) _ rfl rfl (by omega) (by omega) (by omega) _) rfl (mv (nK (n - 2 - h.u)) rfl (nq ?_))
  refine qL (qR ?_)
  refine bodyPost_ret (results_tmp results50 _ _ _) rfl ?_
  exact ⟨rfl, GG⟩
theorem down_any (w : World) (lp p : Nat) (h : Hd) (dw : Bool) (HK : LK w lp p h dw) : Calls Tryz.prog 43 #[vP lp 0] w fun e w' => e = .returned (.bool dw) ∧ Gro w w' := by
  refine eN func43 rfl ntmps43 [vP lp 0] ?_
  have GG := Gro.refl w
  have klp := HK.box
  refine qE (qG (mv (vF) rfl (nq ?_)))
  refine qL (qE ?_)
  refine jg ?_
  intro OPS hY
  have y2 := hY 2 5 rfl
  clear hY
  refine mv (vP lp 0) rfl (sv (vT) (VS 72 _ _ _ rfl _ rfl rfl underlying72 _) rfl (mv (vT) rfl (jd 6 rfl rfl y2 rfl (vP lp 0) (rfl) (jd 7 rfl rfl y2 rfl (vP lp 0) (jl _ rfl _ rfl) (jd 8 rfl rfl y2 rfl (vP lp 4) (je 106 _ 2 rfl _ _ rfl _ (by kernel_rfl)) ?_)))))
  refine nq ?_
  refine jd 9 rfl rfl y2 rfl (.bool dw) (jo 4 _ rfl lp 4 rfl 106 _ klp (na4 _) _ rfl) (mv (.bool dw) rfl (mv (.bool dw) rfl (nq ?_)))
  refine qL (qR ?_)
  refine bodyPost_ret (results_tmp results43 _ _ _) rfl ?_
  exact ⟨rfl, GG⟩
end Go.Proofs.YtgfnjekpafempaaGreat
