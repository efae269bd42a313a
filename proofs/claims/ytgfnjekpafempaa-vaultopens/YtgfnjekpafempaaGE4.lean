/- Open; how many records, how much room, whether power failed. -/
import Derived.Test.YtgfnjekpafempaaGE3
import Derived.Test.YtgfnjekpafempaaGAb
namespace Go.Proofs.Ytgfnjekpafempaa
set_option maxHeartbeats 4000000
set_option maxRecDepth 100000
open Go.RowKit
structure LK (w : World) (lp p : Nat) (h : Hd) (dw : Bool) : Prop where
  box : w.heap[lp]? = some (.cells (c124 (some ⟨p, 0, none⟩) (h.g : Int) (h.u : Int) (h.c : Int) dw) 124 (0, 0))
theorem LK.gro {w w' : World} {lp p : Nat} {h : Hd} {dw : Bool} (H : LK w lp p h dw) (G : Gro w w') : LK w' lp p h dw := ⟨G.has H.box⟩
theorem LK.gros {S : List Nat} {w w' : World} {lp p : Nat} {h : Hd} {dw : Bool} (H : LK w lp p h dw) (G : GroS S w w') (hs : lp ∉ S) : LK w' lp p h dw := ⟨G.has H.box hs⟩
theorem LK.st {w w' : World} {lp p : Nat} {h : Hd} {dw : Bool} {g : Nat} {x : Obj} (H : LK w lp p h dw) (S : Stored w w' g x) (h1 : g ≠ lp) : LK w' lp p h dw := ⟨S.has (Ne.symm h1) H.box⟩
theorem LK.below {w w' : World} {lp p B : Nat} {h : Hd} {dw : Bool} (H : LK w lp p h dw) (G : Below B w w') (h1 : lp < B) : LK w' lp p h dw := ⟨by rw [G.block lp h1]; exact H.box⟩
theorem Jn (w : World) (p sg n : Nat) (L : List Nat) (pw dn : Int) (H : DK w p sg n L pw dn) (u : Nat) (hu : u + 2 ≤ n) (rs : List (List Nat)) (hr : prs (reg L u) = some rs) : Calls Try.prog 60 #[.pointer (some ⟨p, 0, none⟩), .int .i64 ((u : Nat) : Int)] w fun e w' => ∃ ao cap q, e = .returned (.tuple #[.slice ao (List.length q) cap, .bool true]) ∧ rs = q.map (·.2) ∧ Gro w w' ∧ RS w' w.heap.size ao cap q := by
  have := JH w p sg n L pw dn H u hu
  rw [hr] at this
  exact this
theorem QJ (w : World) (p sg n : Nat) (L : List Nat) (pw dn : Int) (H : DK w p sg n L pw dn) (hn : 3 ≤ n) (h1 : (cntE L).g ≤ 9223372036854775807) (h2 : (cntE L).u ≤ n - 2) (h3 : (cntE L).c ≤ (cntE L).u) (rs : List (List Nat)) (hr : prs (reg L (cntE L).u) = some rs) (hd : rs.length = (cntE L).c) : Calls Try.prog 37 #[vP p 0] w fun e w' => ∃ lp ao cap q, e = .returned (.tuple #[vP lp 0, .slice ao (List.length q) cap, iK 0]) ∧ rs = q.map (·.2) ∧ Gro w w' ∧ w.heap.size ≤ lp ∧ LK w' lp p (cntE L) false ∧ RS w' w.heap.size ao cap q := by
  refine js Try.func37 rfl Try.ntmps37 [vP p 0] [vP p 0, uD, uD, uD, uD, uD, uD, uD, uD, uD, uD, uD, uD, uD, uD, uD, uD, uD, uD, uD, uD, uD, uD, uD, uD, uD, uD, uD, uD, uD, uD, uD, uD, uD, uD, uD, uD, uD, uD, uD, uD, uD, uD, uD, uD, uD, uD, uD, uD, uD, uD, uD, uD, uD, uD] rfl ?_
  have GG := Gro.refl w
  have hn4 := H.le
  have hlt := Ji H.byte
  have hlim : lim = 18446744073709551616 := rfl
  refine qS ?_
  refine ja 2 rfl rfl (.pointer none) (rfl) ?_
  refine ja 3 rfl rfl (.slice none 0 0) (rfl) ?_
  refine ja 4 rfl rfl (iK 0) (rfl) ?_
  refine nr ?_; intro U h; simp only [z0, z1] at h; subst h
  refine qL (qE (qS ?_))
  refine ja 8 rfl rfl (vP p 0) (rfl) ?_
  refine nr ?_; intro U h; simp only [z0, z1] at h; subst h
  refine jy 9 rfl rfl _ 43 Try.call43 rfl rfl _ rfl [vP p 0] rfl (va _ p sg n L pw dn (H.gro GG)) ?_
  intro w1 G
  replace GG := GG.trans G
  clear G
  refine nr ?_; intro U h; simp only [z0, z1] at h; subst h
  refine ja 10 rfl rfl (vF) (ve 3 _ _ _ rfl ((n : Nat) : Int) 2 rfl rfl false (decide_eq_false (by omega)) _) ?_
  refine nr ?_; intro U h; simp only [z0, z1] at h; subst h
  refine qL (qF rfl (qK (qS ?_)))
  refine ja 11 rfl rfl (vP p 0) (rfl) ?_
  refine nr ?_; intro U h; simp only [z0, z1] at h; subst h
  refine jy 12 rfl rfl _ 59 Try.call59 rfl rfl _ rfl [vP p 0] rfl (Yr _ p sg n L pw dn (H.gro GG) (by omega)) ?_
  intro w2 G
  replace GG := GG.trans G
  clear G
  refine nr ?_; intro U h; simp only [z0, z1] at h; subst h
  refine jU 5 rfl rfl 119 rfl _ zv119 _ rfl ?_
  intro w3 g1 G eg1 kg1
  have bg1 := jk GG eg1
  replace GG := GG.trans G
  clear G eg1
  refine nr ?_; intro U h; simp only [z0, z1] at h; subst h
  refine jt rfl rfl 119 _ _ rfl g1 0 rfl (.agg (c119 (((cntE L).g : Nat) : Int) (((cntE L).u : Nat) : Int) (((cntE L).c : Nat) : Int))) rfl 119 _ kg1 (c119 (((cntE L).g : Nat) : Int) (((cntE L).u : Nat) : Int) (((cntE L).c : Nat) : Int)) rfl (by kernel_rfl) (Nat.le_of_ble_eq_true rfl) (by kernel_rfl) (c119 (((cntE L).g : Nat) : Int) (((cntE L).u : Nat) : Int) (((cntE L).c : Nat) : Int)) (by kernel_rfl) ?_
  intro w5 St
  replace GG := GG.store St bg1
  replace kg1 := St.new
  clear St
  refine qL (qE (qE ?_))
  refine jl (A := ?Ax6) 17 [(0, 13), (1, 14), (2, 15), (3, 16), (4, 17), (5, 18), (6, 19), (7, 20), (8, 21), (9, 22), (10, 23), (11, 24), (12, 25), (13, 26), (14, 27), (15, 28), (16, 29)] [.val (vP g1 0), .val (.int .u64 (((cntE L).g : Nat) : Int)), .val (vF), .val (vF), .val (vP g1 1), .val (.int .u64 (((cntE L).u : Nat) : Int)), .val (vP p 0), .val (nK n), .val (nK (n - 2)), .val (.int .u64 ((n - 2 : Nat) : Int)), .val (vF), .val (vF), .val (vF), .val (vP g1 2), .val (.int .u64 (((cntE L).c : Nat) : Int)), .val (vP g1 1), .val (.int .u64 (((cntE L).u : Nat) : Int))] follows (by kernel_rfl) rfl ?hAx6 (jb ?o0x6 (jb ?o1x6 (jb ?o2x6 (jb ?o3x6 (jb ?o4x6 (jb ?o5x6 (jb ?o6x6 (jb ?o7x6 (jb ?o8x6 (jb ?o9x6 (jb ?o10x6 (jb ?o11x6 (jb ?o12x6 (jb ?o13x6 (jb ?o14x6 (jb ?o15x6 (jb ?o16x6 jF))))))))))))))))) ?restx6
  case hAx6 =>
    intro ptrs
    simp only [full, foldSlots, filledE, postE, List.foldl_cons, List.foldl_nil, List.getD_cons_zero, List.getD_cons_succ, jI, List.set_cons_zero, List.set_cons_succ]
    exact rfl
  case o0x6 => exact fun _ _ hw _ => jd (v := vP g1 0) rfl (jf 119 _ 0 rfl _ _ rfl _ (by kernel_rfl))
  case o1x6 => exact fun _ _ hw _ => jd (v := .int .u64 (((cntE L).g : Nat) : Int)) rfl (jq 75 _ rfl g1 0 rfl 119 _ (hw.has kg1) (na75 _) _ rfl)
  case o2x6 => exact fun _ _ hw _ => jd (v := vF) rfl (jS 75 75 _ _ rfl (cntE L).g 9223372036854775807 rfl rfl false (by first | exact decide_eq_true (by omega) | exact decide_eq_false (by omega)) _)
  case o3x6 => exact fun _ _ _ _ => jg (v := vF) _ rfl rfl rfl
  case o4x6 => exact fun _ _ hw _ => jd (v := vP g1 1) rfl (jf 119 _ 1 rfl _ _ rfl _ (by kernel_rfl))
  case o5x6 => exact fun _ _ hw _ => jd (v := .int .u64 (((cntE L).u : Nat) : Int)) rfl (jq 75 _ rfl g1 1 rfl 119 _ (hw.has kg1) (na75 _) _ rfl)
  case o6x6 => exact fun _ _ _ _ => jg (v := vP p 0) _ rfl rfl rfl
  case o7x6 => exact fun _ _ hw _ => zr (.val (nK n)) rfl _ 43 Try.call43 rfl rfl _ rfl [vP p 0] rfl ((va _ p sg n L pw dn (H.gro (GG.drew.trans hw))).mono fun e w' ⟨he, hg⟩ => ⟨_, he, hg, rfl⟩)
  case o8x6 => exact fun _ _ hw _ => jd (v := nK (n - 2)) rfl (jR _ _ _ rfl ((n : Nat) : Int) 2 _ rfl rfl (by omega) (by omega) (by omega) _)
  case o9x6 => exact fun _ _ hw _ => jd (v := .int .u64 ((n - 2 : Nat) : Int)) rfl (conv325 _ rfl (n - 2) (by omega) rfl _)
  case o10x6 => exact fun _ _ hw _ => jd (v := vF) rfl (jS 75 75 _ _ rfl (cntE L).u (n - 2) rfl rfl false (by first | exact decide_eq_true (by omega) | exact decide_eq_false (by omega)) _)
  case o11x6 => exact fun _ _ _ _ => zL (v := vF) _ _ _ rfl rfl false rfl rfl
  case o12x6 => exact fun _ _ _ _ => jg (v := vF) _ rfl rfl rfl
  case o13x6 => exact fun _ _ hw _ => jd (v := vP g1 2) rfl (jf 119 _ 2 rfl _ _ rfl _ (by kernel_rfl))
  case o14x6 => exact fun _ _ hw _ => jd (v := .int .u64 (((cntE L).c : Nat) : Int)) rfl (jq 75 _ rfl g1 2 rfl 119 _ (hw.has kg1) (na75 _) _ rfl)
  case o15x6 => exact fun _ _ hw _ => jd (v := vP g1 1) rfl (jf 119 _ 1 rfl _ _ rfl _ (by kernel_rfl))
  case o16x6 => exact fun _ _ hw _ => jd (v := .int .u64 (((cntE L).u : Nat) : Int)) rfl (jq 75 _ rfl g1 1 rfl 119 _ (hw.has kg1) (na75 _) _ rfl)
  intro ptrs w6 GD hxE
  simp only [List.drop_succ_cons, List.drop_zero]
  replace kg1 := GD.has kg1
  replace GG := GG.drew.trans GD
  clear GD
  refine Ye 30 rfl rfl (vF) (jS 75 75 _ _ rfl (cntE L).c (cntE L).u rfl rfl false (by first | exact decide_eq_true (by omega) | exact decide_eq_false (by omega)) _) ?_
  refine ja 31 rfl rfl (vF) (rfl) ?_
  refine nr ?_; intro U h; simp only [z0, z1] at h; subst h
  refine qL (qF rfl (qK (qS ?_)))
  refine ja 33 rfl rfl (vP p 0) (rfl) ?_
  refine ja 34 rfl rfl (vP g1 1) (jf 119 _ 1 rfl _ _ rfl _ (by kernel_rfl)) ?_
  refine ja 35 rfl rfl (.int .u64 (((cntE L).u : Nat) : Int)) (jq 75 _ rfl g1 1 rfl 119 _ kg1 (na75 _) _ rfl) ?_
  refine ja 36 rfl rfl (iK (((cntE L).u : Nat) : Int)) (conv253 _ rfl (cntE L).u (by omega) rfl _) ?_
  refine nr ?_; intro U h; simp only [z0, z1] at h; subst h
  refine jx 37 rfl rfl _ 60 Try.call60 rfl rfl _ rfl [vP p 0, iK (((cntE L).u : Nat) : Int)] rfl (Jn _ p sg n L pw dn (H.gro GG) (cntE L).u (by omega) rs hr) (fun _ _ ⟨_, _, _, he, _⟩ => ⟨_, he⟩) ?_
  rintro v w7 ⟨ao, cap, q, he, hrq, G, HL⟩
  cases he
  subst hrq
  have hql : (q.map (·.2)).length = q.length := List.length_map _
  have bRS := GG.size
  replace kg1 := G.has kg1
  replace GG := GG.trans G
  clear G
  refine nr ?_; intro U h; simp only [z0, z1] at h; subst h
  have hqlim : q.length < 9223372036854775808 := by have := HL.ox.xc.fit; have h2 := cap_le HL.ox; omega
  refine ja 32 rfl rfl (.tuple #[.slice ao q.length cap, vT]) (rfl) ?_
  refine ja 38 rfl rfl (.slice ao q.length cap) (rfl) ?_
  refine ja 39 rfl rfl (vT) (rfl) ?_
  refine ja 6 rfl rfl (.slice ao q.length cap) (rfl) ?_
  refine ja 7 rfl rfl (vT) (rfl) ?_
  refine nr ?_; intro U h; simp only [z0, z1] at h; subst h
  refine qL (qE (qE ?_))
  refine jj ?_
  intro OPS hY
  have y2 := hY 2 42 rfl
  clear hY
  refine ja 40 rfl rfl (vT) (rfl) ?_
  refine ja 41 rfl rfl (vF) (zi _ _ rfl true rfl) ?_
  refine ja 42 rfl rfl (vF) (rfl) ?_
  refine je 43 rfl rfl y2 rfl (.slice ao q.length cap) (rfl) ?_
  refine je 44 rfl rfl y2 rfl (nK q.length) (jA Try.underlying22 _ rfl _ _ _ rfl _) ?_
  refine je 45 rfl rfl y2 rfl (.int .u64 ((q.length : Nat) : Int)) (conv325 _ rfl q.length (by omega) rfl _) ?_
  refine je 46 rfl rfl y2 rfl (vP g1 2) (jf 119 _ 2 rfl _ _ rfl _ (by kernel_rfl)) ?_
  refine je 47 rfl rfl y2 rfl (.int .u64 (((cntE L).c : Nat) : Int)) (jq 75 _ rfl g1 2 rfl 119 _ kg1 (na75 _) _ rfl) ?_
  refine je 48 rfl rfl y2 rfl (vF) (jh 75 .u64 _ _ _ rfl Try.underlying75 ((q.length : Nat) : Int) (((cntE L).c : Nat) : Int) rfl rfl false (by first | exact decide_eq_true (by omega) | exact decide_eq_false (by omega)) _) ?_
  refine ja 49 rfl rfl (vF) (rfl) ?_
  refine nr ?_; intro U h; simp only [z0, z1] at h; subst h
  refine qL (qF rfl (qK (qS ?_)))
  refine ja 50 rfl rfl (vP p 0) (rfl) ?_
  refine ja 51 rfl rfl (.agg (c119 (((cntE L).g : Nat) : Int) (((cntE L).u : Nat) : Int) (((cntE L).c : Nat) : Int))) (zP 119 _ rfl g1 0 3 rfl 119 _ kg1 _ Try.underlying119 rfl si119 (Nat.le_of_ble_eq_true rfl) _ (by kernel_rfl)) ?_
  refine ja 52 rfl rfl (.agg (c124 (some ⟨p, 0, none⟩) (((cntE L).g : Nat) : Int) (((cntE L).u : Nat) : Int) (((cntE L).c : Nat) : Int) false)) (jN 124 _ rfl [(0, vP p 0), (1, .agg (c119 (((cntE L).g : Nat) : Int) (((cntE L).u : Nat) : Int) (((cntE L).c : Nat) : Int)))] rfl _ (by kernel_rfl)) ?_
  refine nr ?_; intro U h; simp only [z0, z1] at h; subst h
  refine zw 53 rfl rfl 124 _ rfl _ rfl (c124 (some ⟨p, 0, none⟩) (((cntE L).g : Nat) : Int) (((cntE L).u : Nat) : Int) (((cntE L).c : Nat) : Int) false) rfl ?_
  intro w8 g2 G eg2 kg2
  have bg2 := jk GG eg2
  have dg1g2 := jH kg1 eg2
  replace kg1 := G.has kg1
  replace HL := HL.gro G
  replace GG := GG.trans G
  clear G eg2
  refine nr ?_; intro U h; simp only [z0, z1] at h; subst h
  refine ja 54 rfl rfl (.slice ao q.length cap) (rfl) ?_
  refine ja 2 rfl rfl (vP g2 0) (rfl) ?_
  refine ja 3 rfl rfl (.slice ao q.length cap) (rfl) ?_
  refine ja 4 rfl rfl (iK 0) (rfl) ?_
  refine nr ?_; intro U h; simp only [z0, z1] at h; subst h
  refine qL (qR ?_)
  refine bodyPost_ret (results_tmp3 Try.results37 _ _ _) rfl ?_
  exact ⟨g2, ao, cap, q, rfl, rfl, GG, bg2, ⟨kg2⟩, ⟨HL.ox.mono bRS, fun x hx => ⟨Nat.le_trans bRS (HL.row x hx).1, (HL.row x hx).2⟩⟩⟩
theorem JQ (w : World) (p sg n : Nat) (L : List Nat) (pw dn : Int) (H : DK w p sg n L pw dn) (hn : 3 ≤ n) (rs : List (List Nat)) (ho : opE L n = some rs) : Calls Try.prog 37 #[.pointer (some ⟨p, 0, none⟩)] w fun e w' => ∃ lp ao cap q, e = .returned (.tuple #[.pointer (some ⟨lp, 0, none⟩), .slice ao (List.length q) cap, .int .i64 0]) ∧ rs = q.map (·.2) ∧ Gro w w' ∧ w.heap.size ≤ lp ∧ LK w' lp p (cntE L) false ∧ RS w' w.heap.size ao cap q := by
  by_cases h1 : 9223372036854775807 < (cntE L).g ∨ n - 2 < (cntE L).u ∨ (cntE L).u < (cntE L).c
  · rw [opE, if_pos h1] at ho
    cases ho
  rw [opE, if_neg h1] at ho
  cases hr : prs (reg L (cntE L).u) with
  | none => rw [hr] at ho; cases ho
  | some rs' =>
    rw [hr, Option.bind_some] at ho
    by_cases hd : rs'.length = (cntE L).c
    · rw [if_pos hd] at ho
      cases ho
      exact QJ w p sg n L pw dn H hn (by omega) (by omega) (by omega) rs hr hd
    · rw [if_neg hd] at ho
      cases ho
theorem YT (w : World) (lp p : Nat) (h : Hd) (dw : Bool) (HK : LK w lp p h dw) (sg n : Nat) (L : List Nat) (pw dn : Int) (HD : DK w p sg n L pw dn) (hu : h.u + 2 ≤ n) : Calls Try.prog 65 #[vP lp 0] w fun e w' => e = .returned (nK (n - 2 - h.u)) ∧ Gro w w' := by
  refine js Try.func65 rfl Try.ntmps65 [vP lp 0] [vP lp 0, uD, uD, uD, uD, uD, uD, uD, uD, uD, uD, uD, uD, uD, uD, uD, uD, uD] rfl ?_
  have GG := Gro.refl w
  have klp := HK.box
  have hn4 := HD.le
  refine qS ?_
  refine ja 2 rfl rfl (iK 0) (rfl) ?_
  refine nr ?_; intro U h; simp only [z0, z1] at h; subst h
  refine qL (qE (qS ?_))
  refine ja 3 rfl rfl (vP lp 0) (rfl) ?_
  refine ja 4 rfl rfl (vF) (zg 86 _ _ _ rfl _ rfl rfl Try.underlying86 _) ?_
  refine nr ?_; intro U h; simp only [z0, z1] at h; subst h
  refine qL (qF rfl (qK (qE ?_)))
  refine jl (A := ?Ax7) 12 [(0, 5), (1, 6), (2, 7), (3, 8), (4, 9), (5, 10), (6, 11), (7, 12), (8, 13), (9, 14), (10, 15), (11, 16)] [.val (vP lp 0), .val (vP lp 0), .val (vP lp 0), .val (vP p 0), .val (nK n), .val (nK (n - 2)), .val (vP lp 0), .val (vP lp 0), .val (vP lp 1), .val (vP lp 2), .val (.int .u64 ((h.u : Nat) : Int)), .val (nK h.u)] follows (by kernel_rfl) rfl ?hAx7 (jb ?o0x7 (jb ?o1x7 (jb ?o2x7 (jb ?o3x7 (jb ?o4x7 (jb ?o5x7 (jb ?o6x7 (jb ?o7x7 (jb ?o8x7 (jb ?o9x7 (jb ?o10x7 (jb ?o11x7 jF)))))))))))) ?restx7
  case hAx7 =>
    intro ptrs
    simp only [full, foldSlots, filledE, postE, List.foldl_cons, List.foldl_nil, List.getD_cons_zero, List.getD_cons_succ, jI, List.set_cons_zero, List.set_cons_succ]
    exact rfl
  case o0x7 => exact fun _ _ _ _ => jg (v := vP lp 0) _ rfl rfl rfl
  case o1x7 => exact fun _ _ hw _ => jd (v := vP lp 0) rfl (jn _ rfl _ rfl)
  case o2x7 => exact fun _ _ hw _ => jd (v := vP lp 0) rfl (jf 124 _ 0 rfl _ _ rfl _ (by kernel_rfl))
  case o3x7 => exact fun _ _ hw _ => jd (v := vP p 0) rfl (jq 32 _ rfl lp 0 rfl 124 _ (hw.has klp) (na32 _) _ rfl)
  case o4x7 => exact fun _ _ hw _ => zr (.val (nK n)) rfl _ 43 Try.call43 rfl rfl _ rfl [vP p 0] rfl ((va _ p sg n L pw dn (HD.gro (GG.drew.trans hw))).mono fun e w' ⟨he, hg⟩ => ⟨_, he, hg, rfl⟩)
  case o5x7 => exact fun _ _ hw _ => jd (v := nK (n - 2)) rfl (jR _ _ _ rfl ((n : Nat) : Int) 2 _ rfl rfl (by omega) (by omega) (by omega) _)
  case o6x7 => exact fun _ _ _ _ => jg (v := vP lp 0) _ rfl rfl rfl
  case o7x7 => exact fun _ _ hw _ => jd (v := vP lp 0) rfl (jn _ rfl _ rfl)
  case o8x7 => exact fun _ _ hw _ => jd (v := vP lp 1) rfl (jf 124 _ 1 rfl _ _ rfl _ (by kernel_rfl))
  case o9x7 => exact fun _ _ hw _ => jd (v := vP lp 2) rfl (jf 119 _ 1 rfl _ _ rfl _ (by kernel_rfl))
  case o10x7 => exact fun _ _ hw _ => jd (v := .int .u64 ((h.u : Nat) : Int)) rfl (jq 75 _ rfl lp 2 rfl 124 _ (hw.has klp) (na75 _) _ rfl)
  case o11x7 => exact fun _ _ hw _ => jd (v := nK h.u) rfl (conv253 _ rfl h.u (by omega) rfl _)
  intro ptrs w1 GD hxE
  simp only [List.drop_succ_cons, List.drop_zero]
  replace klp := GD.has klp
  replace GG := GG.drew.trans GD
  clear GD
  refine ja 17 rfl rfl (nK (n - 2 - h.u)) (jR _ _ _ rfl ((n - 2 : Nat) : Int) ((h.u : Nat) : Int) _ rfl rfl (by omega) (by omega) (by omega) _) ?_
  refine ja 2 rfl rfl (nK (n - 2 - h.u)) (rfl) ?_
  refine nr ?_; intro U h; simp only [z0, z1] at h; subst h
  refine qL (qR ?_)
  refine bodyPost_ret (results_tmp Try.results65 _ _ _) rfl ?_
  exact ⟨rfl, GG⟩
theorem jbs (w : World) (lp p : Nat) (h : Hd) (dw : Bool) (HK : LK w lp p h dw) : Calls Try.prog 54 #[vP lp 0] w fun e w' => e = .returned (.bool dw) ∧ Gro w w' := by
  refine js Try.func54 rfl Try.ntmps54 [vP lp 0] [vP lp 0, uD, uD, uD, uD, uD, uD, uD, uD, uD, uD] rfl ?_
  have GG := Gro.refl w
  have klp := HK.box
  refine qS ?_
  refine ja 2 rfl rfl (vF) (rfl) ?_
  refine nr ?_; intro U h; simp only [z0, z1] at h; subst h
  refine qL (qE ?_)
  refine jj ?_
  intro OPS hY
  have y2 := hY 2 5 rfl
  clear hY
  refine ja 3 rfl rfl (vP lp 0) (rfl) ?_
  refine ja 4 rfl rfl (vT) (YI 86 _ _ _ rfl _ rfl rfl Try.underlying86 _) ?_
  refine ja 5 rfl rfl (vT) (rfl) ?_
  refine je 6 rfl rfl y2 rfl (vP lp 0) (rfl) ?_
  refine je 7 rfl rfl y2 rfl (vP lp 0) (jn _ rfl _ rfl) ?_
  refine je 8 rfl rfl y2 rfl (vP lp 4) (jf 124 _ 2 rfl _ _ rfl _ (by kernel_rfl)) ?_
  refine je 9 rfl rfl y2 rfl (.bool dw) (jq 4 _ rfl lp 4 rfl 124 _ klp (na4 _) _ rfl) ?_
  refine ja 10 rfl rfl (.bool dw) (rfl) ?_
  refine ja 2 rfl rfl (.bool dw) (rfl) ?_
  refine nr ?_; intro U h; simp only [z0, z1] at h; subst h
  refine qL (qR ?_)
  refine bodyPost_ret (results_tmp Try.results54 _ _ _) rfl ?_
  exact ⟨rfl, GG⟩
end Go.Proofs.Ytgfnjekpafempaa
