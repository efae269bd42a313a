import Derived.Test.YtgfnjekpafempaaGreatBV5
import Derived.Test.YtgfnjekpafempaaGreatBV6
import Derived.Test.YtgfnjekpafempaaGreatBAb
namespace Go.Proofs.YtgfnjekpafempaaGreat
open Go.Proofs.Tryz
set_option maxHeartbeats 4000000
set_option maxRecDepth 100000
open Go.RowKit
section
variable {U0 : List Nat} {w w' : World} {p sg n : Nat} {dn : Int} {L0 : List It} {c0 : Nat} {err : Int} {L2 : List Nat} {pw2 : Int} {h2 : Hd} {e : Ending}
theorem OpnP.yes (h : OpnP U0 w p sg n dn L0 c0 0 L2 pw2 h2 e w') : ∃ vp lp mb M dn', e = .returned (.tuple #[.pointer (some ⟨vp, 0, none⟩), .int .i64 0]) ∧ GroS [p, sg] w w' ∧ VK (vp :: lp :: mb :: U0) w' vp lp p sg mb n L2 pw2 dn' h2 false ((c0 + 1 : Nat) : Int) M ∧ MRel M L0 ∧ w.heap.size ≤ vp ∧ w.heap.size ≤ lp ∧ w.heap.size ≤ mb ∧ dn ≤ dn' ∧ dn' ≤ dn + 20 := by
  rcases h with ⟨h0, _⟩ | ⟨_, h⟩
  · exact absurd rfl h0
  · exact h
theorem OpnP.no (h : OpnP U0 w p sg n dn L0 c0 err L2 pw2 h2 e w') (h0 : err ≠ 0) : ∃ dn', e = .returned (.tuple #[.pointer none, .int .i64 err]) ∧ GroS [p, sg] w w' ∧ DK w' p sg n L2 pw2 dn' ∧ dn ≤ dn' ∧ dn' ≤ dn + 20 := by
  rcases h with ⟨_, h⟩ | ⟨h1, _⟩
  · exact h
  · exact absurd h1 h0
end
section
variable {U : List Nat} {w w' : World} {vp lp p sg mb n : Nat} {dn : Int} {inc : Int} {M : List (Nat × IM)} {x : IM} {err : Int} {L L2 : List Nat} {pw pw2 : Int} {h h2 : Hd} {dw dw2 : Bool} {e : Ending}
theorem PutP.yes (h : PutP U w vp lp p sg mb n dn inc M x 0 L2 pw2 h2 dw2 e w') : ∃ C dn' ao3 cap3 ao4 cap4, e = .returned (.tuple #[.agg (itA (x.re ao4 cap4)), .int .i64 0]) ∧ GroS [vp, lp, p, sg, mb] w w' ∧ VK U w' vp lp p sg mb n L2 pw2 dn' h2 dw2 inc (putM M x.key (x.re ao3 cap3)) ∧ (Bd C U (putM M x.key (x.re ao3 cap3)) ∧ w.heap.size ≤ C ∧ Frs w ao3) ∧ OB w' 5 .u8 C ao4 cap4 x.val ∧ dn ≤ dn' ∧ dn' ≤ dn + 20 := by
  rcases h with ⟨h0, _⟩ | ⟨_, h⟩
  · exact absurd rfl h0
  · exact h
theorem PutP.no (h : PutP U w vp lp p sg mb n dn inc M x err L2 pw2 h2 dw2 e w') (h0 : err ≠ 0) : ∃ dn', e = .returned (.tuple #[.agg (itA zM), .int .i64 err]) ∧ GroS [vp, lp, p, sg, mb] w w' ∧ VK U w' vp lp p sg mb n L2 pw2 dn' h2 dw2 inc M ∧ dn ≤ dn' ∧ dn' ≤ dn + 20 := by
  rcases h with ⟨_, h⟩ | ⟨h1, _⟩
  · exact h
  · exact absurd h1 h0
theorem MergeP.yes (h : MergeP U w vp lp p sg mb n dn inc M x 0 L2 pw2 h2 dw2 e w') : ∃ dn' ao3 cap3, e = .returned (.tuple #[.bool true, .int .i64 0]) ∧ GroS [vp, lp, p, sg, mb] w w' ∧ VK U w' vp lp p sg mb n L2 pw2 dn' h2 dw2 inc (putM M x.key (x.re ao3 cap3)) ∧ dn ≤ dn' ∧ dn' ≤ dn + 20 ∧ Frs w ao3 := by
  rcases h with ⟨h0, _⟩ | ⟨_, h⟩
  · exact absurd rfl h0
  · exact h
theorem MergeP.no (h : MergeP U w vp lp p sg mb n dn inc M x err L2 pw2 h2 dw2 e w') (h0 : err ≠ 0) : ∃ dn', e = .returned (.tuple #[.bool false, .int .i64 err]) ∧ GroS [vp, lp, p, sg, mb] w w' ∧ VK U w' vp lp p sg mb n L2 pw2 dn' h2 dw2 inc M ∧ dn ≤ dn' ∧ dn' ≤ dn + 20 := by
  rcases h with ⟨_, h⟩ | ⟨h1, _⟩
  · exact h
  · exact absurd h1 h0
theorem VK.nin (H : VK U w vp lp p sg mb n L pw dn h dw inc M) {g : Nat} {c : Array Value} {t : TypeId} (hk : w.heap[g]? = some (.cells c t (0, 0))) (h1 : t ≠ 78 ∧ t ≠ 106 ∧ t ≠ 92 ∧ t ≠ 89) : g ∉ [vp, lp, p, sg, mb] := by
  have e1 := jB hk H.vb.box h1.1
  have e2 := jB hk H.log.box h1.2.1
  have e3 := jB hk H.dsk.box h1.2.2.1
  have e4 := jB hk H.dsk.sec h1.2.2.2
  have e5 := H.vb.map.nec hk
  simp only [List.mem_cons, List.not_mem_nil, or_false]
  omega
theorem DK.nin (H : DK w p sg n L pw dn) {g : Nat} {c : Array Value} {t : TypeId} (hk : w.heap[g]? = some (.cells c t (0, 0))) (h1 : t ≠ 92 ∧ t ≠ 89) : g ∉ [p, sg] := by
  have e3 := jB hk H.box h1.1
  have e4 := jB hk H.sec h1.2
  simp only [List.mem_cons, List.not_mem_nil, or_false]
  omega
theorem VK.keepB (H : VK U w vp lp p sg mb n L pw dn h dw inc M) (G : GroS [vp, lp, p, sg, mb] w w') {B : Nat} {ao : Option Addr} {cap : Nat} {l : List Nat} (HO : OB w 5 .u8 B ao cap l) : OB w' 5 .u8 B ao cap l :=
  HO.gros G fun ad ha => by
    obtain ⟨cur, hc⟩ := HO.blk5 ha
    exact H.nin hc (by decide)
theorem DK.keepB (H : DK w p sg n L pw dn) (G : GroS [p, sg] w w') {B : Nat} {ao : Option Addr} {cap : Nat} {l : List Nat} (HO : OB w 5 .u8 B ao cap l) : OB w' 5 .u8 B ao cap l :=
  HO.gros G fun ad ha => by
    obtain ⟨cur, hc⟩ := HO.blk5 ha
    exact H.nin hc (by decide)
end
section
variable {ops : Array Oper} {rest : List Oper} {o o2 : Oper} {T : List Value} {ds : List Deferred} {w : World} {Q : Exit → Act → World → Prop}
theorem jbw (dst dst2 : Nat) (hd : o.dst = some dst) (hd2 : o2.dst = some dst2) (hg : o.guard = none) (hg2 : o2.guard = none) (l : List Nat) (pr : List (Nat × Operand)) (ho : o.op = .buildSlice 27 l.length pr.toArray) (vals : List (Nat × Value)) (hvl : (pr.map fun p => (p.1, (⟨T.toArray, ds⟩ : Act).eval p.2)) = vals)
    (hr : ∀ w, (Instr.buildSlice 27 l.length vals.toArray).run Tryz.prog w = .ok (.slice (some ⟨w.heap.size, 0, none⟩) l.length l.length) (w.alloc (.cells (bv l) 5)))
    (x : Operand) (ho2 : o2.op = .convert 27 27 x) (hx : ∀ g, (⟨(T.set dst (.slice (some ⟨g, 0, none⟩) l.length l.length)).toArray, ds⟩ : Act).eval x = .slice (some ⟨g, 0, none⟩) l.length l.length)
    (h : ∀ w' g, Gro w w' → w.heap.size = g → (∀ j, j < l.length → w'.cell? ⟨g, j, none⟩ = some (.int .u8 (l.getD j 0 : Int))) → wpList Tryz.prog ops Q rest ⟨((T.set dst (.slice (some ⟨g, 0, none⟩) l.length l.length)).set dst2 (.slice (some ⟨g, 0, none⟩) l.length l.length)).toArray, ds⟩ w') : wpList Tryz.prog ops Q (o :: o2 :: rest) ⟨T.toArray, ds⟩ w :=
  wpList_plain hg fun K hK => by
    have he := YZ (A := ⟨T.toArray, ds⟩) 27 l.length pr ho vals hvl (hr w)
    unfold Oper.wp
    rw [he, Oper.upon_value, hd, jX]
    refine hK _ _ (wpList_plain hg2 fun K2 hK2 => ?_)
    have hc := Lib.run_convert_bytes_const (P := Tryz.prog) w 27 5 (bv l) l.length l.length underlying27 underlying5
    have he2 : (execOp (Act.eval ⟨(T.set dst (.slice (some ⟨w.heap.size, 0, none⟩) l.length l.length)).toArray, ds⟩) o2).run Tryz.prog (w.alloc (.cells (bv l) 5)) = .ok (.value (.slice (some ⟨w.heap.size, 0, none⟩) l.length l.length)) (w.alloc (.cells (bv l) 5 ((bv l).size, (bv l).size + 1))) := by
      unfold execOp
      simp only [ho2, hx, Sem.run_bind, hc, Result.andThen_ok, Sem.run_pure]
    unfold Oper.wp
    rw [he2, Oper.upon_value, hd2, jX]
    refine hK2 _ _ (h _ _ (zl _ _) rfl fun j hj => ?_)
    have hb := heap_alloc_new w (.cells (bv l) 5 ((bv l).size, (bv l).size + 1))
    simp only [World.cell?, hb]
    exact Vv l j hj
end
def f1 : It := ⟨3, 1, 7, [97]⟩
theorem f1_ok : f1.ok := ⟨by decide, by decide, by decide, by decide, by decide, by decide⟩
theorem hld_f1 : hld [begV 1] = some ([], 1) := Kj (rs := []) Kh (by decide) (by decide)
theorem hld_f2 : hld ([begV 1] ++ [formV f1]) = some (tkV [] f1, 1) := Yb hld_f1 f1_ok uq
theorem lk_f2 : lkV (tkV [] f1) 3 = some f1 := by rw [YQ SKv.nil]; rfl
theorem MRel.none {M : List (Nat × IM)} {L : List It} (h : MRel M L) {k : Nat} (hk : lkV L k = none) : getM M k = none := by
  have := h k
  rw [hk] at this
  cases hg : getM M k with
  | none => rfl
  | some y => rw [hg] at this; cases this
theorem MRel.some {M : List (Nat × IM)} {L : List It} (h : MRel M L) {k : Nat} {x : It} (hk : lkV L k = some x) : ∃ y, getM M k = some y ∧ y.it = x := by
  have := h k
  rw [hk] at this
  cases hg : getM M k with
  | none => rw [hg] at this; cases this
  | some y =>
    rw [hg] at this
    injection this with this
    exact ⟨y, rfl, this⟩
theorem jbq {l : List Nat} (h : l.length ≤ 6) : secN l.length = 1 := by unfold secN; omega
theorem QI {l : List Nat} (h : l.length ≤ 109) : secN l.length ≤ 2 := by unfold secN; omega
theorem Uo : okP (-1) := ⟨by decide, by decide⟩
theorem vi (n : Nat) (hn : n < 256) (w : World) : Calls Tryz.prog 24 #[.int .u8 ((n : Nat) : Int)] w (fun e w' => e = .returned (.agg (idA n)) ∧ Gro w w') := by
  refine eN func24 rfl ntmps24 [.int .u8 ((n : Nat) : Int)] ?_
  have GG := Gro.refl w
  refine qS ?_
  refine jH 2 rfl rfl 38 rfl _ zero23 (idA 0) rfl ?_
  intro w1 g1 G eg1 kg1
  have bg1 := jh GG eg1
  replace GG := GG.trans G
  clear G
  clear eg1
  refine nq ?_
  refine qL (qE (qG (mv (.int .u8 ((n : Nat) : Int)) rfl (sv (eA n) (VZ _ rfl n rfl hn _) rfl (nq ?_)))))
  refine jE rfl rfl 38 _ _ rfl g1 0 rfl (eA n) rfl 38 _ kg1 (idA n) rfl (size23' _) (uH _ _) (vW _) (idA n) (jS _ _ (JU _ _)) ?_
  intro w2 St
  replace GG := GG.store St bg1
  replace kg1 := St.new
  clear St
  refine qL (qR ?_)
  refine bodyPost_ret (results_cell_row results24 _ _ g1 38 _ (0, 0) _ rfl kg1 underlying38 rfl (size23' _)) rfl ?_
  exact ⟨rfl, GG⟩
section
variable {n : Nat} {L : List Nat} {pw : Int} {h : Hd} {dw : Bool} {rs : List (List Nat)} {l : List Nat} {err : Int} {L2 : List Nat} {pw2 : Int} {h2 : Hd} {dw2 : Bool} {rs2 : List (List Nat)}
theorem Out.yes (H : Out n L pw h dw rs l 0 L2 pw2 h2 dw2 rs2) : Good L2 n h2 (rs ++ [l]) := by
  have hg := H.good
  rcases H.res with ⟨_, e⟩ | ⟨h0, _⟩
  · rw [e] at hg; exact hg
  · exact absurd rfl h0
theorem Out.no (H : Out n L pw h dw rs l err L2 pw2 h2 dw2 rs2) (h0 : err ≠ 0) : Good L2 n h2 rs := by
  have hg := H.good
  rcases H.res with ⟨h1, _⟩ | ⟨_, e⟩
  · exact absurd h1 h0
  · rw [e] at hg; exact hg
end
theorem DK.lt2 {w : World} {p sg n : Nat} {L : List Nat} {pw dn : Int} (H : DK w p sg n L pw dn) : ∀ k ∈ [p, sg], k < w.heap.size := fun k hk => by
  simp only [List.mem_cons, List.not_mem_nil, or_false] at hk
  rcases hk with rfl | rfl
  · exact ji H.box
  · exact ji H.sec
def f2 : It := ⟨3, 1, 8, []⟩
theorem f2_ok : f2.ok := ⟨by decide, by decide, by decide, by decide, by decide, by decide⟩
theorem jau (w : World) : Calls Tryz.prog 5 #[] w (fun e w' => e = .returned (vT) ∧ Gro w w') := by
  refine eN func5 rfl ntmps5 [] ?_
  have GG := Gro.refl w
  refine qE (qG (mv (vF) rfl (nq ?_)))
  refine qA ?_
  refine jq 13 rfl rfl _ 23 call23 rfl rfl _ rfl [iK 20] rfl (QX _ 20) (by rintro _ _ ⟨_, _, he, _, _, _, _⟩; exact ⟨_, he⟩) ?_
  rintro v w1 ⟨p, sg, he, G, hp, hs, HD⟩
  cases he
  replace GG := GG.trans G
  clear G
  replace HD : DK w1 p sg 20 (zs (20 * 64)) (-1) 0 := HD
  refine nq ?_
  refine mv (vP p 0) rfl (nq ?_)
  refine qL (qE (qG (mv (vP p 0) rfl (nq ?_))))
  obtain ⟨er1, L1, pw1, h1, dw1, rs1, HA1, SA1⟩ := JI 20 _ (-1) ⟨0, 0, 0⟩ false [] (begV 1) (Yc 20 (by decide)) Uo (by decide) (by decide)
  obtain ⟨rfl, rfl⟩ := HA1.go rfl rfl (by decide) (by decide)
  have hw1 := HA1.ok rfl
  subst hw1
  have HG1 := HA1.yes
  have hg1 : h1.g ≤ 0 + 1 := HA1.g
  have hu1 : h1.u ≤ 0 + 1 := by have h := HA1.u; rw [jbq (by decide)] at h; exact h
  have szz1 := GG.size
  refine jq 16 rfl rfl _ 6 call6 rfl rfl _ rfl [vP p 0] rfl ((ZE [p, sg] _ p sg 20 _ (-1) 0 HD (by decide) ⟨0, 0, 0⟩ [] (Yc 20 (by decide)) (by decide) HD.lt2 (by simp) (by simp) [] 0 Kh (by decide) 0 L1 (-1) h1 false rs1 HA1 SA1 (by decide) (by decide)).mono fun e w' h => h.yes) (by rintro _ _ ⟨_, _, _, _, _, he, _, _, _, _, _, _, _, _⟩; exact ⟨_, he⟩) ?_
  rintro v w2 ⟨vp, lp, mb, M, dn1, he, G, HV, hM, hv1, hv2, hv3, hd1, hd2⟩
  cases he
  replace GG := G.gro GG (fun k hk => by simp only [List.mem_cons, List.not_mem_nil, or_false] at hk; omega)
  have GV := Gro.refl w2
  clear HD
  replace HV : VK [vp, lp, mb, p, sg] w2 vp lp p sg mb 20 L1 (-1) dn1 h1 false 1 M := HV
  refine nq ?_
  refine mv (.tuple #[vP vp 0, iK 0]) rfl (mv (vP vp 0) rfl (mv (iK 0) rfl (mv (vP vp 0) rfl (mv (iK 0) rfl (nq ?_)))))
  refine qL (qE (qE ?_))
  refine jg ?_
  intro OPS hY
  have y2 := hY 2 21 rfl
  have y6 := hY 6 25 rfl
  have y10 := hY 10 29 rfl
  clear hY
  refine mv (vP p 0) rfl (sv (vF) (jT 23 _ _ _ rfl _ rfl rfl underlying23 _) rfl (mv (vF) rfl (jd 22 rfl rfl y2 rfl (vP vp 0) (rfl) (jd 23 rfl rfl y2 rfl (vF) (jT 30 _ _ _ rfl _ rfl rfl underlying30 _) (mv (vF) rfl ?_)))))
  refine nq ?_
  refine mv (vF) rfl (jd 26 rfl rfl y6 rfl (iK 0) (rfl) (jd 27 rfl rfl y6 rfl (vF) (jj 31 .i64 _ _ _ rfl underlying31 0 0 rfl rfl false (decide_eq_true rfl) _) (mv (vF) rfl (mv (vF) rfl (jd 30 rfl rfl y10 rfl (vP vp 0) (rfl) ?_)))))
  refine nq ?_
  refine zP 31 rfl rfl y10 rfl _ 20 call20 rfl rfl _ rfl [vP vp 0] rfl (Vj _ vp lp mb 1 (HV.gro GV).vb.box) ?_
  intro w3 G
  replace GV := GV.gro G
  replace GG := GG.trans G
  clear G
  refine nq ?_
  refine jd 32 rfl rfl y10 rfl (vF) (jj 2 .i64 _ _ _ rfl underlying2 1 1 rfl rfl false (decide_eq_true rfl) _) (mv (vF) rfl (nq ?_))
  refine qL (qF rfl (qK (qE (qG (mv (vP vp 0) rfl (nq ?_))))))
  refine jr 36 rfl rfl _ 24 call24 rfl rfl _ rfl [.int .u8 3] rfl (vi 3 (by decide) _) ?_
  intro w4 G
  replace GV := GV.gro G
  replace GG := GG.trans G
  clear G
  refine nq ?_
  refine jbw 37 38 rfl rfl rfl rfl [97] _ rfl [(0, .int .u8 97)] rfl (fun w => by kernel_rfl) _ rfl (fun g => rfl) ?_
  intro w5 q G eq hc
  have hUq : ∀ k ∈ [vp, lp, mb, p, sg], k < q := fun k hk => by rw [← eq]; exact (HV.gro GV).lt k hk
  replace GV := GV.gro G
  replace GG := GG.trans G
  clear G
  have HX : BS [vp, lp, mb, p, sg] _ (some ⟨q, 0, none⟩) 1 [97] := ⟨jdr hc (by decide), fun ad ha _ hm => by (cases ha; have := hUq _ hm; simp only at this; omega)⟩
  clear hc eq
  refine nq ?_
  refine jr 39 rfl rfl _ 24 call24 rfl rfl _ rfl [.int .u8 7] rfl (vi 7 (by decide) _) ?_
  intro w6 G
  replace GV := GV.gro G
  replace HX := HX.gro G
  replace GG := GG.trans G
  clear G
  refine nq ?_
  have hm3 := hM.none (k := 3) rfl
  have hgk : getK M 3 = zM := by unfold getK; rw [hm3]; rfl
  have hX : (mkI 3 (mkV ((getK M 3).ver.n + 1) 7) (some ⟨q, 0, none⟩) 1 [97]).it = f1 := by rw [hgk]; rfl
  obtain ⟨er2, L2, pw2, h2, dw2, rs2, HA2, SA2⟩ := JI 20 L1 (-1) h1 false [begV 1] (formV f1) HG1 Uo (by omega) (by decide)
  have hf1 := UA f1_ok
  have hs1 := QI hf1
  obtain ⟨rfl, rfl⟩ := HA2.go rfl rfl (by omega) (by omega)
  have hw2 := HA2.ok rfl
  subst hw2
  have HG2 := HA2.yes
  have hg2 := HA2.g
  have hu2 := HA2.u
  have HVo := HV.gro GV
  have szz2 := GG.size
  refine jq 40 rfl rfl _ 11 call11 rfl rfl _ rfl [vP vp 0, eA 3, .slice (some ⟨q, 0, none⟩) 1 1, eA 7] rfl ((Qd [vp, lp, mb, p, sg] _ vp lp p sg mb 20 L1 (-1) dn1 h1 false 1 M HVo 3 (by decide) (some ⟨q, 0, none⟩) 1 [97] 7 (by decide) (by decide) (by rw [hgk]; decide) HX [begV 1] 0 L2 (-1) h2 false rs2 (by rw [hX]; exact HA2) (by rw [hX]; exact SA2) (by omega) (by omega)).mono fun e w' h => by rw [hgk] at h; exact h.yes) (by rintro _ _ ⟨_, _, _, _, _, _, he, _, _, _, _, _, _⟩; exact ⟨_, he⟩) ?_
  rintro v w7 ⟨C, dn2, ao3, cap3, ao4, cap4, he, G, HV2, hBd, HO4, hd3, hd4⟩
  cases he
  replace GG := G.gro GG (fun k hk => by simp only [List.mem_cons, List.not_mem_nil, or_false] at hk; omega)
  have GV2 := Gro.refl w7
  clear GV HVo HX
  refine nq ?_
  refine mv (.tuple #[iA ((mkI 3 (mkV (zM.ver.n + 1) 7) (some ⟨q, 0, none⟩) 1 [97]).re ao4 cap4), iK 0]) rfl (mv (iA ((mkI 3 (mkV (zM.ver.n + 1) 7) (some ⟨q, 0, none⟩) 1 [97]).re ao4 cap4)) rfl (mv (iK 0) rfl (nq ?_)))
  refine jH 4 rfl rfl 42 rfl _ zeroIt (itA zM) rfl ?_
  intro w8 g1 G eg1 kg1
  have bg1 := jh GG eg1
  have dGV2g1 := GV2.ne eg1
  have dHO4g1 := HO4.ne eg1
  replace GV2 := GV2.gro G
  replace HO4 := HO4.gro G
  replace GG := GG.trans G
  clear G
  clear eg1
  refine nq ?_
  refine stI ((mkI 3 (mkV (zM.ver.n + 1) 7) (some ⟨q, 0, none⟩) 1 [97]).re ao4 cap4) rfl rfl rfl kg1 rfl ?_
  intro w9 St
  replace GV2 := GV2.st St dGV2g1
  replace HO4 := HO4.st St dHO4g1
  replace GG := GG.store St bg1
  replace kg1 := St.new
  clear St
  refine mv (iK 0) rfl (nq ?_)
  refine qL (qE (qG (mv (vP p 0) rfl (nq ?_))))
  obtain ⟨er3, L3, pw3, h3, dw3, rs3, HA3, SA3⟩ := JI 20 L2 (-1) h2 false ([begV 1] ++ [formV f1]) (begV 2) HG2 Uo (by omega) (by decide)
  obtain ⟨rfl, rfl⟩ := HA3.go rfl rfl (by decide) (by rw [jbq (by decide)]; omega)
  have hw3 := HA3.ok rfl
  subst hw3
  have HG3 := HA3.yes
  have hg3 := HA3.g
  have hu3 := HA3.u
  rw [jbq (by decide)] at hu3
  have HDo := HV2.dsk.gro GV2
  have szz3 := GG.size
  refine jq 45 rfl rfl _ 6 call6 rfl rfl _ rfl [vP p 0] rfl ((ZE [p, sg] _ p sg 20 L2 (-1) dn2 HDo (by decide) h2 _ HG2 (by omega) HDo.lt2 (by simp) (by simp) (tkV [] f1) 1 hld_f2 (by decide) 0 L3 (-1) h3 false rs3 HA3 SA3 (by omega) (by omega)).mono fun e w' h => h.yes) (by rintro _ _ ⟨_, _, _, _, _, he, _, _, _, _, _, _, _, _⟩; exact ⟨_, he⟩) ?_
  rintro v w10 ⟨vp3, lp3, mb3, M3, dn3, he, G, HV3, hM3, hv4, hv5, hv6, hd5, hd6⟩
  cases he
  replace kg1 := G.has kg1 (HDo.nin kg1 (by decide))
  replace HO4 := HDo.keepB G HO4
  replace GG := G.gro GG (fun k hk => by simp only [List.mem_cons, List.not_mem_nil, or_false] at hk; omega)
  have GV3 := Gro.refl w10
  clear GV2 HDo
  replace HV3 : VK [vp3, lp3, mb3, p, sg] w10 vp3 lp3 p sg mb3 20 L3 (-1) dn3 h3 false 2 M3 := HV3
  obtain ⟨y, hy, hyi⟩ := hM3.some lk_f2
  have hyv : y.val = [97] := congrArg It.val hyi
  have hyw : y.who = 7 := congrArg It.who hyi
  have hyn : y.n.toNat = 1 := congrArg It.n hyi
  have hgy : getK M3 3 = y := by unfold getK; rw [hy]; rfl
  have hyo : y.ok := HV3.vb.ok _ (zh hy)
  refine nq ?_
  refine mv (.tuple #[vP vp3 0, iK 0]) rfl (mv (vP vp3 0) rfl (mv (iK 0) rfl (mv (vP vp3 0) rfl (mv (iK 0) rfl (nq ?_)))))
  refine qL (qE (qE ?_))
  refine exQ 21 [(0, 48), (1, 49), (2, 50), (3, 51), (4, 52), (5, 53), (6, 54), (7, 55), (8, 56), (9, 57), (10, 58), (11, 59), (12, 60), (13, 61), (14, 62), (15, 63), (16, 64), (17, 65), (18, 66), (19, 67), (20, 68)] [.val (iK 0), .val (vF), .val (vF), .val (iK 0), .val (vF), .val (vF), .val (vF), .val (vP vp3 0), .val (vF), .val (vF), .val (vF), .val (vP vp3 0), .val (iK 2), .val (vF), .val (vF), .val (vF), .val (vP g1 16), .val (.agg (veA ((mkI 3 (mkV (zM.ver.n + 1) 7) (some ⟨q, 0, none⟩) 1 [97]).re ao4 cap4).ver)), .val (eA 7), .val (.agg (veA (mkV 1 7))), .val (vF)] follows (by kernel_rfl) rfl (ja ?_ (ja ?_ (ja ?_ (ja ?_ (ja ?_ (ja ?_ (ja ?_ (ja ?_ (ja ?_ (ja ?_ (ja ?_ (ja ?_ (ja ?_ (ja ?_ (ja ?_ (ja ?_ (ja ?_ (ja ?_ (ja ?_ (ja ?_ (ja ?_ jD))))))))))))))))))))) ?_
  exact fun _ _ _ _ => jf _ rfl rfl rfl
  exact fun _ _ _ _ => jb rfl (jj 31 .i64 _ _ _ rfl underlying31 0 0 rfl rfl false (decide_eq_true rfl) _)
  exact fun _ _ _ _ => jf _ rfl rfl rfl
  exact fun _ _ _ _ => jf _ rfl rfl rfl
  exact fun _ _ _ _ => jb rfl (jj 31 .i64 _ _ _ rfl underlying31 0 0 rfl rfl false (decide_eq_true rfl) _)
  exact fun _ _ _ _ => zw (v := vF) _ _ _ rfl rfl false rfl rfl
  exact fun _ _ _ _ => jf _ rfl rfl rfl
  exact fun _ _ _ _ => jf _ rfl rfl rfl
  exact fun _ _ _ _ => jb rfl (jT 30 _ _ _ rfl _ rfl rfl underlying30 _)
  exact fun _ _ _ _ => zw (v := vF) _ _ _ rfl rfl false rfl rfl
  exact fun _ _ _ _ => jf _ rfl rfl rfl
  exact fun _ _ _ _ => jf _ rfl rfl rfl
  intro ptrs w' hw hE
  exact zi (.val (iK 2)) rfl _ 20 call20 rfl rfl _ rfl [vP vp3 0] rfl ((Vj _ vp3 lp3 mb3 2 (HV3.gro ((GV3).gro ((Gro.refl _).drew.trans hw))).vb.box).mono fun e w' ⟨he, hg⟩ => ⟨_, he, hg, rfl⟩)
  exact fun _ _ _ _ => jb rfl (jj 2 .i64 _ _ _ rfl underlying2 2 2 rfl rfl false (decide_eq_true rfl) _)
  exact fun _ _ _ _ => zw (v := vF) _ _ _ rfl rfl false rfl rfl
  exact fun _ _ _ _ => jf _ rfl rfl rfl
  exact fun _ _ _ _ => jb rfl (je 42 _ 1 rfl g1 0 rfl 16 (by kernel_rfl))
  exact fun _ _ hw _ => jb rfl (ldItv _ rfl g1 rfl (hw.has kg1))
  intro ptrs w' hw hE
  exact zi (.val (eA 7)) rfl _ 24 call24 rfl rfl _ rfl [.int .u8 7] rfl ((vi 7 (by decide) _).mono fun e w' ⟨he, hg⟩ => ⟨_, he, hg, rfl⟩)
  exact fun _ _ _ _ => jb rfl (jK 40 _ rfl [(0, iK 1), (1, eA 7)] rfl _ (bdV01 1 7 _))
  exact fun _ _ _ _ => jb rfl (Zr _ _ _ rfl _ _ rfl rfl ((IM.ok.re (vS (by decide) (vr ⟨by decide, by decide⟩ (by decide))) _ _).ver) (vr ⟨by decide, by decide⟩ (by decide)) false rfl)
  intro ptrs w11 GD hxE
  simp only [List.drop_succ_cons, List.drop_zero]
  replace kg1 := GD.has kg1
  replace GV3 := GV3.gro ((Gro.refl _).drew.trans GD)
  replace HO4 := HO4.gro ((Gro.refl _).drew.trans GD)
  replace GG := GG.drew.trans GD
  clear GD
  refine mv (vF) rfl (nq ?_)
  refine qL (qF rfl (qK (qE (qG (mv (vP vp3 0) rfl (nq ?_))))))
  refine jr 72 rfl rfl _ 24 call24 rfl rfl _ rfl [.int .u8 3] rfl (vi 3 (by decide) _) ?_
  intro w12 G
  replace kg1 := G.has kg1
  replace GV3 := GV3.gro G
  replace HO4 := HO4.gro G
  replace GG := GG.trans G
  clear G
  refine nq ?_
  refine jq 73 rfl rfl _ 16 call16 rfl rfl _ rfl [vP vp3 0, eA 3] rfl ((Kl _ _ vp3 lp3 p sg mb3 20 L3 (-1) dn3 h3 false 2 M3 (HV3.gro GV3) 3 (by decide)).mono fun e w' h => by rw [hgy, hy] at h; exact h) (by rintro _ _ ⟨_, _, he, _, _⟩; exact ⟨_, he⟩) ?_
  have lzg1 := ji kg1
  rintro v w13 ⟨ao5, cap5, he, G, HO5⟩
  cases he
  have dHO5g1 := HO5.neB lzg1
  replace HO5 := HO5.mono GG.size
  replace kg1 := G.has kg1
  replace GV3 := GV3.gro G
  replace HO4 := HO4.gro G
  replace GG := GG.trans G
  clear G
  refine nq ?_
  refine mv (.tuple #[iA (y.re ao5 cap5), vT]) rfl (mv (iA (y.re ao5 cap5)) rfl (mv (vT) rfl (nq ?_)))
  refine jH 7 rfl rfl 42 rfl _ zeroIt (itA zM) rfl ?_
  intro w14 g2 G eg2 kg2
  have bg2 := jh GG eg2
  have dg1g2 := jn kg1 eg2
  have dGV3g2 := GV3.ne eg2
  have dHO4g2 := HO4.ne eg2
  have dHO5g2 := HO5.ne eg2
  replace kg1 := G.has kg1
  replace GV3 := GV3.gro G
  replace HO4 := HO4.gro G
  replace HO5 := HO5.gro G
  replace GG := GG.trans G
  clear G
  clear eg2
  refine nq ?_
  refine stI (y.re ao5 cap5) rfl rfl rfl kg2 rfl ?_
  intro w15 St
  replace kg1 := St.has (by omega) kg1
  replace GV3 := GV3.st St dGV3g2
  replace HO4 := HO4.st St dHO4g2
  replace HO5 := HO5.st St dHO5g2
  replace GG := GG.store St bg2
  replace kg2 := St.new
  clear St
  refine mv (vT) rfl (nq ?_)
  refine qL (qE (qG (mv (vP vp3 0) rfl (nq ?_))))
  refine jr 78 rfl rfl _ 24 call24 rfl rfl _ rfl [.int .u8 3] rfl (vi 3 (by decide) _) ?_
  intro w16 G
  replace kg1 := G.has kg1
  replace kg2 := G.has kg2
  replace GV3 := GV3.gro G
  replace HO4 := HO4.gro G
  replace HO5 := HO5.gro G
  replace GG := GG.trans G
  clear G
  refine nq ?_
  refine jr 79 rfl rfl _ 24 call24 rfl rfl _ rfl [.int .u8 6] rfl (vi 6 (by decide) _) ?_
  intro w17 G
  replace kg1 := G.has kg1
  replace kg2 := G.has kg2
  replace GV3 := GV3.gro G
  replace HO4 := HO4.gro G
  replace HO5 := HO5.gro G
  replace GG := GG.trans G
  clear G
  refine nq ?_
  refine sv (.agg (veA (mkV 1 6))) (jK 40 _ rfl [(0, iK 1), (1, eA 6)] rfl _ (bdV01 1 6 _)) rfl (sv (iA (mkI 3 (mkV 1 6) none 0 [])) (jK 42 _ rfl [(0, eA 3), (1, .agg (veA (mkV 1 6)))] rfl _ (bdI01 3 (mkV 1 6)  _)) rfl (nq ?_))
  have hq6 : isN M3 (mkI 3 (mkV 1 6) none 0 []) = false := by
    unfold isN
    show (match getM M3 3 with | none => true | some y => nwV (mkI 3 (mkV 1 6) none 0 []).ver y.ver) = false
    rw [hy]
    exact decide_eq_false (by simp only [mkI, mkV, IM.ver]; omega)
  refine jr 82 rfl rfl _ 14 call14 rfl rfl _ rfl [vP vp3 0, iA (mkI 3 (mkV 1 6) none 0 [])] rfl (YD _ _ vp3 lp3 p sg mb3 20 L3 (-1) dn3 h3 false 2 M3 (HV3.gro GV3) (mkI 3 (mkV 1 6) none 0 []) (vS (by decide) (vr ⟨by decide, by decide⟩ (by decide))) (by decide) (by decide) (by decide) hq6) ?_
  intro w18 G
  replace kg1 := G.has kg1
  replace kg2 := G.has kg2
  replace GV3 := GV3.gro G
  replace HO4 := HO4.gro G
  replace HO5 := HO5.gro G
  replace GG := GG.trans G
  clear G
  refine nq ?_
  refine mv (.tuple #[vF, iK 0]) rfl (mv (vF) rfl (mv (iK 0) rfl (mv (vF) rfl (mv (iK 0) rfl (nq ?_)))))
  refine qL (qE (qG (mv (vP vp3 0) rfl (nq ?_))))
  refine jr 87 rfl rfl _ 24 call24 rfl rfl _ rfl [.int .u8 3] rfl (vi 3 (by decide) _) ?_
  intro w19 G
  replace kg1 := G.has kg1
  replace kg2 := G.has kg2
  replace GV3 := GV3.gro G
  replace HO4 := HO4.gro G
  replace HO5 := HO5.gro G
  replace GG := GG.trans G
  clear G
  refine nq ?_
  refine jr 88 rfl rfl _ 24 call24 rfl rfl _ rfl [.int .u8 8] rfl (vi 8 (by decide) _) ?_
  intro w20 G
  replace kg1 := G.has kg1
  replace kg2 := G.has kg2
  replace GV3 := GV3.gro G
  replace HO4 := HO4.gro G
  replace HO5 := HO5.gro G
  replace GG := GG.trans G
  clear G
  refine nq ?_
  refine sv (.agg (veA (mkV 1 8))) (jK 40 _ rfl [(0, iK 1), (1, eA 8)] rfl _ (bdV01 1 8 _)) rfl (sv (iA (mkI 3 (mkV 1 8) none 0 [])) (jK 42 _ rfl [(0, eA 3), (1, .agg (veA (mkV 1 8)))] rfl _ (bdI01 3 (mkV 1 8)  _)) rfl (nq ?_))
  have hq8 : isN M3 (mkI 3 (mkV 1 8) none 0 []) = true := by
    unfold isN
    show (match getM M3 3 with | none => true | some y => nwV (mkI 3 (mkV 1 8) none 0 []).ver y.ver) = true
    rw [hy]
    exact decide_eq_true (by simp only [mkI, mkV, IM.ver]; omega)
  obtain ⟨er4, L4, pw4, h4, dw4, rs4, HA4, SA4⟩ := JI 20 L3 (-1) h3 false _ (formV f2) HG3 Uo (by omega) (by decide)
  have hf2 := UA f2_ok
  have hs2 := QI hf2
  obtain ⟨rfl, rfl⟩ := HA4.go rfl rfl (by omega) (by omega)
  have hw4 := HA4.ok rfl
  subst hw4
  have HVo := HV3.gro GV3
  have szz4 := GG.size
  refine jq 91 rfl rfl _ 14 call14 rfl rfl _ rfl [vP vp3 0, iA (mkI 3 (mkV 1 8) none 0 [])] rfl ((ZW _ _ vp3 lp3 p sg mb3 20 L3 (-1) dn3 h3 false 2 M3 HVo (mkI 3 (mkV 1 8) none 0 []) (vS (by decide) (vr ⟨by decide, by decide⟩ (by decide))) (by decide) (by decide) (by decide) hq8 ⟨NC.nil _ _, fun _ h => by (cases h)⟩ _ 0 L4 (-1) h4 false rs4 HA4 SA4 (by omega) (by omega)).mono fun e w' h => h.yes) (by rintro _ _ ⟨_, _, _, he, _, _, _, _⟩; exact ⟨_, he⟩) ?_
  rintro v w21 ⟨dn4, ao6, cap6, he, G, HV4, hd7, hd8⟩
  cases he
  replace kg1 := G.has kg1 (HVo.nin kg1 (by decide))
  replace kg2 := G.has kg2 (HVo.nin kg2 (by decide))
  replace HO5 := HVo.keepB G HO5
  replace GG := G.gro GG (fun k hk => by simp only [List.mem_cons, List.not_mem_nil, or_false] at hk; omega)
  have GV4 := Gro.refl w21
  clear GV3 HVo
  refine nq ?_
  refine mv (.tuple #[vT, iK 0]) rfl (mv (vT) rfl (mv (iK 0) rfl (mv (vT) rfl (mv (iK 0) rfl (nq ?_)))))
  refine qL (qE ?_)
  refine jg ?_
  intro OPS hY
  have y1 := hY 1 95 rfl
  have y7 := hY 7 101 rfl
  have y11 := hY 11 105 rfl
  have y14 := hY 14 108 rfl
  clear hY
  refine mv (vT) rfl (mv (vT) rfl (jd 96 rfl rfl y1 rfl (vP g2 33) (je 42 _ 2 rfl g2 0 rfl 33 (by kernel_rfl)) (jd 97 rfl rfl y1 rfl (.slice (y.re ao5 cap5).ao (y.re ao5 cap5).val.length (y.re ao5 cap5).cap) (ldItr _ rfl g2 rfl (kg2)) (jd 98 rfl rfl y1 rfl (.string (bas (y.re ao5 cap5).val)) (zA bT 9 rfl _ rfl rfl (HO5.nc)) (jd 99 rfl rfl y1 rfl (vT) (ZO _ _ _ rfl _ _ rfl rfl true (decide_eq_true (by show bas y.val = _; rw [hyv]; rfl)) _) ?_)))))
  refine nq ?_
  refine mv (vT) rfl (mv (vT) rfl (jd 102 rfl rfl y7 rfl (vF) (rfl) (jd 103 rfl rfl y7 rfl (vT) (jZ _ _ rfl false rfl) (mv (vT) rfl (mv (vT) rfl ?_)))))
  refine nq ?_
  refine jd 106 rfl rfl y11 rfl (vT) (rfl) (mv (vT) rfl (mv (vT) rfl (jd 109 rfl rfl y14 rfl (vP vp3 0) (rfl) (nq ?_))))
  refine zP 110 rfl rfl y14 rfl _ 21 call21 rfl rfl _ rfl [vP vp3 0] rfl (Yo _ _ vp3 lp3 p sg mb3 20 L4 (-1) dn4 h4 false 2 _ (HV4.gro GV4)) ?_
  intro w22 G
  replace kg1 := G.has kg1
  replace kg2 := G.has kg2
  replace GV4 := GV4.gro G
  replace HO5 := HO5.gro G
  replace GG := GG.trans G
  clear G
  refine nq ?_
  refine jd 111 rfl rfl y14 rfl (vT) (jZ _ _ rfl false rfl) (mv (vT) rfl (mv (vT) rfl (nq ?_)))
  refine qL (qR ?_)
  refine bodyPost_ret (results_tmp results5 _ _ _) rfl ?_
  exact ⟨rfl, GG⟩
end Go.Proofs.YtgfnjekpafempaaGreat
