import Derived.Test.YtgfnjekpafempaaGreatBG6
import Derived.Test.YtgfnjekpafempaaGreatBAb
namespace Go.Proofs.YtgfnjekpafempaaGreat
open Go.Proofs.Tryz
set_option maxHeartbeats 4000000
set_option maxRecDepth 100000
open Go.RowKit
def evM (x : IM) : Value := .agg (itA x)
def kvM (k : Nat) : Value := .agg (idA k)
def okM (k : Nat) : Prop := k < top
theorem mT : MT 76 38 42 kvM okM evM (.agg (itA zM)) := ⟨underlying76, keyedI, fun p _ => keyI p, fun p q hp hq h => idA_inj hp hq (by injection h), zeroIt⟩
abbrev TM (w : World) (b : Nat) (M : List (Nat × IM)) : Prop := TMM kvM okM evM w b M
section
variable {w : World} {b : Nat} {M : List (Nat × IM)} {o : Oper} {A : Act}
theorem QP (h : TM w b M) (x y : Operand) (ho : o.op = .lookup 76 x y true) (hx : A.eval x = .map (some b)) (p : Nat) (hy : A.eval y = .agg (idA p)) (hp : p < top) (hg : getM M p = none) : (execOp A.eval o).run Tryz.prog w = .ok (.value (.tuple #[.agg (itA zM), .bool false])) w := by
  have := VU mT h x y ho hx p hy hp false (by rw [hg]; rfl)
  rw [hg] at this
  exact this
theorem QO (h : TM w b M) (x y : Operand) (ho : o.op = .lookup 76 x y true) (hx : A.eval x = .map (some b)) (p : Nat) (hy : A.eval y = .agg (idA p)) (hp : p < top) (z : IM) (hg : getM M p = some z) : (execOp A.eval o).run Tryz.prog w = .ok (.value (.tuple #[.agg (itA z), .bool true])) w := by
  have := VU mT h x y ho hx p hy hp true (by rw [hg]; rfl)
  rw [hg] at this
  exact this
theorem jcd (h : TM w b M) (x y : Operand) (ho : o.op = .lookup 76 x y false) (hx : A.eval x = .map (some b)) (p : Nat) (hy : A.eval y = .agg (idA p)) (hp : p < top) (hg : getM M p = none) : (execOp A.eval o).run Tryz.prog w = .ok (.value (.agg (itA zM))) w := by
  have := VV mT h x y ho hx p hy hp
  rw [hg] at this
  exact this
theorem jcc (h : TM w b M) (x y : Operand) (ho : o.op = .lookup 76 x y false) (hx : A.eval x = .map (some b)) (p : Nat) (hy : A.eval y = .agg (idA p)) (hp : p < top) (z : IM) (hg : getM M p = some z) : (execOp A.eval o).run Tryz.prog w = .ok (.value (.agg (itA z))) w := by
  have := VV mT h x y ho hx p hy hp
  rw [hg] at this
  exact this
end
structure VB (w : World) (vp lp : Nat) (inc : Int) (mb : Nat) (M : List (Nat × IM)) : Prop where
  box : w.heap[vp]? = some (.cells (vtA lp inc mb) 78 (0, 0))
  map : TM w mb M
  ok : ∀ x ∈ M, x.2.ok
theorem VB.gro {w w' : World} {vp lp mb : Nat} {inc : Int} {M : List (Nat × IM)} (h : VB w vp lp inc mb M) (G : Gro w w') : VB w' vp lp inc mb M := ⟨G.has h.box, h.map.gro G, h.ok⟩
section
variable {w w' : World} {vp lp mb g : Nat} {inc : Int} {M : List (Nat × IM)} {x : Obj}
theorem VB.neG (h : VB w vp lp inc mb M) (c : w.heap.size ≤ g) : vp < g ∧ mb < g := by
  have h1 := ji h.box
  have h2 := h.map.lt
  omega
theorem VB.ne (h : VB w vp lp inc mb M) (e : w.heap.size = g) : vp < g ∧ mb < g := h.neG (Nat.le_of_eq e)
theorem VB.st (h : VB w vp lp inc mb M) (St : Stored w w' g x) (hn : vp < g ∧ mb < g) : VB w' vp lp inc mb M := ⟨St.has (by omega) h.box, h.map.st St (by omega), h.ok⟩
end
structure BT (U : List Nat) (w : World) (so : Option Addr) (sc : Nat) (l : List Nat) : Prop where
  bs : BS U w so sc l
  ty : ∀ ad, so = some ad → 0 < l.length → ∃ cur, w.heap[ad.block]? = some (.cells cur 5 (0, 0))
section
variable {U S : List Nat} {w w' : World} {so : Option Addr} {sc g : Nat} {l : List Nat} {x : Obj}
theorem BT.nc (h : BT U w so sc l) : NC w .u8 so sc l := h.bs.nc
theorem BT.ne (h : BT U w so sc l) : ∀ ad, so = some ad → 0 < l.length → ad.block ∉ U := h.bs.ne
theorem BT.gro (h : BT U w so sc l) (G : Gro w w') : BT U w' so sc l := ⟨h.bs.gro G, fun ad ha h0 => by
  obtain ⟨cur, hc⟩ := h.ty ad ha h0
  exact ⟨cur, G.has hc⟩⟩
theorem BT.gros (h : BT U w so sc l) (G : GroS U w w') : BT U w' so sc l := ⟨h.bs.gros G, fun ad ha h0 => by
  obtain ⟨cur, hc⟩ := h.ty ad ha h0
  exact ⟨cur, G.has hc (h.ne ad ha h0)⟩⟩
theorem BT.st (h : BT U w so sc l) (T : Stored w w' g x) (hg : ∀ ad, so = some ad → 0 < l.length → ad.block ≠ g) : BT U w' so sc l := ⟨h.bs.st T hg, fun ad ha h0 => by
  obtain ⟨cur, hc⟩ := h.ty ad ha h0
  exact ⟨cur, T.has (hg ad ha h0) hc⟩⟩
theorem BT.sub (h : BT U w so sc l) (hs : ∀ k ∈ S, k ∈ U) : BT S w so sc l := ⟨⟨h.nc, fun ad ha h0 hm => h.ne ad ha h0 (hs _ hm)⟩, h.ty⟩
end
structure MR (U : List Nat) (w : World) (M : List (Nat × IM)) : Prop where
  row : ∀ x ∈ M, BT U w x.2.ao x.2.cap x.2.val
  key : ∀ x ∈ M, x.2.key = x.1
  n1 : ∀ x ∈ M, 1 ≤ x.2.n ∧ x.2.n ≤ 4611686018427387903
  len : ∀ x ∈ M, x.2.val.length ≤ 64
theorem MR.gro {U : List Nat} {w w' : World} {M : List (Nat × IM)} (h : MR U w M) (G : Gro w w') : MR U w' M := ⟨fun x hx => (h.row x hx).gro G, h.key, h.n1, h.len⟩
theorem MR.gros {U S : List Nat} {w w' : World} {M : List (Nat × IM)} (h : MR U w M) (G : GroS S w w') (hs : ∀ k ∈ S, k ∈ U) : MR U w' M := ⟨fun x hx => (h.row x hx).gros (G.mono hs), h.key, h.n1, h.len⟩
theorem MR.n0 {U : List Nat} {w : World} {M : List (Nat × IM)} (h : MR U w M) : ∀ y ∈ M, 0 ≤ y.2.n := fun y hy => by
  have := (h.n1 y hy).1
  omega
theorem vj {M : List (Nat × IM)} {p : Nat} {e : IM} {x : Nat × IM} (h : x ∈ putM M p e) : x = (p, e) ∨ x ∈ M := by
  rcases List.mem_cons.1 h with h | h
  · exact .inl h
  · exact .inr (List.mem_filter.1 h).1
theorem MR.put {U : List Nat} {w : World} {M : List (Nat × IM)} (h : MR U w M) {e : IM} (h1 : BT U w e.ao e.cap e.val) (h2 : 1 ≤ e.n ∧ e.n ≤ 4611686018427387903) (h3 : e.val.length ≤ 64) : MR U w (putM M e.key e) := by
  refine ⟨fun x hx => ?_, fun x hx => ?_, fun x hx => ?_, fun x hx => ?_⟩
  · rcases vj hx with rfl | hx
    · exact h1
    · exact h.row x hx
  · rcases vj hx with rfl | hx
    · rfl
    · exact h.key x hx
  · rcases vj hx with rfl | hx
    · exact h2
    · exact h.n1 x hx
  · rcases vj hx with rfl | hx
    · exact h3
    · exact h.len x hx
theorem OB.bs {U : List Nat} {w : World} {B : Nat} {ao : Option Addr} {cap : Nat} {l : List Nat} (h : OB w 5 .u8 B ao cap l) (hU : ∀ k ∈ U, k < B) : BS U w ao cap l := ⟨h.nc, fun ad ha _ hm => by
  have h1 := (h.ge ad ha).1
  have h2 := hU _ hm
  omega⟩
theorem OB.bt {U : List Nat} {w : World} {B : Nat} {ao : Option Addr} {cap : Nat} {l : List Nat} (h : OB w 5 .u8 B ao cap l) (hU : ∀ k ∈ U, k < B) : BT U w ao cap l := ⟨h.bs hU, fun _ ha _ => h.blk5 ha⟩
structure VR (U : List Nat) (w : World) (vp lp c mb : Nat) (M : List (Nat × IM)) (L : List It) : Prop where
  vb : VB w vp lp (c : Int) mb M
  mr : MR U w M
  rel : MRel M L
  sk : SKv L
  lt : ∀ k ∈ U, k < w.heap.size
  sub : vp ∈ U ∧ mb ∈ U
  c : c ≤ 1048576
theorem vE (w : World) (vp lp mb : Nat) (inc : Int) (M : List (Nat × IM)) (HV : VB w vp lp inc mb M) (x : IM) (hx : x.ok) : Calls Tryz.prog 38 #[vP vp 0, .agg (itA x)] w (fun e w' => e = .returned (.bool (isN M x)) ∧ Gro w w') := by
  cases hM : getM M x.key with
  | none =>
    refine eN func38 rfl ntmps38 [vP vp 0, iA x] ?_
    have GG := Gro.refl w
    have kvp := HV.box
    refine qS ?_
    refine jW 3 rfl rfl 42 _ rfl _ rfl (itA x) rfl ?_
    intro w1 g1 G eg1 kg1
    have bg1 := jh GG eg1
    replace kvp := G.has kvp
    replace HV := HV.gro G
    replace GG := GG.trans G
    clear G
    clear eg1
    refine nq ?_
    refine mv (vF) rfl (nq ?_)
    refine qL (qE ?_)
    refine yy (A := ?Ax1) 12 [(0, 8), (1, 9), (2, 10), (3, 11), (4, 12), (5, 13), (6, 14), (7, 7), (8, 15), (9, 16), (10, 5)] [.val (vP vp 0), .val (vP vp 0), .val (vP vp 2), .val (.map (some mb)), .val (vP g1 0), .val (eA x.key), .val (.tuple #[iA zM, vF]), .val (.tuple #[iA zM, vF]), .val (iA zM), .val (vF), .new 42 (itA zM) (itA zM) 11, .put 10] follows (by kernel_rfl) (by kernel_rfl) rfl ?hAx1 (jz ?o0x1 (jz ?o1x1 (jz ?o2x1 (jz ?o3x1 (jz ?o4x1 (jz ?o5x1 (jz ?o6x1 (jz ?o7x1 (jz ?o8x1 (jz ?o9x1 (jz ?o10x1 (jz ?o11x1 uz)))))))))))) ?restx1
    case hAx1 =>
      intro ptrs
      simp only [full, foldSlots, filled2, postAt2, List.foldl_cons, List.foldl_nil, List.getD_cons_zero, List.getD_cons_succ, PostS.fill, PostS.val, PostS.new, PostS.put, List.set_cons_zero, List.set_cons_succ]
      exact rfl
    case o0x1 => exact fun _ _ _ _ _ _ => OpOK2.of_val (jM rfl rfl)
    case o1x1 => exact fun _ _ _ _ _ _ => OpOK2.of_val (jM rfl (jl _ rfl _ rfl))
    case o2x1 => exact fun _ _ _ _ _ _ => OpOK2.of_val (jM rfl (je 78 _ 2 rfl vp 0 rfl 2 (by kernel_rfl)))
    case o3x1 => exact fun _ _ _ hw _ _ => OpOK2.of_val (jM rfl (ldVtm _ rfl vp rfl (hw.has kvp)))
    case o4x1 => exact fun _ _ _ _ _ _ => OpOK2.of_val (jM rfl (je 42 _ 0 rfl g1 0 rfl 0 (by kernel_rfl)))
    case o5x1 => exact fun _ _ _ hw _ _ => OpOK2.of_val (jM rfl (ldItk _ rfl g1 rfl (hw.has kg1)))
    case o6x1 => exact fun _ _ _ hw _ _ => OpOK2.of_val (jM rfl (QP ((HV).gro ((Gro.refl _).drew.trans hw)).map _ _ rfl rfl x.key rfl hx.key hM))
    case o7x1 => exact fun _ _ _ _ _ _ => OpOK2.of_val (jM rfl rfl)
    case o8x1 => exact fun _ _ _ _ _ _ => OpOK2.of_val (jM rfl (rfl))
    case o9x1 => exact fun _ _ _ _ _ _ => OpOK2.of_val (jM rfl (rfl))
    case o10x1 => exact fun _ _ _ _ _ _ => OpOK2.of_new (Jz rfl 42 rfl _ zeroIt)
    case o11x1 =>
      intro ptrs Lq wq hw hn hL
      obtain ⟨⟨gq, pq, kq, cq⟩, hz⟩ := hn
      have hL' : Lq 11 = false := hL
      have p' : ptrs 10 = vP gq 0 := pq
      have k' : wq.heap[gq]? = some (.cells (if Lq 11 = true then (itA zM) else (itA zM)) 42 (0, 0)) := kq
      rw [hL'] at k'
      refine uB rfl 42 _ _ rfl gq ?_ (itA zM) rfl (itA zM) k' (siIt' _) (ZZ _ _) (JE _) rfl p' _
      show ptrs 10 = _
      exact p'
    intro ptrs Lz w2 GD hLz hnz hapz
    obtain ⟨⟨g2, pzg2, kg2, czg2⟩, hzz⟩ := hnz
    simp only [List.drop_succ_cons, List.drop_zero, pzg2]
    replace kg2 : w2.heap[g2]? = some (.cells (itA zM) 42 (0, 0)) := by
      have hL' : Lz 11 = true := by rw [hLz]; rfl
      have kk : w2.heap[g2]? = some (.cells (if Lz 11 = true then (itA zM) else (itA zM)) 42 (0, 0)) := kg2
      rw [hL'] at kk
      exact kk
    clear hzz hapz hLz
    have dvpg2 : vp < g2 := Nat.lt_of_lt_of_le (ji kvp) czg2
    have dg1g2 : g1 < g2 := Nat.lt_of_lt_of_le (ji kg1) czg2
    have dHVg2 := HV.neG czg2
    replace kvp := GD.has kvp
    replace kg1 := GD.has kg1
    replace HV := HV.gro ((Gro.refl _).drew.trans GD)
    have bg2 := Nat.le_trans GG.size czg2
    replace GG := GG.drew.trans GD
    clear GD pzg2 czg2
    refine mv (vF) rfl (nq ?_)
    refine qL (qE ?_)
    refine jg ?_
    intro OPS hY
    have y2 := hY 2 19 rfl
    clear hY
    refine mv (vF) rfl (sv (vT) (jZ _ _ rfl false rfl) rfl (mv (vT) rfl (jk 20 rfl rfl y2 rfl (jk 21 rfl rfl y2 rfl (jk 22 rfl rfl y2 rfl ?_)))))
    refine nq ?_
    refine jk 23 rfl rfl y2 rfl (jk 24 rfl rfl y2 rfl (mv (vT) rfl (mv (vT) rfl (nq ?_))))
    refine qL (qR ?_)
    refine bodyPost_ret (results_tmp results38 _ _ _) rfl ?_
    unfold isN
    rw [hM]
    exact ⟨rfl, GG⟩
  | some y =>
    have hy := HV.ok _ (zh hM)
    refine eN func38 rfl ntmps38 [vP vp 0, iA x] ?_
    have GG := Gro.refl w
    have kvp := HV.box
    refine qS ?_
    refine jW 3 rfl rfl 42 _ rfl _ rfl (itA x) rfl ?_
    intro w1 g1 G eg1 kg1
    have bg1 := jh GG eg1
    replace kvp := G.has kvp
    replace HV := HV.gro G
    replace GG := GG.trans G
    clear G
    clear eg1
    refine nq ?_
    refine mv (vF) rfl (nq ?_)
    refine qL (qE ?_)
    refine yy (A := ?Ax2) 12 [(0, 8), (1, 9), (2, 10), (3, 11), (4, 12), (5, 13), (6, 14), (7, 7), (8, 15), (9, 16), (10, 5)] [.val (vP vp 0), .val (vP vp 0), .val (vP vp 2), .val (.map (some mb)), .val (vP g1 0), .val (eA x.key), .val (.tuple #[iA y, vT]), .val (.tuple #[iA y, vT]), .val (iA y), .val (vT), .new 42 (itA zM) (itA y) 11, .put 10] follows (by kernel_rfl) (by kernel_rfl) rfl ?hAx2 (jz ?o0x2 (jz ?o1x2 (jz ?o2x2 (jz ?o3x2 (jz ?o4x2 (jz ?o5x2 (jz ?o6x2 (jz ?o7x2 (jz ?o8x2 (jz ?o9x2 (jz ?o10x2 (jz ?o11x2 uz)))))))))))) ?restx2
    case hAx2 =>
      intro ptrs
      simp only [full, foldSlots, filled2, postAt2, List.foldl_cons, List.foldl_nil, List.getD_cons_zero, List.getD_cons_succ, PostS.fill, PostS.val, PostS.new, PostS.put, List.set_cons_zero, List.set_cons_succ]
      exact rfl
    case o0x2 => exact fun _ _ _ _ _ _ => OpOK2.of_val (jM rfl rfl)
    case o1x2 => exact fun _ _ _ _ _ _ => OpOK2.of_val (jM rfl (jl _ rfl _ rfl))
    case o2x2 => exact fun _ _ _ _ _ _ => OpOK2.of_val (jM rfl (je 78 _ 2 rfl vp 0 rfl 2 (by kernel_rfl)))
    case o3x2 => exact fun _ _ _ hw _ _ => OpOK2.of_val (jM rfl (ldVtm _ rfl vp rfl (hw.has kvp)))
    case o4x2 => exact fun _ _ _ _ _ _ => OpOK2.of_val (jM rfl (je 42 _ 0 rfl g1 0 rfl 0 (by kernel_rfl)))
    case o5x2 => exact fun _ _ _ hw _ _ => OpOK2.of_val (jM rfl (ldItk _ rfl g1 rfl (hw.has kg1)))
    case o6x2 => exact fun _ _ _ hw _ _ => OpOK2.of_val (jM rfl (QO ((HV).gro ((Gro.refl _).drew.trans hw)).map _ _ rfl rfl x.key rfl hx.key y hM))
    case o7x2 => exact fun _ _ _ _ _ _ => OpOK2.of_val (jM rfl rfl)
    case o8x2 => exact fun _ _ _ _ _ _ => OpOK2.of_val (jM rfl (rfl))
    case o9x2 => exact fun _ _ _ _ _ _ => OpOK2.of_val (jM rfl (rfl))
    case o10x2 => exact fun _ _ _ _ _ _ => OpOK2.of_new (Jz rfl 42 rfl _ zeroIt)
    case o11x2 =>
      intro ptrs Lq wq hw hn hL
      obtain ⟨⟨gq, pq, kq, cq⟩, hz⟩ := hn
      have hL' : Lq 11 = false := hL
      have p' : ptrs 10 = vP gq 0 := pq
      have k' : wq.heap[gq]? = some (.cells (if Lq 11 = true then (itA y) else (itA zM)) 42 (0, 0)) := kq
      rw [hL'] at k'
      refine uB rfl 42 _ _ rfl gq ?_ (itA y) rfl (itA zM) k' (siIt' _) (ZZ _ _) (JE _) rfl p' _
      show ptrs 10 = _
      exact p'
    intro ptrs Lz w2 GD hLz hnz hapz
    obtain ⟨⟨g2, pzg2, kg2, czg2⟩, hzz⟩ := hnz
    simp only [List.drop_succ_cons, List.drop_zero, pzg2]
    replace kg2 : w2.heap[g2]? = some (.cells (itA y) 42 (0, 0)) := by
      have hL' : Lz 11 = true := by rw [hLz]; rfl
      have kk : w2.heap[g2]? = some (.cells (if Lz 11 = true then (itA y) else (itA zM)) 42 (0, 0)) := kg2
      rw [hL'] at kk
      exact kk
    clear hzz hapz hLz
    have dvpg2 : vp < g2 := Nat.lt_of_lt_of_le (ji kvp) czg2
    have dg1g2 : g1 < g2 := Nat.lt_of_lt_of_le (ji kg1) czg2
    have dHVg2 := HV.neG czg2
    replace kvp := GD.has kvp
    replace kg1 := GD.has kg1
    replace HV := HV.gro ((Gro.refl _).drew.trans GD)
    have bg2 := Nat.le_trans GG.size czg2
    replace GG := GG.drew.trans GD
    clear GD pzg2 czg2
    refine mv (vT) rfl (nq ?_)
    refine qL (qE ?_)
    refine jg ?_
    intro OPS hY
    have y2 := hY 2 19 rfl
    clear hY
    refine mv (vT) rfl (sv (vF) (jZ _ _ rfl true rfl) rfl (mv (vF) rfl (jd 20 rfl rfl y2 rfl (vP g1 16) (je 42 _ 1 rfl g1 0 rfl 16 (by kernel_rfl)) (jd 21 rfl rfl y2 rfl (.agg (veA x.ver)) (ldItv _ rfl g1 rfl (kg1)) (jd 22 rfl rfl y2 rfl (vP g2 16) (je 42 _ 1 rfl g2 0 rfl 16 (by kernel_rfl)) ?_)))))
    refine nq ?_
    refine jd 23 rfl rfl y2 rfl (.agg (veA y.ver)) (ldItv _ rfl g2 rfl (kg2)) (nq ?_)
    refine zP 24 rfl rfl y2 rfl _ 63 call63 rfl rfl _ rfl [.agg (veA x.ver), .agg (veA y.ver)] rfl (jah _ _ hx.ver hy.ver _) ?_
    intro w3 G
    replace kvp := G.has kvp
    replace kg1 := G.has kg1
    replace kg2 := G.has kg2
    replace HV := HV.gro G
    replace GG := GG.trans G
    clear G
    refine nq ?_
    refine mv (.bool (nwV x.ver y.ver)) rfl (mv (.bool (nwV x.ver y.ver)) rfl (nq ?_))
    refine qL (qR ?_)
    refine bodyPost_ret (results_tmp results38 _ _ _) rfl ?_
    unfold isN
    rw [hM]
    exact ⟨rfl, GG⟩
def RpB (w : World) (vp lp mb : Nat) (p : Option Nat) (e : Ending) (w' : World) : Prop := match p with
  | none => e = .returned (.bool false) ∧ GroS [vp] w w'
  | some n => e = .returned (.bool true) ∧ GroS [vp] w w' ∧ w'.heap[vp]? = some (.cells (vtA lp (n : Int) mb) 78 (0, 0))
theorem uQ (w : World) (vp lp mb c : Nat) (kvp : w.heap[vp]? = some (.cells (vtA lp (c : Int) mb) 78 (0, 0))) (ao : Option Addr) (cap : Nat) (r : List Nat) (HR : NC w .u8 ao cap r) (hlen : r.length ≤ 140737488355000) (i : Int) : Calls Tryz.prog 47 #[vP vp 0, .slice ao r.length cap, iK i] w (RpB w vp lp mb ((rbV r i).bind fun n => if c < n then some n else none)) := by
  cases hv : rbV r i with
  | none =>
    refine eN func47 rfl ntmps47 [vP vp 0, .slice ao r.length cap, iK i] ?_
    have GG := GroS.refl [vp] w
    refine qE (qG (mv (vF) rfl (nq ?_)))
    refine qL (qE (qG (mv (.slice ao r.length cap) rfl (mv (iK i) rfl (nq ?_)))))
    refine jr 12 rfl rfl _ 70 call70 rfl rfl _ rfl [.slice ao r.length cap, iK i] rfl ((Zc _ ao cap r HR hlen i).mono fun e w' H => by rw [hv] at H; exact H) ?_
    intro w1 G
    replace kvp := G.has kvp
    replace HR := HR.gro G
    replace GG := GG.tg G
    clear G
    refine nq ?_
    refine mv (.tuple #[iK 0, vF]) rfl (mv (iK 0) rfl (mv (vF) rfl (mv (iK 0) rfl (mv (vF) rfl (nq ?_)))))
    refine qL (qE (qE ?_))
    refine jg ?_
    intro OPS hY
    have y2 := hY 2 17 rfl
    clear hY
    refine mv (vF) rfl (sv (vT) (jZ _ _ rfl false rfl) rfl (mv (vT) rfl (jk 18 rfl rfl y2 rfl (jk 19 rfl rfl y2 rfl (jk 20 rfl rfl y2 rfl ?_)))))
    refine nq ?_
    refine jk 21 rfl rfl y2 rfl (jk 22 rfl rfl y2 rfl (jk 23 rfl rfl y2 rfl (mv (vT) rfl (nq ?_))))
    refine qL (qT rfl (qE (qG (mv (vF) rfl (nq ?_)))))
    refine qL (qR (jm ?_))
    refine bodyPost_ret (results_tmp results47 _ _ _) rfl ?_
    exact ⟨rfl, GG⟩
  | some n =>
    refine eN func47 rfl ntmps47 [vP vp 0, .slice ao r.length cap, iK i] ?_
    have GG := GroS.refl [vp] w
    refine qE (qG (mv (vF) rfl (nq ?_)))
    refine qL (qE (qG (mv (.slice ao r.length cap) rfl (mv (iK i) rfl (nq ?_)))))
    refine jr 12 rfl rfl _ 70 call70 rfl rfl _ rfl [.slice ao r.length cap, iK i] rfl ((Zc _ ao cap r HR hlen i).mono fun e w' H => by rw [hv] at H; exact H) ?_
    intro w1 G
    replace kvp := G.has kvp
    replace HR := HR.gro G
    replace GG := GG.tg G
    clear G
    refine nq ?_
    refine mv (.tuple #[nK n, vT]) rfl (mv (nK n) rfl (mv (vT) rfl (mv (nK n) rfl (mv (vT) rfl (nq ?_)))))
    refine qL (qE (qE ?_))
    cases h1 : decide (((n : Nat) : Int) ≤ ((c : Nat) : Int))
    refine jg ?_
    intro OPS hY
    have y2 := hY 2 17 rfl
    clear hY
    refine mv (vT) rfl (sv (vF) (jZ _ _ rfl true rfl) rfl (mv (vF) rfl (jd 18 rfl rfl y2 rfl (nK n) (rfl) (jd 19 rfl rfl y2 rfl (vP vp 0) (rfl) (jd 20 rfl rfl y2 rfl (vP vp 0) (jl _ rfl _ rfl) ?_)))))
    refine nq ?_
    refine jd 21 rfl rfl y2 rfl (vP vp 1) (je 78 _ 1 rfl vp 0 rfl 1 (by kernel_rfl)) (jd 22 rfl rfl y2 rfl (nK c) (ldVti _ rfl vp rfl (kvp)) (jd 23 rfl rfl y2 rfl (vF) (yV 2 _ _ _ rfl ((n : Nat) : Int) ((c : Nat) : Int) rfl rfl false h1 _) (mv (vF) rfl (nq ?_))))
    refine qL (qF rfl (qK (qE (qG (mv (vP vp 0) rfl (mv (nK n) rfl (sv (vP vp 0) (jl _ rfl _ rfl) rfl (sv (vP vp 1) (je 78 _ 1 rfl vp 0 rfl 1 (by kernel_rfl)) rfl (nq ?_)))))))))
    refine jE rfl rfl 2 _ _ rfl vp 1 rfl (nK n) rfl 78 _ kvp #[nK n] rfl si64i (by rw [VF]; exact Nat.le_of_ble_eq_true rfl) (jea _) (vtA lp ((n : Nat) : Int) mb) (QG _ _ _ _) ?_
    intro w2 St
    clear HR
    replace GG := GG.st St (.inr (by simp))
    replace kvp := St.new
    clear St
    refine qL (qE (qG (mv (vT) rfl (nq ?_))))
    refine qL (qR ?_)
    refine bodyPost_ret (results_tmp results47 _ _ _) rfl ?_
    have c1 := of_decide_eq_false h1
    rw [Option.bind_some, if_pos (by omega)]
    exact ⟨rfl, GG, kvp⟩
    refine jg ?_
    intro OPS hY
    have y2 := hY 2 17 rfl
    clear hY
    refine mv (vT) rfl (sv (vF) (jZ _ _ rfl true rfl) rfl (mv (vF) rfl (jd 18 rfl rfl y2 rfl (nK n) (rfl) (jd 19 rfl rfl y2 rfl (vP vp 0) (rfl) (jd 20 rfl rfl y2 rfl (vP vp 0) (jl _ rfl _ rfl) ?_)))))
    refine nq ?_
    refine jd 21 rfl rfl y2 rfl (vP vp 1) (je 78 _ 1 rfl vp 0 rfl 1 (by kernel_rfl)) (jd 22 rfl rfl y2 rfl (nK c) (ldVti _ rfl vp rfl (kvp)) (jd 23 rfl rfl y2 rfl (vT) (yV 2 _ _ _ rfl ((n : Nat) : Int) ((c : Nat) : Int) rfl rfl true h1 _) (mv (vT) rfl (nq ?_))))
    refine qL (qT rfl (qE (qG (mv (vF) rfl (nq ?_)))))
    refine qL (qR (jm ?_))
    refine bodyPost_ret (results_tmp results47 _ _ _) rfl ?_
    have c1 := of_decide_eq_true h1
    rw [Option.bind_some, if_neg (by omega)]
    exact ⟨rfl, GG⟩
theorem Km {r : List Nat} (hr : ∀ b ∈ r, b < 256) (i : Int) : (getV r i).1 < top := by
  rw [uq]
  exact uo 16 _ (Ye r i) (Vo r hr i)
theorem riV_ok {r : List Nat} (hr : ∀ b ∈ r, b < 256) {i : Int} {x : It} (h : riV r i = some x) : x.ok := by
  unfold riV at h
  split at h
  · split at h
    · cases h
    · rename_i v hv
      split at h
      · rename_i hc
        cases h
        unfold rvV at hv
        split at hv
        · rename_i hd
          split at hv
          · cases hv
            have ht := Kn hr _ _ hc.1
            exact ⟨Km hr _, hd.2.1, by have := hd.2.2; simp only; omega, Km hr _, by have := ht.1; simp only at this ⊢; omega, ht.2⟩
          · cases hv
        · cases hv
      · cases h
  · cases h
theorem Kg {x : It} (h : x.ok) (ao : Option Addr) (cap : Nat) : (x.im ao cap).ok := ⟨h.key, ⟨by have := h.n1; simp only [It.im]; omega, by have := h.n2; simp only [It.im]; omega⟩, h.who⟩
section
variable {U : List Nat} {w w1 w2 : World} {vp lp c mb : Nat} {M : List (Nat × IM)} {L : List It}
theorem VR.gro (H : VR U w vp lp c mb M L) (G : Gro w w1) : VR U w1 vp lp c mb M L := ⟨H.vb.gro G, H.mr.gro G, H.rel, H.sk, fun k hk => Nat.lt_of_lt_of_le (H.lt k hk) G.size, H.sub, H.c⟩
theorem VR.ne (H : VR U w vp lp c mb M L) : vp ≠ mb := H.vb.map.nec H.vb.box
theorem VR.put (H : VR U w vp lp c mb M L) (GA : Gro w w1) (G2 : GroS [mb] w1 w2) {x : It} (hx : x.ok) {ao : Option Addr} {cap : Nat} (HM : TM w2 mb (putM M x.key (x.im ao cap))) (HO : OB w1 5 .u8 w.heap.size ao cap x.val) (hi : isN M (x.im ao cap) = true) :
    VR U w2 vp lp c mb (putM M x.key (x.im ao cap)) (tkV L x) := by
  have hp := Us H.rel (x := x.im ao cap) (by simp only [It.im]; omega) H.mr.n0 hi
  rw [Ut] at hp
  have hsub : ∀ k ∈ [mb], k ∈ U := fun k hk => by rw [List.mem_singleton.1 hk]; exact H.sub.2
  have h1 : BT U w2 ao cap x.val := (HO.bt H.lt).gros (G2.mono hsub)
  refine ⟨⟨G2.has (GA.has H.vb.box) (by simpa using H.ne), HM, fun y hy => ?_⟩, ?_, ?_, YR H.sk x, fun k hk => Nat.lt_of_lt_of_le (H.lt k hk) (Nat.le_trans GA.size G2.size), H.sub, H.c⟩
  · rcases vj hy with rfl | hy
    · exact Kg hx ao cap
    · exact H.vb.ok y hy
  · exact MR.put ((H.mr.gro GA).gros G2 hsub) (e := x.im ao cap) h1 (by have h1 := hx.n1; have h2 := hx.n2; simp only [It.im]; omega) hx.len
  · have := MRel.put H.rel H.vb.map.kn H.sk (x := x.im ao cap) (by rw [Ut]; exact hp) (y := x.im ao cap) rfl
    rw [Ut] at this
    exact this
theorem VR.old (H : VR U w vp lp c mb M L) {x : It} {ao : Option Addr} {cap : Nat} (hi : isN M (x.im ao cap) = false) : tkV L x = L := by
  obtain ⟨y, h1, h2⟩ := jam H.rel (x := x.im ao cap) (by simp only [It.im]; omega) H.mr.n0 hi
  rw [Ut] at h2
  exact VI x h1 h2
theorem VR.beg (H : VR U w vp lp c mb M L) (G : GroS [vp] w w1) {n : Nat} (hn : n ≤ 1048576) (kb : w1.heap[vp]? = some (.cells (vtA lp (n : Int) mb) 78 (0, 0))) : VR U w1 vp lp n mb M L :=
  ⟨⟨kb, H.vb.map.gros G (by simpa using H.ne.symm), H.vb.ok⟩, H.mr.gros G (fun k hk => by rw [List.mem_singleton.1 hk]; exact H.sub.1), H.rel, H.sk, fun k hk => Nat.lt_of_lt_of_le (H.lt k hk) G.size, H.sub, hn⟩
end
def RpI (U : List Nat) (w : World) (vp lp c mb : Nat) (L : List It) : Option It → Ending → World → Prop
  | none, e, w' => e = .returned (.bool false) ∧ GroS [mb] w w'
  | some x, e, w' => ∃ M', e = .returned (.bool true) ∧ GroS [mb] w w' ∧ VR U w' vp lp c mb M' (tkV L x)
def RpP (U : List Nat) (w : World) (vp lp mb : Nat) : Option (List It × Nat) → Ending → World → Prop
  | none, e, w' => e = .returned (.bool false) ∧ GroS [vp, mb] w w'
  | some s, e, w' => ∃ M', e = .returned (.bool true) ∧ GroS [vp, mb] w w' ∧ VR U w' vp lp s.2 mb M' s.1
theorem hldR_eq {r : List Nat} (hr : ∀ b ∈ r, b < 256) {n a e : Nat} (h : getE r 0 = (n, a, e)) (L : List It) (c : Nat) : hldR (L, c) r = if e ≠ 0 then none else if n = 1 then (((rbV r a).bind fun m => if c < m then some m else none).map fun m => (L, m)) else if n = 2 then ((riV r a).map fun x => (tkV L x, c)) else none := by
  unfold hldR
  rw [Js hr h]
  split
  · rfl
  split
  · cases rbV r a with
    | none => rfl
    | some m =>
      rw [Option.bind_some, Option.bind_some]
      by_cases c1 : c < m
      · rw [if_pos (show 1 ≤ m by omega), if_pos c1, Option.bind_some, Option.map_some]
        exact if_pos c1
      · rw [if_neg c1, Option.map_none]
        by_cases c2 : 1 ≤ m
        · rw [if_pos c2, Option.bind_some]
          exact if_neg c1
        · rw [if_neg c2]
          rfl
  split
  · cases riV r a with
    | none => rfl
    | some x => rfl
  · rfl
theorem rbV_le {r : List Nat} {i : Int} {n : Nat} (h : rbV r i = some n) : n ≤ 1048576 := by
  unfold rbV at h
  split at h
  · rename_i hc
    cases h
    exact hc.2.2
  · cases h
theorem uf (U : List Nat) (w : World) (vp lp mb c : Nat) (M : List (Nat × IM)) (L : List It) (H : VR U w vp lp c mb M L) (ao : Option Addr) (cap : Nat) (r : List Nat) (HR : NC w .u8 ao cap r) (hlen : r.length ≤ 140737488355000) (i : Int) : Calls Tryz.prog 48 #[vP vp 0, .slice ao r.length cap, iK i] w (RpI U w vp lp c mb L (riV r i)) := by
  cases hv : riV r i with
  | none =>
    refine eN func48 rfl ntmps48 [vP vp 0, .slice ao r.length cap, iK i] ?_
    have GG := GroS.refl [mb] w
    have GA := Gro.refl w
    have kvp := H.vb.box
    refine qE (qG (mv (vF) rfl (nq ?_)))
    refine qL (qE (qG (mv (.slice ao r.length cap) rfl (mv (iK i) rfl (nq ?_)))))
    refine jr 12 rfl rfl _ 71 call71 rfl rfl _ rfl [.slice ao r.length cap, iK i] rfl ((Jt _ ao cap r HR hlen i).mono fun e w' H => by rw [hv] at H; exact H) ?_
    intro w1 G
    replace kvp := G.has kvp
    replace HR := HR.gro G
    replace GA := GA.gro G
    replace GG := GG.tg G
    clear G
    refine nq ?_
    refine mv (.tuple #[iA zM, vF]) rfl (mv (iA zM) rfl (mv (vF) rfl (nq ?_)))
    refine jH 7 rfl rfl 42 rfl _ zeroIt (itA zM) rfl ?_
    intro w2 g1 G eg1 kg1
    have bg1 := jN GG eg1
    have dvpg1 := jn kvp eg1
    have dHRg1 := HR.ne eg1
    have dGAg1 := GA.ne eg1
    replace kvp := G.has kvp
    replace HR := HR.gro G
    replace GA := GA.gro G
    replace GG := GG.tg G
    clear G
    clear eg1
    refine nq ?_
    refine stI zM rfl rfl rfl kg1 rfl ?_
    intro w3 St
    replace kvp := St.has (by omega) kvp
    replace HR := HR.st St dHRg1
    replace GA := GA.st St dGAg1
    replace GG := GG.st St (.inl bg1)
    replace kg1 := St.new
    clear St
    refine mv (vF) rfl (nq ?_)
    refine qL (qE (qE ?_))
    refine jg ?_
    intro OPS hY
    have y1 := hY 1 16 rfl
    clear hY
    refine mv (vF) rfl (mv (vF) rfl (jk 17 rfl rfl y1 rfl (jk 18 rfl rfl y1 rfl (jk 19 rfl rfl y1 rfl (mv (vF) rfl ?_)))))
    refine nq ?_
    refine qL (qF rfl (qK (qE (qG (mv (vF) rfl (mv (vF) rfl (nq ?_)))))))
    refine qL (qR ?_)
    refine bodyPost_ret (results_tmp results48 _ _ _) rfl ?_
    exact ⟨rfl, GG⟩
  | some x =>
    have hx := riV_ok HR.lt256 hv
    refine eN func48 rfl ntmps48 [vP vp 0, .slice ao r.length cap, iK i] ?_
    have GG := GroS.refl [mb] w
    have GA := Gro.refl w
    have kvp := H.vb.box
    refine qE (qG (mv (vF) rfl (nq ?_)))
    refine qL (qE (qG (mv (.slice ao r.length cap) rfl (mv (iK i) rfl (nq ?_)))))
    refine jq 12 rfl rfl _ 71 call71 rfl rfl _ rfl [.slice ao r.length cap, iK i] rfl ((Jt _ ao cap r HR hlen i).mono fun e w' H => by rw [hv] at H; exact H) (by rintro _ _ ⟨_, _, he, _, _⟩; exact ⟨_, he⟩) ?_
    have lzvp := ji kvp
    rintro v w1 ⟨ao1, cap1, he, G, HO1⟩
    cases he
    have dHO1vp := HO1.neB lzvp
    replace HO1 := HO1.mono GG.size
    replace kvp := G.has kvp
    replace HR := HR.gro G
    replace GA := GA.gro G
    replace GG := GG.tg G
    clear G
    refine nq ?_
    refine mv (.tuple #[iA (x.im ao1 cap1), vT]) rfl (mv (iA (x.im ao1 cap1)) rfl (mv (vT) rfl (nq ?_)))
    refine jH 7 rfl rfl 42 rfl _ zeroIt (itA zM) rfl ?_
    intro w2 g1 G eg1 kg1
    have bg1 := jN GG eg1
    have dvpg1 := jn kvp eg1
    have dHRg1 := HR.ne eg1
    have dGAg1 := GA.ne eg1
    have dHO1g1 := HO1.ne eg1
    replace kvp := G.has kvp
    replace HR := HR.gro G
    replace GA := GA.gro G
    replace HO1 := HO1.gro G
    replace GG := GG.tg G
    clear G
    clear eg1
    refine nq ?_
    refine stI (x.im ao1 cap1) rfl rfl rfl kg1 rfl ?_
    intro w3 St
    replace kvp := St.has (by omega) kvp
    replace HR := HR.st St dHRg1
    replace GA := GA.st St dGAg1
    replace HO1 := HO1.st St dHO1g1
    replace GG := GG.st St (.inl bg1)
    replace kg1 := St.new
    clear St
    refine mv (vT) rfl (nq ?_)
    refine qL (qE (qE ?_))
    cases hq : isN M (x.im ao1 cap1)
    refine jg ?_
    intro OPS hY
    have y1 := hY 1 16 rfl
    clear hY
    refine mv (vT) rfl (mv (vT) rfl (jd 17 rfl rfl y1 rfl (vP vp 0) (rfl) (jd 18 rfl rfl y1 rfl (iA (x.im ao1 cap1)) (ldIt0 _ rfl g1 rfl (kg1)) (nq ?_))))
    refine zP 19 rfl rfl y1 rfl _ 38 call38 rfl rfl _ rfl [vP vp 0, iA (x.im ao1 cap1)] rfl (Calls.bool (vE _ vp lp mb _ M (H.vb.gro GA) (x.im ao1 cap1) (Kg hx _ _)) hq) ?_
    intro w4 G
    replace kvp := G.has kvp
    replace kg1 := G.has kg1
    replace HR := HR.gro G
    replace GA := GA.gro G
    replace HO1 := HO1.gro G
    replace GG := GG.tg G
    clear G
    refine nq ?_
    refine mv (vF) rfl (nq ?_)
    refine qL (qF rfl (qK (qE (qG (mv (vT) rfl (mv (vT) rfl (nq ?_)))))))
    refine qL (qR ?_)
    refine bodyPost_ret (results_tmp results48 _ _ _) rfl ?_
    refine ⟨M, rfl, GG, ?_⟩
    rw [H.old hq]
    exact H.gro GA
    refine jg ?_
    intro OPS hY
    have y1 := hY 1 16 rfl
    clear hY
    refine mv (vT) rfl (mv (vT) rfl (jd 17 rfl rfl y1 rfl (vP vp 0) (rfl) (jd 18 rfl rfl y1 rfl (iA (x.im ao1 cap1)) (ldIt0 _ rfl g1 rfl (kg1)) (nq ?_))))
    refine zP 19 rfl rfl y1 rfl _ 38 call38 rfl rfl _ rfl [vP vp 0, iA (x.im ao1 cap1)] rfl (Calls.bool (vE _ vp lp mb _ M (H.vb.gro GA) (x.im ao1 cap1) (Kg hx _ _)) hq) ?_
    intro w4 G
    replace kvp := G.has kvp
    replace kg1 := G.has kg1
    replace HR := HR.gro G
    replace GA := GA.gro G
    replace HO1 := HO1.gro G
    replace GG := GG.tg G
    clear G
    refine nq ?_
    refine mv (vT) rfl (nq ?_)
    refine qL (qT rfl ?_)
    refine exQ 7 [(0, 21), (1, 22), (2, 23), (3, 24), (4, 25), (5, 26), (6, 27)] [.val (vP vp 0), .val (vP vp 0), .val (vP vp 2), .val (.map (some mb)), .val (vP g1 0), .val (eA (x.im ao1 cap1).key), .val (iA (x.im ao1 cap1))] follows (by kernel_rfl) rfl (ja ?_ (ja ?_ (ja ?_ (ja ?_ (ja ?_ (ja ?_ (ja ?_ jD))))))) ?_
    exact fun _ _ _ _ => jf _ rfl rfl rfl
    exact fun _ _ _ _ => jb rfl (jl _ rfl _ rfl)
    exact fun _ _ _ _ => jb rfl (je 78 _ 2 rfl vp 0 rfl 2 (by kernel_rfl))
    exact fun _ _ hw _ => jb rfl (ldVtm _ rfl vp rfl (hw.has kvp))
    exact fun _ _ _ _ => jb rfl (je 42 _ 0 rfl g1 0 rfl 0 (by kernel_rfl))
    exact fun _ _ hw _ => jb rfl (ldItk _ rfl g1 rfl (hw.has kg1))
    exact fun _ _ hw _ => jb rfl (ldIt0 _ rfl g1 rfl (hw.has kg1))
    intro ptrs w5 GD hxE
    simp only [List.drop_succ_cons, List.drop_zero]
    replace kvp := GD.has kvp
    replace kg1 := GD.has kg1
    replace HR := HR.gro ((Gro.refl _).drew.trans GD)
    replace GA := GA.gro ((Gro.refl _).drew.trans GD)
    replace HO1 := HO1.gro ((Gro.refl _).drew.trans GD)
    replace GG := GG.drew.tg GD
    clear GD
    refine QL mT rfl rfl _ _ _ rfl (H.vb.map.gro GA) rfl x.key rfl hx.key (x.im ao1 cap1) rfl ?_
    intro w6 HM G2
    have HV2 := H.put GA G2 hx HM HO1 hq
    replace GG := (GroS.of (S := [mb]) GA).trans G2
    refine qL (qE (qG (mv (vT) rfl (mv (vT) rfl (nq ?_)))))
    refine qL (qR ?_)
    refine bodyPost_ret (results_tmp results48 _ _ _) rfl ?_
    exact ⟨_, rfl, GG, HV2⟩
theorem yX (U : List Nat) (w : World) (vp lp mb c : Nat) (M : List (Nat × IM)) (L : List It) (H : VR U w vp lp c mb M L) (ao : Option Addr) (cap : Nat) (r : List Nat) (HR : NC w .u8 ao cap r) (hlen : r.length ≤ 140737488355000) : Calls Tryz.prog 26 #[vP vp 0, .slice ao r.length cap] w (RpP U w vp lp mb (hldR (L, c) r)) := by
  obtain ⟨n, a, e, h⟩ := tri (getE r 0)
  rw [hldR_eq HR.lt256 h]
  by_cases he : e = 0
  rw [if_neg (show ¬ e ≠ 0 by omega)]
  have h1 : decide (((e : Nat) : Int) = 0) = true := decide_eq_true (by omega)
  by_cases hn1 : n = 1
  rw [if_pos hn1]
  have h2 : decide (((n : Nat) : Int) = 1) = true := decide_eq_true (by omega)
  cases hq : ((rbV r a).bind fun m => if c < m then some m else none) with
  | none =>
    refine eN func26 rfl ntmps26 [vP vp 0, .slice ao r.length cap] ?_
    have GG := GroS.refl [vp, mb] w
    have GA := Gro.refl w
    refine qE (qG (mv (vF) rfl (nq ?_)))
    refine qL (qE (qG (mv (.slice ao r.length cap) rfl (nq ?_))))
    refine jr 10 rfl rfl _ 46 call46 rfl rfl _ rfl [.slice ao r.length cap, iK 0] rfl (yD ao cap r _ HR 0 hlen n a e h) ?_
    intro w1 G
    replace HR := HR.gro G
    replace GA := GA.gro G
    replace GG := GG.tg G
    clear G
    refine nq ?_
    refine mv (.tuple #[.int .u64 ((n : Nat) : Int), nK a, nK e]) rfl (mv (.int .u64 ((n : Nat) : Int)) rfl (mv (nK a) rfl (mv (nK e) rfl (mv (.int .u64 ((n : Nat) : Int)) rfl (mv (nK a) rfl ?_)))))
    refine nq ?_
    refine mv (nK e) rfl (nq ?_)
    refine qL (qE (qE (qG (mv (nK e) rfl (sv (vF) (jj 31 .i64 _ _ _ rfl underlying31 ((e : Nat) : Int) 0 rfl rfl false h1 _) rfl (nq ?_))))))
    refine qL (qF rfl (qK (qE (qE (qG (mv (.int .u64 ((n : Nat) : Int)) rfl (nq ?_)))))))
    refine qL (qB (qE (qG (sv (vT) (jw 64 .u64 _ _ _ rfl underlying64 ((n : Nat) : Int) 1 rfl rfl true h2 _) rfl (mv (vT) rfl (nq ?_))))))
    refine qL (qT rfl (qE (qG (mv (vP vp 0) rfl (mv (.slice ao r.length cap) rfl (mv (nK a) rfl (nq ?_)))))))
    refine jq 22 rfl rfl _ 47 call47 rfl rfl _ rfl [vP vp 0, .slice ao r.length cap, nK a] rfl ((uQ _ vp lp mb c (GA.has H.vb.box) ao cap r HR hlen ((a : Nat) : Int)).mono fun e w' H => by rw [hq] at H; exact H) (by rintro _ _ ⟨he, _⟩; exact ⟨_, he⟩) ?_
    rintro v w2 ⟨he, G⟩
    cases he
    replace GG := GG.trans (G.mono (by simp))
    refine nq ?_
    refine mv (vF) rfl (nq ?_)
    refine qL (qR (ze (jm ?_)))
    refine bodyPost_ret (results_tmp results26 _ _ _) rfl ?_
    exact ⟨rfl, GG⟩
  | some m =>
    have hn : m ≤ 1048576 := by
      cases hr : rbV r a with
      | none => rw [hr] at hq; cases hq
      | some k =>
        have := rbV_le hr
        rw [hr, Option.bind_some] at hq
        split at hq
        cases hq; exact this
        cases hq
    refine eN func26 rfl ntmps26 [vP vp 0, .slice ao r.length cap] ?_
    have GG := GroS.refl [vp, mb] w
    have GA := Gro.refl w
    refine qE (qG (mv (vF) rfl (nq ?_)))
    refine qL (qE (qG (mv (.slice ao r.length cap) rfl (nq ?_))))
    refine jr 10 rfl rfl _ 46 call46 rfl rfl _ rfl [.slice ao r.length cap, iK 0] rfl (yD ao cap r _ HR 0 hlen n a e h) ?_
    intro w1 G
    replace HR := HR.gro G
    replace GA := GA.gro G
    replace GG := GG.tg G
    clear G
    refine nq ?_
    refine mv (.tuple #[.int .u64 ((n : Nat) : Int), nK a, nK e]) rfl (mv (.int .u64 ((n : Nat) : Int)) rfl (mv (nK a) rfl (mv (nK e) rfl (mv (.int .u64 ((n : Nat) : Int)) rfl (mv (nK a) rfl ?_)))))
    refine nq ?_
    refine mv (nK e) rfl (nq ?_)
    refine qL (qE (qE (qG (mv (nK e) rfl (sv (vF) (jj 31 .i64 _ _ _ rfl underlying31 ((e : Nat) : Int) 0 rfl rfl false h1 _) rfl (nq ?_))))))
    refine qL (qF rfl (qK (qE (qE (qG (mv (.int .u64 ((n : Nat) : Int)) rfl (nq ?_)))))))
    refine qL (qB (qE (qG (sv (vT) (jw 64 .u64 _ _ _ rfl underlying64 ((n : Nat) : Int) 1 rfl rfl true h2 _) rfl (mv (vT) rfl (nq ?_))))))
    refine qL (qT rfl (qE (qG (mv (vP vp 0) rfl (mv (.slice ao r.length cap) rfl (mv (nK a) rfl (nq ?_)))))))
    refine jq 22 rfl rfl _ 47 call47 rfl rfl _ rfl [vP vp 0, .slice ao r.length cap, nK a] rfl ((uQ _ vp lp mb c (GA.has H.vb.box) ao cap r HR hlen ((a : Nat) : Int)).mono fun e w' H => by rw [hq] at H; exact H) (by rintro _ _ ⟨he, _, _⟩; exact ⟨_, he⟩) ?_
    rintro v w2 ⟨he, G, kb⟩
    cases he
    have HV2 := (H.gro GA).beg G hn kb
    replace GG := GG.trans (G.mono (by simp))
    refine nq ?_
    refine mv (vT) rfl (nq ?_)
    refine qL (qR (ze (jm ?_)))
    refine bodyPost_ret (results_tmp results26 _ _ _) rfl ?_
    exact ⟨_, rfl, GG, HV2⟩
  rw [if_neg hn1]
  have h2 : decide (((n : Nat) : Int) = 1) = false := decide_eq_false (by omega)
  by_cases hn2 : n = 2
  rw [if_pos hn2]
  have h3 : decide (((n : Nat) : Int) = 2) = true := decide_eq_true (by omega)
  cases hq : riV r a with
  | none =>
    refine eN func26 rfl ntmps26 [vP vp 0, .slice ao r.length cap] ?_
    have GG := GroS.refl [vp, mb] w
    have GA := Gro.refl w
    refine qE (qG (mv (vF) rfl (nq ?_)))
    refine qL (qE (qG (mv (.slice ao r.length cap) rfl (nq ?_))))
    refine jr 10 rfl rfl _ 46 call46 rfl rfl _ rfl [.slice ao r.length cap, iK 0] rfl (yD ao cap r _ HR 0 hlen n a e h) ?_
    intro w1 G
    replace HR := HR.gro G
    replace GA := GA.gro G
    replace GG := GG.tg G
    clear G
    refine nq ?_
    refine mv (.tuple #[.int .u64 ((n : Nat) : Int), nK a, nK e]) rfl (mv (.int .u64 ((n : Nat) : Int)) rfl (mv (nK a) rfl (mv (nK e) rfl (mv (.int .u64 ((n : Nat) : Int)) rfl (mv (nK a) rfl ?_)))))
    refine nq ?_
    refine mv (nK e) rfl (nq ?_)
    refine qL (qE (qE (qG (mv (nK e) rfl (sv (vF) (jj 31 .i64 _ _ _ rfl underlying31 ((e : Nat) : Int) 0 rfl rfl false h1 _) rfl (nq ?_))))))
    refine qL (qF rfl (qK (qE (qE (qG (mv (.int .u64 ((n : Nat) : Int)) rfl (nq ?_)))))))
    refine qL (qB (qE (qG (sv (vF) (jw 64 .u64 _ _ _ rfl underlying64 ((n : Nat) : Int) 1 rfl rfl false h2 _) rfl (mv (vF) rfl (nq ?_))))))
    refine qL (qF rfl (qE (qG (sv (vT) (jw 64 .u64 _ _ _ rfl underlying64 ((n : Nat) : Int) 2 rfl rfl true h3 _) rfl (mv (vT) rfl (nq ?_))))))
    refine qL (qT rfl (qE (qG (mv (vP vp 0) rfl (mv (.slice ao r.length cap) rfl (mv (nK a) rfl (nq ?_)))))))
    refine jq 28 rfl rfl _ 48 call48 rfl rfl _ rfl [vP vp 0, .slice ao r.length cap, nK a] rfl ((uf U _ vp lp mb c M L (H.gro GA) ao cap r HR hlen ((a : Nat) : Int)).mono fun e w' H => by rw [hq] at H; exact H) (by rintro _ _ ⟨he, _⟩; exact ⟨_, he⟩) ?_
    rintro v w2 ⟨he, G⟩
    cases he
    replace GG := GG.trans (G.mono (by simp))
    refine nq ?_
    refine mv (vF) rfl (nq ?_)
    refine qL (qR (ze (jm ?_)))
    refine bodyPost_ret (results_tmp results26 _ _ _) rfl ?_
    exact ⟨rfl, GG⟩
  | some x =>
    refine eN func26 rfl ntmps26 [vP vp 0, .slice ao r.length cap] ?_
    have GG := GroS.refl [vp, mb] w
    have GA := Gro.refl w
    refine qE (qG (mv (vF) rfl (nq ?_)))
    refine qL (qE (qG (mv (.slice ao r.length cap) rfl (nq ?_))))
    refine jr 10 rfl rfl _ 46 call46 rfl rfl _ rfl [.slice ao r.length cap, iK 0] rfl (yD ao cap r _ HR 0 hlen n a e h) ?_
    intro w1 G
    replace HR := HR.gro G
    replace GA := GA.gro G
    replace GG := GG.tg G
    clear G
    refine nq ?_
    refine mv (.tuple #[.int .u64 ((n : Nat) : Int), nK a, nK e]) rfl (mv (.int .u64 ((n : Nat) : Int)) rfl (mv (nK a) rfl (mv (nK e) rfl (mv (.int .u64 ((n : Nat) : Int)) rfl (mv (nK a) rfl ?_)))))
    refine nq ?_
    refine mv (nK e) rfl (nq ?_)
    refine qL (qE (qE (qG (mv (nK e) rfl (sv (vF) (jj 31 .i64 _ _ _ rfl underlying31 ((e : Nat) : Int) 0 rfl rfl false h1 _) rfl (nq ?_))))))
    refine qL (qF rfl (qK (qE (qE (qG (mv (.int .u64 ((n : Nat) : Int)) rfl (nq ?_)))))))
    refine qL (qB (qE (qG (sv (vF) (jw 64 .u64 _ _ _ rfl underlying64 ((n : Nat) : Int) 1 rfl rfl false h2 _) rfl (mv (vF) rfl (nq ?_))))))
    refine qL (qF rfl (qE (qG (sv (vT) (jw 64 .u64 _ _ _ rfl underlying64 ((n : Nat) : Int) 2 rfl rfl true h3 _) rfl (mv (vT) rfl (nq ?_))))))
    refine qL (qT rfl (qE (qG (mv (vP vp 0) rfl (mv (.slice ao r.length cap) rfl (mv (nK a) rfl (nq ?_)))))))
    refine jq 28 rfl rfl _ 48 call48 rfl rfl _ rfl [vP vp 0, .slice ao r.length cap, nK a] rfl ((uf U _ vp lp mb c M L (H.gro GA) ao cap r HR hlen ((a : Nat) : Int)).mono fun e w' H => by rw [hq] at H; exact H) (by rintro _ _ ⟨_, he, _, _⟩; exact ⟨_, he⟩) ?_
    rintro v w2 ⟨M2, he, G, HV2⟩
    cases he
    replace GG := GG.trans (G.mono (by simp))
    refine nq ?_
    refine mv (vT) rfl (nq ?_)
    refine qL (qR (ze (jm ?_)))
    refine bodyPost_ret (results_tmp results26 _ _ _) rfl ?_
    exact ⟨_, rfl, GG, HV2⟩
  rw [if_neg hn2]
  have h3 : decide (((n : Nat) : Int) = 2) = false := decide_eq_false (by omega)
  refine eN func26 rfl ntmps26 [vP vp 0, .slice ao r.length cap] ?_
  have GG := GroS.refl [vp, mb] w
  have GA := Gro.refl w
  refine qE (qG (mv (vF) rfl (nq ?_)))
  refine qL (qE (qG (mv (.slice ao r.length cap) rfl (nq ?_))))
  refine jr 10 rfl rfl _ 46 call46 rfl rfl _ rfl [.slice ao r.length cap, iK 0] rfl (yD ao cap r _ HR 0 hlen n a e h) ?_
  intro w1 G
  replace HR := HR.gro G
  replace GA := GA.gro G
  replace GG := GG.tg G
  clear G
  refine nq ?_
  refine mv (.tuple #[.int .u64 ((n : Nat) : Int), nK a, nK e]) rfl (mv (.int .u64 ((n : Nat) : Int)) rfl (mv (nK a) rfl (mv (nK e) rfl (mv (.int .u64 ((n : Nat) : Int)) rfl (mv (nK a) rfl ?_)))))
  refine nq ?_
  refine mv (nK e) rfl (nq ?_)
  refine qL (qE (qE (qG (mv (nK e) rfl (sv (vF) (jj 31 .i64 _ _ _ rfl underlying31 ((e : Nat) : Int) 0 rfl rfl false h1 _) rfl (nq ?_))))))
  refine qL (qF rfl (qK (qE (qE (qG (mv (.int .u64 ((n : Nat) : Int)) rfl (nq ?_)))))))
  refine qL (qB (qE (qG (sv (vF) (jw 64 .u64 _ _ _ rfl underlying64 ((n : Nat) : Int) 1 rfl rfl false h2 _) rfl (mv (vF) rfl (nq ?_))))))
  refine qL (qF rfl (qE (qG (sv (vF) (jw 64 .u64 _ _ _ rfl underlying64 ((n : Nat) : Int) 2 rfl rfl false h3 _) rfl (mv (vF) rfl (nq ?_))))))
  refine qL (qF rfl (wp_skip (zb (jC (qE (qG (mv (vF) rfl (nq ?_))))))))
  refine qL (qR ?_)
  refine bodyPost_ret (results_tmp results26 _ _ _) rfl ?_
  exact ⟨rfl, GG⟩
  rw [if_pos he]
  have h1 : decide (((e : Nat) : Int) = 0) = false := decide_eq_false (by omega)
  refine eN func26 rfl ntmps26 [vP vp 0, .slice ao r.length cap] ?_
  have GG := GroS.refl [vp, mb] w
  have GA := Gro.refl w
  refine qE (qG (mv (vF) rfl (nq ?_)))
  refine qL (qE (qG (mv (.slice ao r.length cap) rfl (nq ?_))))
  refine jr 10 rfl rfl _ 46 call46 rfl rfl _ rfl [.slice ao r.length cap, iK 0] rfl (yD ao cap r _ HR 0 hlen n a e h) ?_
  intro w1 G
  replace HR := HR.gro G
  replace GA := GA.gro G
  replace GG := GG.tg G
  clear G
  refine nq ?_
  refine mv (.tuple #[.int .u64 ((n : Nat) : Int), nK a, nK e]) rfl (mv (.int .u64 ((n : Nat) : Int)) rfl (mv (nK a) rfl (mv (nK e) rfl (mv (.int .u64 ((n : Nat) : Int)) rfl (mv (nK a) rfl ?_)))))
  refine nq ?_
  refine mv (nK e) rfl (nq ?_)
  refine qL (qE (qE (qG (mv (nK e) rfl (sv (vT) (jj 31 .i64 _ _ _ rfl underlying31 ((e : Nat) : Int) 0 rfl rfl true h1 _) rfl (nq ?_))))))
  refine qL (qT rfl (qE (qG (mv (vF) rfl (nq ?_)))))
  refine qL (qR (jm ?_))
  refine bodyPost_ret (results_tmp results26 _ _ _) rfl ?_
  exact ⟨rfl, GG⟩
end Go.Proofs.YtgfnjekpafempaaGreat
