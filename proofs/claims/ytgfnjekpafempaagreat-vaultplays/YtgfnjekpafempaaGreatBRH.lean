import Derived.Test.YtgfnjekpafempaaGreatBRF
import Derived.Test.YtgfnjekpafempaaGreatBAb
namespace Go.Proofs.YtgfnjekpafempaaGreat
open Go.Proofs.Tryz
set_option maxHeartbeats 4000000
set_option maxRecDepth 100000
open Go.RowKit
def fkI (R : List IM) (k : Nat) : Option IM := R.find? fun x => decide (x.key = k)
theorem Vq (R : List IM) (k : Nat) : (fkI R k).map IM.it = lkV (R.map IM.it) k := by
  unfold fkI lkV
  rw [List.find?_map]
  rfl
def vN (L : List It) (k : Nat) : Nat := ((lkV L k).map It.n).getD 0
def getS (L : List It) (k : Nat) : Sg := ((lkV L k).map sgf).getD zM.sg
theorem vN_le {L : List It} (h : ∀ x ∈ L, x.ok) (k : Nat) : vN L k ≤ 4611686018427387903 := by
  unfold vN
  cases e : lkV L k with
  | none => exact Nat.zero_le _
  | some y =>
    have := (h y (yC e).1).n2
    show y.n ≤ _
    omega
theorem ZB {U : List Nat} {w : World} {M : List (Nat × IM)} {L : List It} (h : MRel M L) (hm : MR U w M) (k : Nat) : (getK M k).n = ((vN L k : Nat) : Int) := by
  have e := h k
  unfold getK vN
  cases hg : getM M k with
  | none => rw [hg] at e; rw [← e]; rfl
  | some y =>
    rw [hg] at e
    rw [← e]
    have := hm.n0 _ (zh hg)
    show y.n = ((y.n.toNat : Nat) : Int)
    simp only at this
    omega
theorem getK_sg {U : List Nat} {w : World} {M : List (Nat × IM)} {L : List It} (h : MRel M L) (hm : MR U w M) (k : Nat) (ao : Option Addr) (cap : Nat) : ((getK M k).re ao cap).sg = getS L k := by
  have e := h k
  unfold getK getS
  cases hg : getM M k with
  | none => rw [hg] at e; rw [← e]; rfl
  | some y =>
    rw [hg] at e
    rw [← e]
    have := (hm.n1 _ (zh hg)).1
    show y.sg = sgf y.it
    refine VL ?_
    show 1 ≤ y.n.toNat
    simp only at this
    omega
theorem getK_is {M : List (Nat × IM)} {L : List It} (h : MRel M L) (k : Nat) : (getM M k).isSome = (lkV L k).isSome := by
  rw [← h k, Option.isSome_map]
theorem Qp {R : List IM} {L : List It} (h : R.map IM.it = L) (hn : ∀ y ∈ R, 1 ≤ y.n) (k : Nat) : ((fkI R k).getD zM).n = ((vN L k : Nat) : Int) := by
  have e := Vq R k
  rw [h] at e
  unfold vN
  rw [← e]
  cases hg : fkI R k with
  | none => rfl
  | some y =>
    have := hn y (List.mem_of_find?_eq_some hg)
    show y.n = ((y.n.toNat : Nat) : Int)
    omega
theorem fkI_sg {R : List IM} {L : List It} (h : R.map IM.it = L) (hn : ∀ y ∈ R, 1 ≤ y.n) (k : Nat) : ((fkI R k).getD zM).sg = getS L k := by
  have e := Vq R k
  rw [h] at e
  unfold getS
  rw [← e]
  cases hg : fkI R k with
  | none => rfl
  | some y =>
    have := hn y (List.mem_of_find?_eq_some hg)
    show y.sg = sgf y.it
    refine VL ?_
    show 1 ≤ y.n.toNat
    omega
theorem fkI_is {R : List IM} {L : List It} (h : R.map IM.it = L) (k : Nat) : (fkI R k).isSome = (lkV L k).isSome := by
  rw [← h, ← Vq R k, Option.isSome_map]
def nwL (L : List It) (x : It) : Bool := ((lkV L x.key).map (nwr x)).getD true
theorem Vi {U : List Nat} {w : World} {M : List (Nat × IM)} {L : List It} (h : MRel M L) (hm : MR U w M) {x : IM} (hx : 0 ≤ x.n) : isN M x = nwL L x.it := by
  have e := h x.key
  unfold isN nwL
  show _ = ((lkV L x.key).map (nwr x.it)).getD true
  cases hg : getM M x.key with
  | none => rw [hg] at e; rw [← e]; rfl
  | some y =>
    rw [hg] at e
    rw [← e]
    exact uC hx (hm.n0 _ (zh hg))
theorem fkI_old {R : List IM} {L : List It} (h : R.map IM.it = L) (hn : ∀ y ∈ R, 1 ≤ y.n) {x : IM} (hx : 0 ≤ x.n) : nwL L x.it = ((fkI R x.key).map fun y => nwV x.ver y.ver).getD true := by
  have e := Vq R x.key
  rw [h] at e
  unfold nwL
  show ((lkV L x.key).map (nwr x.it)).getD true = _
  rw [← e]
  cases hg : fkI R x.key with
  | none => rfl
  | some y =>
    have := hn y (List.mem_of_find?_eq_some hg)
    exact (uC hx (by omega)).symm
def putI (L : List It) (k z : Nat) (l : List Nat) : It := ⟨k, vN L k + 1, z, l⟩
theorem jdb {L : List It} {k z : Nat} {l : List Nat} : nwL L (putI L k z l) = true := by
  unfold nwL putI vN
  show ((lkV L k).map _).getD true = true
  cases lkV L k with
  | none => rfl
  | some y => exact decide_eq_true (.inl (Nat.lt_succ_self _))
theorem Up {L : List It} {x : It} (h : nwL L x = true) : pickV x (lkV L x.key) = some x := by
  unfold nwL at h
  cases e : lkV L x.key with
  | none => rfl
  | some y =>
    rw [e] at h
    show (if nwr x y = true then some x else some y) = some x
    exact if_pos h
structure PU (n : Nat) (L : List Nat) (pw : Int) (h : Hd) (rs : List (List Nat)) (Lx : List It) (c : Nat) (er : Int) (m : Nat) : Prop where
  okp : okP pw
  good : 3 ≤ n → Good L n h rs
  g : h.g ≤ m
  op : er = 0 → 3 ≤ n ∧ hld rs = some (Lx, c) ∧ SKv Lx ∧ ∀ x ∈ Lx, x.ok
structure AftA (U : List Nat) (w w' : World) (vp lp p sg mb n : Nat) (L : List Nat) (pw dn dn' : Int) (h : Hd) (dw : Bool) (c : Nat) (M0 M : List (Nat × IM)) (Ly : List It) : Prop where
  gro : GroS [vp, lp, p, sg, mb] w w'
  vk : VK U w' vp lp p sg mb n L pw dn' h dw (c : Int) M
  rel : MRel M Ly
  new : ∀ y ∈ M, y ∈ M0 ∨ Frs w y.2.ao
  d : dn ≤ dn' ∧ dn' ≤ dn + 20
structure AftB (C : Nat) (w w' : World) (vq mp rp B : Nat) (ro : Option Addr) (rc n : Nat) (L : List Nat) (pw dn dn' : Int) (h : Hd) (dw : Bool) (c : Nat) (ao : Option Addr) (cap : Nat) (R R2 : List IM) (Ly : List It) : Prop where
  gro : GroS (vq :: rp :: mp :: blk ro) w w'
  vd : VD C w' vq mp rp B ro rc n L pw dn' h dw (c : Int) ao cap R2
  rel : R2.map IM.it = Ly
  new : ∀ y ∈ R2, y ∈ R ∨ Frs w y.ao
  d : dn ≤ dn' ∧ dn' ≤ dn + 20
def CallA (n : Nat) (L : List Nat) (pw : Int) (h : Hd) (dw : Bool) (Lx : List It) (c : Nat) (f : Nat) (l : List Nat) (args : Option Addr → Nat → List Value) (ans : IM → Value) (s : Sg) (L2 : List Nat) (pw2 : Int) (h2 : Hd) (dw2 : Bool) (Ly : List It) : Prop :=
  ∀ (U : List Nat) (w : World) (vp lp p sg mb : Nat) (dn : Int) (M : List (Nat × IM)) (ao : Option Addr) (cap : Nat), VK U w vp lp p sg mb n L pw dn h dw (c : Int) M → MRel M Lx → BS U w ao cap l → 0 ≤ dn → dn < 9223372036854760000 →
  Calls Tryz.prog f (.pointer (some ⟨vp, 0, none⟩) :: args ao cap).toArray w fun e w' => ∃ C dn' M' y, e = .returned (ans y) ∧ AftA U w w' vp lp p sg mb n L2 pw2 dn dn' h2 dw2 c M M' Ly ∧ Bd C U M' ∧ w.heap.size ≤ C ∧ OB w' 5 .u8 C y.ao y.cap y.val ∧ y.ok ∧ y.sg = s
def CallB (n : Nat) (L : List Nat) (pw : Int) (h : Hd) (dw : Bool) (Lx : List It) (c : Nat) (f : Nat) (l : List Nat) (args : Option Addr → Nat → List Value) (ans : IM → Value) (s : Sg) (L2 : List Nat) (pw2 : Int) (h2 : Hd) (dw2 : Bool) (Ly : List It) : Prop :=
  ∀ (C : Nat) (w : World) (vq mp rp B : Nat) (ro : Option Addr) (rc : Nat) (dn : Int) (ao : Option Addr) (cap : Nat) (R : List IM) (bo : Option Addr) (bc : Nat), VD C w vq mp rp B ro rc n L pw dn h dw (c : Int) ao cap R → C ≤ w.heap.size → R.map IM.it = Lx → BS (rp :: mp :: blk ro) w bo bc l → 0 ≤ dn → dn < 9223372036854760000 →
  Calls Tryz.prog f (.pointer (some ⟨vq, 0, none⟩) :: args bo bc).toArray w fun e w' => ∃ dn' ao' cap' R2 y, e = .returned (ans y) ∧ AftB C w w' vq mp rp B ro rc n L2 pw2 dn dn' h2 dw2 c ao' cap' R R2 Ly ∧ NC w' .u8 y.ao y.cap y.val ∧ y.ok ∧ y.sg = s
section
variable {n : Nat} {L : List Nat} {pw : Int} {h : Hd} {dw : Bool} {Lx : List It} {c f : Nat} {l : List Nat} {args : Option Addr → Nat → List Value} {ans : IM → Value}
theorem yF (a : ∀ (U : List Nat) (w : World) (vp lp p sg mb : Nat) (dn : Int) (M : List (Nat × IM)) (ao : Option Addr) (cap : Nat), VK U w vp lp p sg mb n L pw dn h dw (c : Int) M → MRel M Lx → Calls Tryz.prog f (.pointer (some ⟨vp, 0, none⟩) :: args ao cap).toArray w fun e w' => e = .returned (ans zM) ∧ Gro w w') : CallA n L pw h dw Lx c f l args ans zM.sg L pw h dw Lx :=
  fun U w vp lp p sg mb dn M ao cap hv hr _ _ _ => (a U w vp lp p sg mb dn M ao cap hv hr).mono fun e w' ⟨he, G⟩ => ⟨w'.heap.size, dn, M, zM, he, ⟨.of G, hv.gro G, hr, fun y hy => .inl hy, by omega, by omega⟩, (hv.gro G).bd, G.size, OB.nil _ _ _ _, JY, rfl⟩
theorem yE (a : ∀ (C : Nat) (w : World) (vq mp rp B : Nat) (ro : Option Addr) (rc : Nat) (dn : Int) (ao : Option Addr) (cap : Nat) (R : List IM) (bo : Option Addr) (bc : Nat), VD C w vq mp rp B ro rc n L pw dn h dw (c : Int) ao cap R → R.map IM.it = Lx → BS (rp :: mp :: blk ro) w bo bc l → Calls Tryz.prog f (.pointer (some ⟨vq, 0, none⟩) :: args bo bc).toArray w fun e w' => e = .returned (ans zM) ∧ Gro w w') : CallB n L pw h dw Lx c f l args ans zM.sg L pw h dw Lx :=
  fun C w vq mp rp B ro rc dn ao cap R bo bc hv _ hr hb _ _ => (a C w vq mp rp B ro rc dn ao cap R bo bc hv hr hb).mono fun e w' ⟨he, G⟩ => ⟨dn, ao, cap, R, zM, he, ⟨.of G, hv.gro G, hr, fun y hy => .inl hy, by omega, by omega⟩, NC.nil _ _, JY, rfl⟩
end
theorem fkI_at {R : List IM} {k i : Nat} (hi : i < R.length) (hno : ∀ y ∈ R.take i, y.key ≠ k) (he : (R.getD i zM).key = k) : fkI R k = some (R.getD i zM) := by
  have e : R = R.take i ++ (R.getD i zM :: R.drop (i + 1)) := by
    have h1 : R.getD i zM = R[i] := by rw [List.getD_eq_getElem?_getD, List.getElem?_eq_getElem hi]; rfl
    rw [h1, ← List.drop_eq_getElem_cons hi, List.take_append_drop]
  have h2 : fkI R k = fkI (R.take i ++ (R.getD i zM :: R.drop (i + 1))) k := congrArg (fun l => fkI l k) e
  rw [h2]
  unfold fkI
  rw [List.find?_append, List.find?_eq_none.2 (fun y hy => by simpa using hno y hy), Option.none_or, List.find?_cons_of_pos (by simpa using he)]
theorem fkI_no {R : List IM} {k i : Nat} (hi : R.length ≤ i) (hno : ∀ y ∈ R.take i, y.key ≠ k) : fkI R k = none := by
  rw [List.take_of_length_le hi] at hno
  exact List.find?_eq_none.2 (fun y hy => by simpa using hno y hy)
theorem no_snoc {R : List IM} {k i : Nat} (hi : i < R.length) (hno : ∀ y ∈ R.take i, y.key ≠ k) (he : (R.getD i zM).key ≠ k) : ∀ y ∈ R.take (i + 1), y.key ≠ k := fun y hy => by
  rw [vo hi] at hy
  rcases List.mem_append.1 hy with hy | hy
  · exact hno y hy
  · rw [List.mem_singleton.1 hy]; exact he
theorem rBy : RowT Tryz.prog 27 5 1 1 (.int .u8 0) := ⟨underlying27, uF (by kernel_rfl), rfl, by decide⟩
theorem Ub (w : World) (ty : TypeId) (g : Nat) (kg : w.heap[g]? = some (.cells #[] 5 (0, 0))) (ao : Option Addr) (cap : Nat) (l : List Nat) (HN : NC w .u8 ao cap l) (hl : l.length ≤ 140737488355328) :
    ∃ ao2 cap2 w', (Builtin.append_ #[27, 27] ty #[.slice (some ⟨g, 0, none⟩) 0 0, .slice ao l.length cap]).run Tryz.prog w = .ok (.slice ao2 l.length cap2) w' ∧ Gro w w' ∧ OB w' 5 .u8 g ao2 cap2 l := by
  have HO : OB w 5 .u8 g (some ⟨g, 0, none⟩) 0 [] := OB.made kg (Nat.le_refl _) (Nat.le_refl _) (Nat.zero_le _) rfl rfl (fun x hx => by cases hx)
  have HY : OY w 5 1 g (some ⟨g, 0, none⟩) 0 0 [] := ⟨rfl, .inr ⟨g, 0, #[], rfl, Nat.le_refl _, kg, Nat.le_refl _, Nat.zero_le _, Nat.le_refl _, rfl⟩, fun _ h => by cases h⟩
  obtain ⟨ao2, cap2, w', hr, _, _, _, hG⟩ := Ua rBy ty w HY HN.xc (by omega) (by decide) (Nat.le_of_lt (ji kg))
  rw [Nat.zero_add] at hr
  refine ⟨ao2, cap2, w', hr, hG rfl, ?_⟩
  obtain ⟨i, hi, hz, hsz, hby⟩ := bT.info
  cases ao with
  | none =>
    have h1 := HN.bare rfl
    have h2 := HN.fit
    have h3 : l = [] := List.eq_nil_of_length_eq_zero (by omega)
    subst h3
    subst h1
    have hr2 := run_append_owned_none (P := Tryz.prog) w g 27 ty 5 i 1 bT.und hi (.slice (some ⟨g, 0, none⟩) 0 0) 0 _ HO.own
    rw [List.length_nil, hr2] at hr
    cases hr
    exact HO
  | some ad =>
    obtain ⟨v', w2, hr2, h1, _, _⟩ := run_append_own (P := Tryz.prog) w g 27 ty 5 i (.int .u8 0) 1 1 bT.und hi hz hsz hby rfl (by decide) (.slice (some ⟨g, 0, none⟩) 0 0) 0 [] HO.own ad l.length cap (l.map fun r : Nat => Value.int .u8 (r : Int)) (by simp) (fun j u hu => by
      rw [List.getElem?_map] at hu
      by_cases hj : j < l.length
      · rw [List.getElem?_eq_getElem hj] at hu
        have hc := HN.cell ad rfl j hj
        rw [List.getD_eq_getElem?_getD, List.getElem?_eq_getElem hj] at hc
        rw [hc]
        simpa using hu
      · rw [List.getElem?_eq_none (by omega)] at hu
        cases hu) (fun u hu => by obtain ⟨r, _, rfl⟩ := List.mem_map.1 hu; rfl) (by simp only [maxLen]; omega) (by omega) (Nat.le_of_lt (ji kg))
    rw [Nat.zero_add, List.nil_append] at h1
    rw [hr2] at hr
    cases hr
    exact ⟨h1, fun x hx => HN.wf x hx⟩
section
variable {ops : Array Oper} {rest : List Oper} {o : Oper} {T : List Value} {ds : List Deferred} {w : World} {Q : Exit → Act → World → Prop} {A : Act} {B g cap : Nat} {ao : Option Addr} {l : List Nat}
theorem UO (dst : Nat) (hd : o.dst = some dst) (hgd : o.guard = none) (s x : Operand) (ho : o.op = .call { callee := .builtin .append, args := #[s, x], argTypes := #[27, 27] }) (hs : (⟨T.toArray, ds⟩ : Act).eval s = .slice (some ⟨g, 0, none⟩) 0 0) (kg : w.heap[g]? = some (.cells #[] 5 (0, 0))) (hx : (⟨T.toArray, ds⟩ : Act).eval x = .slice ao l.length cap) (HN : NC w .u8 ao cap l) (hl : l.length ≤ 140737488355328)
    (h : ∀ ao2 cap2 w', OB w' 5 .u8 g ao2 cap2 l → Gro w w' → wpList Tryz.prog ops Q rest ⟨(T.set dst (.slice ao2 l.length cap2)).toArray, ds⟩ w') : wpList Tryz.prog ops Q (o :: rest) ⟨T.toArray, ds⟩ w := by
  obtain ⟨ao2, cap2, w', hr, h1, h2⟩ := Ub w o.type g kg ao cap l HN hl
  refine wpList_plain hgd fun K hK => ?_
  unfold Oper.wp
  rw [Yf s x ho hs hx hr, Oper.upon_value, hd, jX]
  exact hK _ _ (h ao2 cap2 w' h2 h1)
def bs0E (B : Nat) : PostE := PostE.ex (fun v x => ∃ g, v = .slice (some ⟨g, 0, none⟩) 0 0 ∧ x.heap[g]? = some (.cells #[] 5 (0, 0)) ∧ B ≤ g) (fun _ _ _ G ⟨g, h1, h2, h3⟩ => ⟨g, h1, G.has h2, h3⟩)
theorem jax (B : Nat) (v : Value) : (bs0E B).fill v = v := rfl
theorem opE_bs0 (hw : Region.wanted o (yielded ops A.tmps) = true) (ho : o.op = .buildSlice 27 0 #[]) (hB : B ≤ w.heap.size) : OpE Tryz.prog ops (bs0E B) o A w :=
  uA (bs0E B) hw (YZ 27 0 [] ho [] rfl (v := .slice (some ⟨w.heap.size, 0, none⟩) 0 0) (w' := w.alloc (.cells #[] 5)) (by kernel_rfl)) (zl _ _) ⟨_, rfl, heap_alloc_new _ _, hB⟩
theorem jdm (hw : Region.wanted o (yielded ops A.tmps) = true) (s x : Operand) (ho : o.op = .call { callee := .builtin .append, args := #[s, x], argTypes := #[27, 27] }) (hs : A.eval s = .slice (some ⟨g, 0, none⟩) 0 0) (kg : w.heap[g]? = some (.cells #[] 5 (0, 0))) (hx : A.eval x = .slice ao l.length cap) (HN : NC w .u8 ao cap l) (hl : l.length ≤ 140737488355328) (hB : B ≤ g) : OpE Tryz.prog ops (bytE B l) o A w := by
  obtain ⟨ao2, cap2, w', hr, h1, h2⟩ := Ub w o.type g kg ao cap l HN hl
  exact uA (bytE B l) hw (Yf s x ho hs hx hr) h1 ⟨_, _, rfl, h2.mono hB⟩
end
theorem VD.lt3 {C : Nat} {w : World} {vq mp rp B : Nat} {ro : Option Addr} {rc n : Nat} {L : List Nat} {pw dn : Int} {h : Hd} {dw : Bool} {inc : Int} {ao : Option Addr} {cap : Nat} {R : List IM} (H : VD C w vq mp rp B ro rc n L pw dn h dw inc ao cap R) : ∀ k ∈ rp :: mp :: blk ro, k < w.heap.size := H.dsk.lt3 H.log
theorem yW (w : World) (vq : Nat) (mp : Option Nat) (ao : Option Addr) (cap : Nat) (R : List IM) (inc : Int) (kvq : w.heap[vq]? = some (.cells (rvA mp ao R.length cap inc) 62 (0, 0))) (HR : RK kM w ao cap R) (hRl : R.length ≤ 4096) (k : Nat) (hk : k < top) : Calls Tryz.prog 17 #[vP vq 0, .agg (idA k)] w (fun e w' => e = .returned (.tuple #[.agg (itA ((fkI R k).getD zM)), .bool (fkI R k).isSome]) ∧ Gro w w') := by
  refine eN func17 rfl ntmps17 [vP vq 0, eA k] ?_
  have GG := Gro.refl w
  refine qS ?_
  refine jW 3 rfl rfl 38 _ rfl _ rfl (idA k) rfl ?_
  intro w1 g1 G eg1 kg1
  have bg1 := jh GG eg1
  replace kvq := G.has kvq
  replace GG := GG.trans G
  clear G
  clear eg1
  refine nq ?_
  refine jH 4 rfl rfl 42 rfl _ zeroIt (itA zM) rfl ?_
  intro w2 g2 G eg2 kg2
  have bg2 := jh GG eg2
  have dvqg2 := jn kvq eg2
  have dg1g2 := jn kg1 eg2
  replace kvq := G.has kvq
  replace kg1 := G.has kg1
  replace GG := GG.trans G
  clear G
  clear eg2
  refine nq ?_
  refine mv (vF) rfl (nq ?_)
  refine qL (qE (qE (qG (mv (iK 0) rfl (nq ?_)))))
  refine qL (qB ?_)
  refine jO (fun mz az wv => ∃ (i : Nat) (us1 : Nat → Value), mz = R.length - i ∧ az = ⟨[vP vq 0, eA k, uD, vP g1 0, vP g2 0, us1 5, nK i, us1 7, us1 8, us1 9, us1 10, us1 11, us1 12, us1 13, us1 14, us1 15, us1 16, us1 17, us1 18, us1 19, us1 20, us1 21, us1 22, us1 23, us1 24, us1 25, us1 26, us1 27, us1 28, us1 29, us1 30, us1 31, us1 32, uD].toArray, []⟩ ∧ Gro w wv ∧ wv.heap[vq]? = some (.cells (rvA mp ao R.length cap inc) 62 (0, 0)) ∧ wv.heap[g1]? = some (.cells (idA k) 38 (0, 0)) ∧ wv.heap[g2]? = some (.cells (itA zM) 42 (0, 0)) ∧ i ≤ R.length ∧ (∀ y ∈ R.take i, y.key ≠ k)) ?_ _ ⟨0, usK ⟨GG, kvq, kg1, kg2, Nat.zero_le _, fun _ h => by (cases h)⟩⟩
  clear GG kvq kg1 kg2
  rintro mz az wv ⟨i, us1, rfl, rfl, GG, kvq, kg1, kg2, hi, hno⟩
  refine qE (qE ?_)
  cases h1 : decide (((i : Nat) : Int) < ((R.length : Nat) : Int))
  have hiR : R.length ≤ i := by have := of_decide_eq_false h1; omega
  refine qG (mv (nK i) rfl (mv (vP vq 0) rfl (sv (vP vq 0) (jl _ rfl _ rfl) rfl (sv (vP vq 1) (je 62 _ 1 rfl vq 0 rfl 1 (by kernel_rfl)) rfl (sv (.slice ao R.length cap) (ldRvr _ rfl vq rfl (kvq)) rfl (sv (nK R.length) (js underlying58 _ rfl _ _ _ rfl _) rfl ?_))))))
  refine nq ?_
  refine sv (vF) (jv 3 _ _ _ rfl ((i : Nat) : Int) ((R.length : Nat) : Int) rfl rfl false h1 _) rfl (nq ?_)
  refine qL (qF rfl (wp_exit (jG (jG (zp (jC (qE (qG (sv (iA zM) (jK 42 _ rfl [] rfl _ (bdI0 _)) rfl (nq ?_))))))))))
  refine stI zM rfl rfl rfl kg2 rfl ?_
  intro w3 St
  replace kvq := St.has (by omega) kvq
  replace kg1 := St.has (by omega) kg1
  replace GG := GG.store St bg2
  replace kg2 := St.new
  clear St
  refine mv (vF) rfl (nq ?_)
  refine qL (qR ?_)
  refine bodyPost_ret (jJ results17 _ _ g2 42 _ (0, 0) _ rfl (vF) rfl kg2 underlying42 rfl (siIt' _)) rfl ?_
  rw [fkI_no hiR hno]
  exact ⟨rfl, GG⟩
  have hlt : i < R.length := by have := of_decide_eq_true h1; omega
  refine qG (mv (nK i) rfl (mv (vP vq 0) rfl (sv (vP vq 0) (jl _ rfl _ rfl) rfl (sv (vP vq 1) (je 62 _ 1 rfl vq 0 rfl 1 (by kernel_rfl)) rfl (sv (.slice ao R.length cap) (ldRvr _ rfl vq rfl (kvq)) rfl (sv (nK R.length) (js underlying58 _ rfl _ _ _ rfl _) rfl ?_))))))
  refine nq ?_
  refine sv (vT) (jv 3 _ _ _ rfl ((i : Nat) : Int) ((R.length : Nat) : Int) rfl rfl true h1 _) rfl (nq ?_)
  refine qL (qT rfl (qK (qE (qB (qE ?_)))))
  cases h2 : decide ((R.getD i zM).key = k)
  have hk2 := of_decide_eq_false h2
  refine exQ 9 [(0, 16), (1, 17), (2, 18), (3, 19), (4, 20), (5, 21), (6, 22), (7, 23), (8, 24)] [.val (vP vq 0), .val (vP vq 0), .val (vP vq 1), .val (.slice ao R.length cap), .val (nK i), .val (.pointer (pK kM ao i 0)), .val (.pointer (pK kM ao i 0)), .val (eA (R.getD i zM).key), .val (eA k)] follows (by kernel_rfl) rfl (ja ?_ (ja ?_ (ja ?_ (ja ?_ (ja ?_ (ja ?_ (ja ?_ (ja ?_ (ja ?_ jD))))))))) ?_
  exact fun _ _ _ _ => jf _ rfl rfl rfl
  exact fun _ _ _ _ => jb rfl (jl _ rfl _ rfl)
  exact fun _ _ _ _ => jb rfl (je 62 _ 1 rfl vq 0 rfl 1 (by kernel_rfl))
  exact fun _ _ hw _ => jb rfl (ldRvr _ rfl vq rfl (hw.has kvq))
  exact fun _ _ _ _ => jf _ rfl rfl rfl
  exact fun _ _ hw _ => jb rfl (za rM (((HR.gro GG)).gro ((Gro.refl _).drew.trans hw)) _ _ rfl rfl i rfl (by omega))
  exact fun _ _ hw _ => jb rfl (zk (((HR.gro GG)).gro ((Gro.refl _).drew.trans hw)) 42 _ 0 0 (vm _) rfl i rfl (by omega))
  exact fun _ _ hw _ => jb rfl (zr (((HR.gro GG)).gro ((Gro.refl _).drew.trans hw)) _ rfl i rfl (by omega))
  exact fun _ _ hw _ => jb rfl (ldI0 _ rfl g1 rfl (hw.has kg1))
  intro ptrs w3 GD hxE
  simp only [List.drop_succ_cons, List.drop_zero]
  replace kvq := GD.has kvq
  replace kg1 := GD.has kg1
  replace kg2 := GD.has kg2
  replace GG := GG.drew.trans GD
  clear GD
  refine sv (vF) (Zu _ _ _ rfl _ _ rfl rfl (atM HR hlt).key hk false h2) rfl (nq ?_)
  refine qL (qF rfl (wp_skip (zb (jC (qG (mv (nK i) rfl (sv (nK (i + 1)) (jV 3 _ _ _ rfl ((i : Nat) : Int) 1 ((i + 1 : Nat) : Int) rfl rfl (by omega) (by omega) (by omega) _) rfl (mv (nK (i + 1)) rfl (nq ?_)))))))))
  refine qL ?_
  exact ⟨_, by omega, i + 1, usK ⟨GG, kvq, kg1, kg2, by omega, no_snoc hlt hno hk2⟩⟩
  have hk2 := of_decide_eq_true h2
  refine exQ 9 [(0, 16), (1, 17), (2, 18), (3, 19), (4, 20), (5, 21), (6, 22), (7, 23), (8, 24)] [.val (vP vq 0), .val (vP vq 0), .val (vP vq 1), .val (.slice ao R.length cap), .val (nK i), .val (.pointer (pK kM ao i 0)), .val (.pointer (pK kM ao i 0)), .val (eA (R.getD i zM).key), .val (eA k)] follows (by kernel_rfl) rfl (ja ?_ (ja ?_ (ja ?_ (ja ?_ (ja ?_ (ja ?_ (ja ?_ (ja ?_ (ja ?_ jD))))))))) ?_
  exact fun _ _ _ _ => jf _ rfl rfl rfl
  exact fun _ _ _ _ => jb rfl (jl _ rfl _ rfl)
  exact fun _ _ _ _ => jb rfl (je 62 _ 1 rfl vq 0 rfl 1 (by kernel_rfl))
  exact fun _ _ hw _ => jb rfl (ldRvr _ rfl vq rfl (hw.has kvq))
  exact fun _ _ _ _ => jf _ rfl rfl rfl
  exact fun _ _ hw _ => jb rfl (za rM (((HR.gro GG)).gro ((Gro.refl _).drew.trans hw)) _ _ rfl rfl i rfl (by omega))
  exact fun _ _ hw _ => jb rfl (zk (((HR.gro GG)).gro ((Gro.refl _).drew.trans hw)) 42 _ 0 0 (vm _) rfl i rfl (by omega))
  exact fun _ _ hw _ => jb rfl (zr (((HR.gro GG)).gro ((Gro.refl _).drew.trans hw)) _ rfl i rfl (by omega))
  exact fun _ _ hw _ => jb rfl (ldI0 _ rfl g1 rfl (hw.has kg1))
  intro ptrs w3 GD hxE
  simp only [List.drop_succ_cons, List.drop_zero]
  replace kvq := GD.has kvq
  replace kg1 := GD.has kg1
  replace kg2 := GD.has kg2
  replace GG := GG.drew.trans GD
  clear GD
  refine sv (vT) (Zu _ _ _ rfl _ _ rfl rfl (atM HR hlt).key hk true h2) rfl (nq ?_)
  refine qL (qT rfl (qE (qG (mv (vP vq 0) rfl (sv (vP vq 0) (jl _ rfl _ rfl) rfl (sv (vP vq 1) (je 62 _ 1 rfl vq 0 rfl 1 (by kernel_rfl)) rfl (sv (.slice ao R.length cap) (ldRvr _ rfl vq rfl (kvq)) rfl (mv (nK i) rfl (sv (.pointer (pK kM ao i 0)) (za rM ((HR.gro GG)) _ _ rfl rfl i rfl (by omega)) rfl ?_)))))))))
  refine nq ?_
  refine sv (iA (R.getD i zM)) (ZL ((HR.gro GG)) _ rfl i rfl (by omega)) rfl (nq ?_)
  refine stI (R.getD i zM) rfl rfl rfl kg2 rfl ?_
  intro w4 St
  replace kvq := St.has (by omega) kvq
  replace kg1 := St.has (by omega) kg1
  replace GG := GG.store St bg2
  replace kg2 := St.new
  clear St
  refine mv (vT) rfl (nq ?_)
  refine qL (qR (ze (jm (jm (ze (jm ?_))))))
  refine bodyPost_ret (jJ results17 _ _ g2 42 _ (0, 0) _ rfl (vT) rfl kg2 underlying42 rfl (siIt' _)) rfl ?_
  rw [fkI_at hlt hno hk2]
  exact ⟨rfl, GG⟩
theorem Qt (w : World) (x : IM) (HX : NC w .u8 x.ao x.cap x.val) (hl : x.val.length ≤ 140737488355328) : Calls Tryz.prog 10 #[.agg (itA x)] w (fun e w' => ∃ ao cap, e = .returned (.agg (itA (x.re ao cap))) ∧ Gro w w' ∧ OB w' 5 .u8 w.heap.size ao cap x.val) := by
  refine eN func10 rfl ntmps10 [iA x] ?_
  have GG := Gro.refl w
  refine qS ?_
  refine jW 1 rfl rfl 42 _ rfl _ rfl (itA x) rfl ?_
  intro w1 g1 G eg1 kg1
  have bg1 := jh GG eg1
  have dHXg1 := HX.ne eg1
  replace HX := HX.gro G
  replace GG := GG.trans G
  clear G
  clear eg1
  refine nq ?_
  refine jH 2 rfl rfl 42 rfl _ zeroIt (itA zM) rfl ?_
  intro w2 g2 G eg2 kg2
  have bg2 := jh GG eg2
  have dg1g2 := jn kg1 eg2
  have dHXg2 := HX.ne eg2
  replace kg1 := G.has kg1
  replace HX := HX.gro G
  replace GG := GG.trans G
  clear G
  clear eg2
  refine nq ?_
  refine qA ?_
  refine ye 3 rfl rfl 27 0 _ rfl [] rfl #[] 5 (by kernel_rfl) ?_
  intro w3 gb G egb kgb
  have bgb := jh GG egb
  have dg1gb := jn kg1 egb
  have dg2gb := jn kg2 egb
  replace kg1 := G.has kg1
  replace kg2 := G.has kg2
  replace HX := HX.gro G
  replace GG := GG.trans G
  clear G
  clear egb
  refine nq ?_
  refine sv (vP g1 33) (je 42 _ 2 rfl g1 0 rfl 33 (by kernel_rfl)) rfl (sv (.slice x.ao x.val.length x.cap) (ldItr _ rfl g1 rfl (kg1)) rfl (nq ?_))
  refine UO 6 rfl rfl _ _ rfl rfl kgb rfl (HX) (by omega) ?_
  intro ao1 cap1 w4 HO1 G
  have dHO1g1 := HO1.neB dg1gb
  have dHO1g2 := HO1.neB dg2gb
  replace kg1 := G.has kg1
  replace kg2 := G.has kg2
  replace kgb := G.has kgb
  replace HX := HX.gro G
  replace GG := GG.trans G
  clear G
  replace HO1 := HO1.mono bgb
  clear kgb
  refine nq ?_
  refine sv (vP g1 33) (je 42 _ 2 rfl g1 0 rfl 33 (by kernel_rfl)) rfl (nq ?_)
  refine jE rfl rfl 27 _ _ rfl g1 33 rfl (.slice ao1 x.val.length cap1) rfl 42 _ kg1 #[.slice ao1 x.val.length cap1] rfl siBy (by rw [zB]; exact Nat.le_of_ble_eq_true rfl) (ZH _ _ _) (itA (x.re ao1 cap1)) (Zp _ _ _) ?_
  intro w5 St
  replace kg2 := St.has (by omega) kg2
  replace HX := HX.st St dHXg1
  replace HO1 := HO1.st St dHO1g1
  replace GG := GG.store St bg1
  replace kg1 := St.new
  clear St
  refine qL (qE (qG (sv (iA (x.re ao1 cap1)) (ldIt0 _ rfl g1 rfl (kg1)) rfl (nq ?_))))
  refine stI (x.re ao1 cap1) rfl rfl rfl kg2 rfl ?_
  intro w6 St
  replace kg1 := St.has (by omega) kg1
  replace HX := HX.st St dHXg2
  replace HO1 := HO1.st St dHO1g2
  replace GG := GG.store St bg2
  replace kg2 := St.new
  clear St
  refine qL (qR ?_)
  refine bodyPost_ret (results_cell_row results10 _ _ g2 42 _ (0, 0) _ rfl kg2 underlying42 rfl (siIt' _)) rfl ?_
  exact ⟨_, _, rfl, GG, HO1⟩
end Go.Proofs.YtgfnjekpafempaaGreat
