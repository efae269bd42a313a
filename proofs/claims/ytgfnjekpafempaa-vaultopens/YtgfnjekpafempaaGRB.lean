/- The document's side: an item taken. -/
import Derived.Test.YtgfnjekpafempaaGRA
import Derived.Test.YtgfnjekpafempaaGV15
import Derived.Test.YtgfnjekpafempaaGAb
namespace Go.Proofs.Ytgfnjekpafempaa
open Go.RowKit
/-! ### What the document's take does -/
structure TkI (R : List IM) (x : IM) (i : Nat) (Lo Hi : List IM) : Prop where
  lo : Lo = (R.take i).filter (fun y => decide (y.key < x.key))
  hi : Hi = (R.take i).filter (fun y => decide (x.key < y.key))
  nw : ∀ y ∈ R.take i, y.key = x.key → nwV x.ver y.ver = true
section
variable {R : List IM} {x : IM} {i : Nat} {Lo Hi : List IM}
theorem TkI.zero : TkI R x 0 [] [] := ⟨rfl, rfl, fun _ h => by (cases h)⟩
theorem TkI.len (h : TkI R x i Lo Hi) : Lo.length ≤ R.length ∧ Hi.length ≤ R.length := by
  have h1 : (R.take i).length ≤ R.length := by rw [List.length_take]; omega
  constructor
  · rw [h.lo]; exact Nat.le_trans (List.length_filter_le _ _) h1
  · rw [h.hi]; exact Nat.le_trans (List.length_filter_le _ _) h1
theorem TkI.ok (h : TkI R x i Lo Hi) (hR : ∀ y ∈ R, y.ok) : (∀ y ∈ Lo, y.ok) ∧ (∀ y ∈ Hi, y.ok) := by
  constructor
  · intro y hy
    rw [h.lo] at hy
    exact hR y (List.mem_of_mem_take (List.mem_filter.1 hy).1)
  · intro y hy
    rw [h.hi] at hy
    exact hR y (List.mem_of_mem_take (List.mem_filter.1 hy).1)
theorem vv (hi : i < R.length) : R.take (i + 1) = R.take i ++ [R.getD i zM] := by
  rw [List.take_add_one, List.getElem?_eq_getElem hi, List.getD_eq_getElem?_getD, List.getElem?_eq_getElem hi]
  rfl
theorem TkI.low (h : TkI R x i Lo Hi) (hi : i < R.length) (hk : (R.getD i zM).key < x.key) : TkI R x (i + 1) (Lo ++ [R.getD i zM]) Hi := by
  refine ⟨?_, ?_, ?_⟩
  · rw [vv hi, List.filter_append, ← h.lo, List.filter_cons, if_pos (decide_eq_true hk)]
    rfl
  · rw [vv hi, List.filter_append, ← h.hi, List.filter_cons, if_neg (by rw [decide_eq_true_eq]; omega)]
    simp
  · rw [vv hi]
    intro y hy e
    rcases List.mem_append.1 hy with hy | hy
    · exact h.nw y hy e
    · rw [List.mem_singleton.1 hy] at e
      omega
theorem TkI.high (h : TkI R x i Lo Hi) (hi : i < R.length) (hk : x.key < (R.getD i zM).key) : TkI R x (i + 1) Lo (Hi ++ [R.getD i zM]) := by
  refine ⟨?_, ?_, ?_⟩
  · rw [vv hi, List.filter_append, ← h.lo, List.filter_cons, if_neg (by rw [decide_eq_true_eq]; omega)]
    simp
  · rw [vv hi, List.filter_append, ← h.hi, List.filter_cons, if_pos (decide_eq_true hk)]
    rfl
  · rw [vv hi]
    intro y hy e
    rcases List.mem_append.1 hy with hy | hy
    · exact h.nw y hy e
    · rw [List.mem_singleton.1 hy] at e
      omega
theorem TkI.same (h : TkI R x i Lo Hi) (hi : i < R.length) (hk : (R.getD i zM).key = x.key) (hn : nwV x.ver (R.getD i zM).ver = true) : TkI R x (i + 1) Lo Hi := by
  refine ⟨?_, ?_, ?_⟩
  · rw [vv hi, List.filter_append, ← h.lo, List.filter_cons, if_neg (by rw [decide_eq_true_eq]; omega)]
    simp
  · rw [vv hi, List.filter_append, ← h.hi, List.filter_cons, if_neg (by rw [decide_eq_true_eq]; omega)]
    simp
  · rw [vv hi]
    intro y hy e
    rcases List.mem_append.1 hy with hy | hy
    · exact h.nw y hy e
    · rw [List.mem_singleton.1 hy]
      exact hn
theorem uw (p : Nat → Bool) (l : List IM) : (l.filter (fun y => p y.key)).map IM.it = (l.map IM.it).filter (fun z => p z.key) := by
  rw [List.filter_map]
  rfl
theorem TkI.yes (h : TkI R x R.length Lo Hi) (hR : ∀ y ∈ R, 0 ≤ y.n) (hx : 0 ≤ x.n) : ((Lo ++ [x]) ++ Hi).map IM.it = tkV (R.map IM.it) x.it := by
  have e1 : ((Lo ++ [x]) ++ Hi).map IM.it = (R.map IM.it).filter (fun z => decide (z.key < x.it.key)) ++ x.it :: (R.map IM.it).filter (fun z => decide (x.it.key < z.key)) := by
    rw [h.lo, h.hi, List.take_length, List.map_append, List.map_append, uw (fun k => decide (k < x.key)), uw (fun k => decide (x.key < k)), List.append_assoc]
    rfl
  rw [e1]
  unfold tkV
  cases q : lkV (R.map IM.it) x.it.key with
  | none => rfl
  | some y =>
    obtain ⟨hm, hk⟩ := yO q
    obtain ⟨z, hz, rfl⟩ := List.mem_map.1 hm
    have hw := h.nw z (by rw [List.take_length]; exact hz) hk
    rw [JT hx (hR z hz)] at hw
    simp only
    rw [if_pos hw]
theorem tk_no (hS : SKv (R.map IM.it)) (hi : i < R.length) (hR : ∀ y ∈ R, 0 ≤ y.n) (hx : 0 ≤ x.n) (hk : (R.getD i zM).key = x.key) (hn : nwV x.ver (R.getD i zM).ver = false) : R.map IM.it = tkV (R.map IM.it) x.it := by
  have hm := QX hi
  have h1 := vA hS (List.mem_map.2 ⟨_, hm, rfl⟩)
  rw [show (R.getD i zM).it.key = x.it.key from hk] at h1
  rw [JT hx (hR _ hm)] at hn
  exact (YD x.it h1 hn).symm
theorem TkI.mem (h : TkI R x i Lo Hi) : ∀ y ∈ (Lo ++ [x]) ++ Hi, y ∈ R ∨ y = x := fun y hy => by
  rcases List.mem_append.1 hy with hy | hy
  · rcases List.mem_append.1 hy with hy | hy
    · rw [h.lo] at hy
      exact .inl (List.mem_of_mem_take (List.mem_filter.1 hy).1)
    · exact .inr (List.mem_singleton.1 hy)
  · rw [h.hi] at hy
    exact .inl (List.mem_of_mem_take (List.mem_filter.1 hy).1)
end
def TkP (w : World) (B vp : Nat) (mp : Option Nat) (inc : Int) (R : List IM) (x : IM) (e : Ending) (w' : World) : Prop :=
  ∃ b ao cap R2, e = .returned (.bool b) ∧ GroS [vp] w w' ∧ w'.heap[vp]? = some (.cells (rvA mp ao (List.length R2) cap inc) 48 (0, 0)) ∧ OW kM 56 w' B ao cap R2 ∧ R2.map IM.it = tkV (R.map IM.it) x.it ∧ ∀ y ∈ R2, y ∈ R ∨ y = x
set_option maxRecDepth 100000 in
set_option maxHeartbeats 4000000 in
theorem Qv (w : World) (B vp : Nat) (mp : Option Nat) (ao : Option Addr) (cap : Nat) (R : List IM) (inc : Int) (kvp : w.heap[vp]? = some (.cells (rvA mp ao R.length cap inc) 48 (0, 0))) (HO : OW kM 56 w B ao cap R) (hB : B ≤ w.heap.size) (hRl : R.length ≤ 4096) (hS : SKv (R.map IM.it)) (hRn : ∀ y ∈ R, 0 ≤ y.n) (x : IM) (hx : x.ok) (hxn : 0 ≤ x.n) : Calls Try.prog 69 #[vP vp 0, .agg (itA x)] w (TkP w B vp mp inc R x) := by
  refine js Try.func69 rfl Try.ntmps69 [vP vp 0, .agg (itA x)] [vP vp 0, .agg (itA x), uD, uD, uD, uD, uD, uD, uD, uD, uD, uD, uD, uD, uD, uD, uD, uD, uD, uD, uD, uD, uD, uD, uD, uD, uD, uD, uD, uD, uD, uD, uD, uD, uD, uD, uD, uD, uD, uD, uD, uD, uD, uD, uD, uD, uD, uD, uD, uD, uD, uD, uD, uD, uD, uD, uD, uD, uD, uD, uD, uD, uD, uD, uD, uD, uD, uD, uD, uD, uD, uD, uD, uD, uD, uD, uD, uD, uD, uD, uD] rfl ?_
  have GG := Gro.refl w
  have HO0 := HO
  refine qS ?_
  refine zw 3 rfl rfl 56 _ rfl _ rfl (itA x) rfl ?_
  intro w1 g1 G eg1 kg1
  have bg1 := jk GG eg1
  replace kvp := G.has kvp
  replace GG := GG.trans G
  clear G
  clear eg1
  refine nr ?_; intro U h; simp only [z0, z1] at h; subst h
  refine ja 4 rfl rfl (vF) (rfl) ?_
  refine nr ?_; intro U h; simp only [z0, z1] at h; subst h
  refine qL (qE ?_)
  have hs1 := GG.size
  have hvp := ji kvp
  have hg1 := ji kg1
  have GA := Gro.refl w1
  refine qG ?_
  refine ja 5 rfl rfl (.slice none 0 0) (rfl) ?_
  refine ja 6 rfl rfl (.slice none 0 0) (rfl) ?_
  refine nr ?_; intro U h; simp only [z0, z1] at h; subst h
  refine qL (qE (qS ?_))
  refine ja 7 rfl rfl (iK 0) (rfl) ?_
  refine nr ?_; intro U h; simp only [z0, z1] at h; subst h
  refine qL (qB ?_)
  refine jV (fun mz az wv => ∃ (i : Nat) (Lo : List IM) (lo : Option Addr) (lc : Nat) (Hi : List IM) (ho : Option Addr) (hc : Nat) (us1 : Nat → Value), mz = R.length - i ∧ az = ⟨[vP vp 0, .agg (itA x), uD, vP g1 0, us1 0, .slice lo Lo.length lc, .slice ho Hi.length hc, nK i, us1 1, us1 2, us1 3, us1 4, us1 5, us1 6, us1 7, us1 8, us1 9, us1 10, us1 11, us1 12, us1 13, us1 14, us1 15, us1 16, us1 17, us1 18, us1 19, us1 20, us1 21, us1 22, us1 23, us1 24, us1 25, us1 26, us1 27, us1 28, us1 29, us1 30, us1 31, us1 32, us1 33, us1 34, us1 35, us1 36, us1 37, us1 38, us1 39, us1 40, us1 41, us1 42, us1 43, us1 44, us1 45, us1 46, us1 47, us1 48, us1 49, us1 50, us1 51, us1 52, us1 53, us1 54, us1 55, us1 56, us1 57, us1 58, us1 59, us1 60, us1 61, us1 62, us1 63, uD, uD, uD, uD, uD, uD, uD, uD, uD, uD].toArray, []⟩ ∧ Gro w wv ∧ Gro w1 wv ∧ wv.heap[vp]? = some (.cells (rvA mp ao R.length cap inc) 48 (0, 0)) ∧ wv.heap[g1]? = some (.cells (itA x) 56 (0, 0)) ∧ OW kM 56 wv w1.heap.size lo lc Lo ∧ OW kM 56 wv w1.heap.size ho hc Hi ∧ (∀ j ∈ blk lo, j ∉ blk ho) ∧ i ≤ R.length ∧ TkI R x i Lo Hi) ?_ _ ⟨0, [], none, 0, [], none, 0, (fun kz => ([vF, uD, uD, uD, uD, uD, uD, uD, uD, uD, uD, uD, uD, uD, uD, uD, uD, uD, uD, uD, uD, uD, uD, uD, uD, uD, uD, uD, uD, uD, uD, uD, uD, uD, uD, uD, uD, uD, uD, uD, uD, uD, uD, uD, uD, uD, uD, uD, uD, uD, uD, uD, uD, uD, uD, uD, uD, uD, uD, uD, uD, uD, uD, uD] : List Value).getD kz uD), rfl, rfl, GG, GA, kvp, kg1, OW.nil _ _, OW.nil _ _, fun _ h => by (cases h), Nat.zero_le _, TkI.zero⟩
  clear GG kvp kg1 GA
  rintro mz az wv ⟨i, Lo, lo, lc, Hi, ho, hc, us1, rfl, rfl, GG, GA, kvp, kg1, HLo, HHi, hap, hi, hT⟩
  have hlen := hT.len
  refine qE (qE ?_)
  cases h1 : decide (((i : Nat) : Int) < ((R.length : Nat) : Int))
  have hiR : i = R.length := by have := of_decide_eq_false h1; omega
  rw [hiR] at hT
  refine qG ?_
  refine ja 8 rfl rfl (nK i) (rfl) ?_
  refine ja 9 rfl rfl (vP vp 0) (rfl) ?_
  refine ja 10 rfl rfl (vP vp 0) (jn _ rfl _ rfl) ?_
  refine ja 11 rfl rfl (vP vp 1) (jf 48 _ 1 rfl vp 0 rfl 1 (by kernel_rfl)) ?_
  refine ja 12 rfl rfl (.slice ao R.length cap) (ldRvr _ rfl vp rfl (kvp)) ?_
  refine ja 13 rfl rfl (nK R.length) (jA Try.underlying45 _ rfl _ _ _ rfl _) ?_
  refine nr ?_; intro U h; simp only [z0, z1] at h; subst h
  refine ja 14 rfl rfl (vF) (jE 3 _ _ _ rfl ((i : Nat) : Int) ((R.length : Nat) : Int) rfl rfl false h1 _) ?_
  refine nr ?_; intro U h; simp only [z0, z1] at h; subst h
  refine qL (qF rfl (wp_exit (jL (jL (zC (jG (qS ?_)))))))
  refine ja 71 rfl rfl (.slice lo Lo.length lc) (rfl) ?_
  refine ja 72 rfl rfl (.agg (itA x)) (ldIt0 _ rfl g1 rfl (kg1)) ?_
  refine nr ?_; intro U h; simp only [z0, z1] at h; subst h
  refine yM 73 rfl rfl 45 1 _ rfl [(0, .agg (itA x))] rfl ([x].flatMap kM.E).toArray 56 (bsM _ _) ?_
  intro w2 q73 G eq2 kq2
  replace kvp := G.has kvp
  replace kg1 := G.has kg1
  replace GA := GA.gro G
  replace HLo := HLo.gro G
  replace HHi := HHi.gro G
  replace GG := GG.trans G
  clear G
  have HQ : RK kM w2 (some ⟨q73, 0, none⟩) 1 [x] := RK.blk kq2 (JR hx) (Nat.le_refl _)
  clear eq2 kq2
  refine nr ?_; intro U h; simp only [z0, z1] at h; subst h
  refine Zf rM (by decide) 74 rfl rfl _ _ rfl rfl HLo (l' := [x]) rfl HQ (by simp only [List.length_singleton]; omega) GA.size ?_
  intro ar74 cr74 w3 HT2 G hKp
  have hge : ∀ k ∈ blk lo, w1.heap.size ≤ k := fun k hk => (HLo.blkt hk).choose_spec.2
  replace kvp := G.has kvp (fun hk => by have := hge _ hk; omega)
  replace kg1 := G.has kg1 (fun hk => by have := hge _ hk; omega)
  have hapO := uu hap
  replace hap := uu (uI HHi hapO hKp)
  replace HHi := HHi.gros G hapO
  clear hapO
  replace GG := G.gro GG (fun k hk => by have := hge k hk; omega)
  replace GA := G.gro GA hge
  clear HLo G HQ hKp hge
  have HLo := HT2
  clear HT2
  refine nr ?_; intro U h; simp only [z0, z1] at h; subst h
  refine ja 5 rfl rfl (.slice ar74 (Lo ++ [x]).length cr74) (rfl) ?_
  refine nr ?_; intro U h; simp only [z0, z1] at h; subst h
  refine qA ?_
  refine ja 75 rfl rfl (vP vp 0) (rfl) ?_
  refine ja 76 rfl rfl (.slice ar74 (Lo ++ [x]).length cr74) (rfl) ?_
  refine ja 77 rfl rfl (.slice ho Hi.length hc) (rfl) ?_
  refine nr ?_; intro U h; simp only [z0, z1] at h; subst h
  refine Zf rM (by decide) 78 rfl rfl _ _ rfl rfl HLo (l' := Hi) rfl HHi.re (by simp only [List.length_append, List.length_singleton]; omega) GA.size ?_
  intro ar78 cr78 w4 HT2 G hKp
  have hge : ∀ k ∈ blk ar74, w1.heap.size ≤ k := fun k hk => (HLo.blkt hk).choose_spec.2
  replace kvp := G.has kvp (fun hk => by have := hge _ hk; omega)
  replace kg1 := G.has kg1 (fun hk => by have := hge _ hk; omega)
  replace GG := G.gro GG (fun k hk => by have := hge k hk; omega)
  replace GA := G.gro GA hge
  clear HLo G hKp hge
  have HLo := HT2
  clear HT2
  refine nr ?_; intro U h; simp only [z0, z1] at h; subst h
  refine ja 79 rfl rfl (vP vp 0) (jn _ rfl _ rfl) ?_
  refine ja 80 rfl rfl (vP vp 1) (jf 48 _ 1 rfl vp 0 rfl 1 (by kernel_rfl)) ?_
  refine nr ?_; intro U h; simp only [z0, z1] at h; subst h
  refine jt rfl rfl 45 _ _ rfl vp 1 rfl (.slice ar78 ((Lo ++ [x]) ++ Hi).length cr78) rfl 48 _ kvp #[.slice ar78 ((Lo ++ [x]) ++ Hi).length cr78] rfl siIts (by rw [YG]; exact Nat.le_of_ble_eq_true rfl) (Ks _ _ _) (rvA mp ar78 ((Lo ++ [x]) ++ Hi).length cr78 inc) (Kq _ _ _ _ _ _ _ _) ?_
  intro w5 St
  have GG2 : GroS [vp] w w5 := (GroS.of GG).st St (.inr (List.mem_singleton.2 rfl))
  have kvp2 := St.new
  have HL2 := (HLo.st St (fun hm => by have := (HLo.blkt hm).choose_spec.2; omega)).mono (Nat.le_trans hB hs1)
  clear St kvp kg1 GA HLo HHi GG
  have GG := GG2
  refine qA ?_
  refine ja 4 rfl rfl (vT) (rfl) ?_
  refine nr ?_; intro U h; simp only [z0, z1] at h; subst h
  refine qL (qR ?_)
  refine bodyPost_ret (results_tmp Try.results69 _ _ _) rfl ?_
  exact ⟨true, _, _, ((Lo ++ [x]) ++ Hi), rfl, GG, kvp2, HL2, hT.yes hRn hxn, hT.mem⟩
  have hlt : i < R.length := by have := of_decide_eq_true h1; omega
  refine qG ?_
  refine ja 8 rfl rfl (nK i) (rfl) ?_
  refine ja 9 rfl rfl (vP vp 0) (rfl) ?_
  refine ja 10 rfl rfl (vP vp 0) (jn _ rfl _ rfl) ?_
  refine ja 11 rfl rfl (vP vp 1) (jf 48 _ 1 rfl vp 0 rfl 1 (by kernel_rfl)) ?_
  refine ja 12 rfl rfl (.slice ao R.length cap) (ldRvr _ rfl vp rfl (kvp)) ?_
  refine ja 13 rfl rfl (nK R.length) (jA Try.underlying45 _ rfl _ _ _ rfl _) ?_
  refine nr ?_; intro U h; simp only [z0, z1] at h; subst h
  refine ja 14 rfl rfl (vT) (jE 3 _ _ _ rfl ((i : Nat) : Int) ((R.length : Nat) : Int) rfl rfl true h1 _) ?_
  refine nr ?_; intro U h; simp only [z0, z1] at h; subst h
  refine qL (qT rfl (qK (qE (qB (qE ?_)))))
  cases h2 : decide ((R.getD i zM).key = x.key)
  have hk2 := of_decide_eq_false h2
  refine jl (A := ?Ax1) 10 [(0, 17), (1, 18), (2, 19), (3, 20), (4, 21), (5, 22), (6, 23), (7, 24), (8, 25), (9, 26)] [.val (vP vp 0), .val (vP vp 0), .val (vP vp 1), .val (.slice ao R.length cap), .val (nK i), .val (.pointer (pK kM ao i 0)), .val (.pointer (pK kM ao i 0)), .val (.agg (idA (R.getD i zM).key)), .val (vP g1 0), .val (.agg (idA x.key))] follows (by kernel_rfl) rfl ?hAx1 (jb ?o0x1 (jb ?o1x1 (jb ?o2x1 (jb ?o3x1 (jb ?o4x1 (jb ?o5x1 (jb ?o6x1 (jb ?o7x1 (jb ?o8x1 (jb ?o9x1 jF)))))))))) ?restx1
  case hAx1 =>
    intro ptrs
    simp only [full, foldSlots, filledE, postE, List.foldl_cons, List.foldl_nil, List.getD_cons_zero, List.getD_cons_succ, jI, List.set_cons_zero, List.set_cons_succ]
    exact rfl
  case o0x1 => exact fun _ _ _ _ => jg (v := vP vp 0) _ rfl rfl rfl
  case o1x1 => exact fun _ _ _ _ => jd (v := vP vp 0) rfl (jn _ rfl _ rfl)
  case o2x1 => exact fun _ _ _ _ => jd (v := vP vp 1) rfl (jf 48 _ 1 rfl vp 0 rfl 1 (by kernel_rfl))
  case o3x1 => exact fun _ _ hw _ => jd (v := .slice ao R.length cap) rfl (ldRvr _ rfl vp rfl (hw.has kvp))
  case o4x1 => exact fun _ _ _ _ => jg (v := nK i) _ rfl rfl rfl
  case o5x1 => exact fun _ _ hw _ => jd (v := .pointer (pK kM ao i 0)) rfl (zf rM (((HO.re.gro GG)).gro ((Gro.refl _).drew.trans hw)) _ _ rfl rfl i rfl (by omega))
  case o6x1 => exact fun _ _ hw _ => jd (v := .pointer (pK kM ao i 0)) rfl (zn (((HO.re.gro GG)).gro ((Gro.refl _).drew.trans hw)) 56 _ 0 0 (vG _) rfl i rfl (by omega))
  case o7x1 => exact fun _ _ hw _ => jd (v := .agg (idA (R.getD i zM).key)) rfl (zA (((HO.re.gro GG)).gro ((Gro.refl _).drew.trans hw)) _ rfl i rfl (by omega))
  case o8x1 => exact fun _ _ _ _ => jd (v := vP g1 0) rfl (jf 56 _ 0 rfl g1 0 rfl 0 (by kernel_rfl))
  case o9x1 => exact fun _ _ hw _ => jd (v := .agg (idA x.key)) rfl (ldItk _ rfl g1 rfl (hw.has kg1))
  intro ptrs w2 GD hxE
  simp only [List.drop_succ_cons, List.drop_zero]
  replace kvp := GD.has kvp
  replace kg1 := GD.has kg1
  replace GA := GA.gro ((Gro.refl _).drew.trans GD)
  replace HLo := HLo.gro ((Gro.refl _).drew.trans GD)
  replace HHi := HHi.gro ((Gro.refl _).drew.trans GD)
  replace GG := GG.drew.trans GD
  clear GD
  refine ja 27 rfl rfl (vF) (Uy _ _ _ rfl _ _ rfl rfl (atM HO.re hlt).key hx.key false h2) ?_
  refine nr ?_; intro U h; simp only [z0, z1] at h; subst h
  refine qL (qF rfl (qE ?_))
  cases h4 : decide ((R.getD i zM).key < x.key)
  have hk4 : x.key < (R.getD i zM).key := by have := of_decide_eq_false h4; omega
  refine jl (A := ?Ax2) 10 [(0, 40), (1, 41), (2, 42), (3, 43), (4, 44), (5, 45), (6, 46), (7, 47), (8, 48), (9, 49)] [.val (vP vp 0), .val (vP vp 0), .val (vP vp 1), .val (.slice ao R.length cap), .val (nK i), .val (.pointer (pK kM ao i 0)), .val (.pointer (pK kM ao i 0)), .val (.agg (idA (R.getD i zM).key)), .val (vP g1 0), .val (.agg (idA x.key))] follows (by kernel_rfl) rfl ?hAx2 (jb ?o0x2 (jb ?o1x2 (jb ?o2x2 (jb ?o3x2 (jb ?o4x2 (jb ?o5x2 (jb ?o6x2 (jb ?o7x2 (jb ?o8x2 (jb ?o9x2 jF)))))))))) ?restx2
  case hAx2 =>
    intro ptrs
    simp only [full, foldSlots, filledE, postE, List.foldl_cons, List.foldl_nil, List.getD_cons_zero, List.getD_cons_succ, jI, List.set_cons_zero, List.set_cons_succ]
    exact rfl
  case o0x2 => exact fun _ _ _ _ => jg (v := vP vp 0) _ rfl rfl rfl
  case o1x2 => exact fun _ _ _ _ => jd (v := vP vp 0) rfl (jn _ rfl _ rfl)
  case o2x2 => exact fun _ _ _ _ => jd (v := vP vp 1) rfl (jf 48 _ 1 rfl vp 0 rfl 1 (by kernel_rfl))
  case o3x2 => exact fun _ _ hw _ => jd (v := .slice ao R.length cap) rfl (ldRvr _ rfl vp rfl (hw.has kvp))
  case o4x2 => exact fun _ _ _ _ => jg (v := nK i) _ rfl rfl rfl
  case o5x2 => exact fun _ _ hw _ => jd (v := .pointer (pK kM ao i 0)) rfl (zf rM (((HO.re.gro GG)).gro ((Gro.refl _).drew.trans hw)) _ _ rfl rfl i rfl (by omega))
  case o6x2 => exact fun _ _ hw _ => jd (v := .pointer (pK kM ao i 0)) rfl (zn (((HO.re.gro GG)).gro ((Gro.refl _).drew.trans hw)) 56 _ 0 0 (vG _) rfl i rfl (by omega))
  case o7x2 => exact fun _ _ hw _ => jd (v := .agg (idA (R.getD i zM).key)) rfl (zA (((HO.re.gro GG)).gro ((Gro.refl _).drew.trans hw)) _ rfl i rfl (by omega))
  case o8x2 => exact fun _ _ _ _ => jd (v := vP g1 0) rfl (jf 56 _ 0 rfl g1 0 rfl 0 (by kernel_rfl))
  case o9x2 => exact fun _ _ hw _ => jd (v := .agg (idA x.key)) rfl (ldItk _ rfl g1 rfl (hw.has kg1))
  intro ptrs w3 GD hxE
  simp only [List.drop_succ_cons, List.drop_zero]
  replace kvp := GD.has kvp
  replace kg1 := GD.has kg1
  replace GA := GA.gro ((Gro.refl _).drew.trans GD)
  replace HLo := HLo.gro ((Gro.refl _).drew.trans GD)
  replace HHi := HHi.gro ((Gro.refl _).drew.trans GD)
  replace GG := GG.drew.trans GD
  clear GD
  refine jy 50 rfl rfl _ 30 Try.call30 rfl rfl _ rfl [.agg (idA (R.getD i zM).key), .agg (idA x.key)] rfl (Calls.bool (Zs (R.getD i zM).key x.key (atM HO.re hlt).key hx.key _) h4) ?_
  intro w4 G
  replace kvp := G.has kvp
  replace kg1 := G.has kg1
  replace GA := GA.gro G
  replace HLo := HLo.gro G
  replace HHi := HHi.gro G
  replace GG := GG.trans G
  clear G
  refine nr ?_; intro U h; simp only [z0, z1] at h; subst h
  refine qL (qF rfl (qG ?_))
  refine ja 61 rfl rfl (.slice ho Hi.length hc) (rfl) ?_
  refine ja 62 rfl rfl (vP vp 0) (rfl) ?_
  refine ja 63 rfl rfl (vP vp 0) (jn _ rfl _ rfl) ?_
  refine ja 64 rfl rfl (vP vp 1) (jf 48 _ 1 rfl vp 0 rfl 1 (by kernel_rfl)) ?_
  refine ja 65 rfl rfl (.slice ao R.length cap) (ldRvr _ rfl vp rfl (kvp)) ?_
  refine ja 66 rfl rfl (nK i) (rfl) ?_
  refine nr ?_; intro U h; simp only [z0, z1] at h; subst h
  refine ja 67 rfl rfl (.pointer (pK kM ao i 0)) (zf rM ((HO.re.gro GG)) _ _ rfl rfl i rfl (by omega)) ?_
  refine ja 68 rfl rfl (.agg (itA (R.getD i zM))) (YO ((HO.re.gro GG)) _ rfl i rfl (by omega)) ?_
  refine nr ?_; intro U h; simp only [z0, z1] at h; subst h
  refine yM 69 rfl rfl 45 1 _ rfl [(0, .agg (itA (R.getD i zM)))] rfl ([(R.getD i zM)].flatMap kM.E).toArray 56 (bsM _ _) ?_
  intro w5 q69 G eq2 kq2
  replace kvp := G.has kvp
  replace kg1 := G.has kg1
  replace GA := GA.gro G
  replace HLo := HLo.gro G
  replace HHi := HHi.gro G
  replace GG := GG.trans G
  clear G
  have HQ : RK kM w5 (some ⟨q69, 0, none⟩) 1 [(R.getD i zM)] := RK.blk kq2 (JR (atM HO.re hlt)) (Nat.le_refl _)
  clear eq2 kq2
  refine nr ?_; intro U h; simp only [z0, z1] at h; subst h
  refine Zf rM (by decide) 70 rfl rfl _ _ rfl rfl HHi (l' := [(R.getD i zM)]) rfl HQ (by simp only [List.length_singleton]; omega) GA.size ?_
  intro ar70 cr70 w6 HT2 G hKp
  have hge : ∀ k ∈ blk ho, w1.heap.size ≤ k := fun k hk => (HHi.blkt hk).choose_spec.2
  replace kvp := G.has kvp (fun hk => by have := hge _ hk; omega)
  replace kg1 := G.has kg1 (fun hk => by have := hge _ hk; omega)
  have hapO := hap
  replace hap := uI HLo hapO hKp
  replace HLo := HLo.gros G hapO
  clear hapO
  replace GG := G.gro GG (fun k hk => by have := hge k hk; omega)
  replace GA := G.gro GA hge
  clear HHi G HQ hKp hge
  have HHi := HT2
  clear HT2
  refine nr ?_; intro U h; simp only [z0, z1] at h; subst h
  refine ja 6 rfl rfl (.slice ar70 (Hi ++ [(R.getD i zM)]).length cr70) (rfl) ?_
  refine nr ?_; intro U h; simp only [z0, z1] at h; subst h
  refine qN (zh (jG (qG ?_)))
  refine ja 15 rfl rfl (nK i) (rfl) ?_
  refine ja 16 rfl rfl (nK (i + 1)) (zm 3 _ _ _ rfl ((i : Nat) : Int) 1 ((i + 1 : Nat) : Int) rfl rfl (by omega) (by omega) (by omega) _) ?_
  refine ja 7 rfl rfl (nK (i + 1)) (rfl) ?_
  refine nr ?_; intro U h; simp only [z0, z1] at h; subst h
  refine qL ?_
  exact ⟨_, by omega, i + 1, Lo, _, _, (Hi ++ [(R.getD i zM)]), _, _, (fun kz => ([us1 0, nK i, vP vp 0, vP vp 0, vP vp 1, .slice ao R.length cap, nK R.length, vT, nK i, nK (i + 1), vP vp 0, vP vp 0, vP vp 1, .slice ao R.length cap, nK i, .pointer (pK kM ao i 0), .pointer (pK kM ao i 0), .agg (idA (R.getD i zM).key), vP g1 0, .agg (idA x.key), vF, us1 21, us1 22, us1 23, us1 24, us1 25, us1 26, us1 27, us1 28, us1 29, us1 30, us1 31, us1 32, vP vp 0, vP vp 0, vP vp 1, .slice ao R.length cap, nK i, .pointer (pK kM ao i 0), .pointer (pK kM ao i 0), .agg (idA (R.getD i zM).key), vP g1 0, .agg (idA x.key), vF, us1 44, us1 45, us1 46, us1 47, us1 48, us1 49, us1 50, us1 51, us1 52, us1 53, .slice ho Hi.length hc, vP vp 0, vP vp 0, vP vp 1, .slice ao R.length cap, nK i, .pointer (pK kM ao i 0), .agg (itA (R.getD i zM)), .slice (some ⟨q69, 0, none⟩) 1 1, .slice ar70 (Hi ++ [(R.getD i zM)]).length cr70] : List Value).getD kz uD), rfl, rfl, GG, GA, kvp, kg1, HLo, HHi, hap, by omega, hT.high hlt hk4⟩
  have hk4 := of_decide_eq_true h4
  refine jl (A := ?Ax3) 10 [(0, 40), (1, 41), (2, 42), (3, 43), (4, 44), (5, 45), (6, 46), (7, 47), (8, 48), (9, 49)] [.val (vP vp 0), .val (vP vp 0), .val (vP vp 1), .val (.slice ao R.length cap), .val (nK i), .val (.pointer (pK kM ao i 0)), .val (.pointer (pK kM ao i 0)), .val (.agg (idA (R.getD i zM).key)), .val (vP g1 0), .val (.agg (idA x.key))] follows (by kernel_rfl) rfl ?hAx3 (jb ?o0x3 (jb ?o1x3 (jb ?o2x3 (jb ?o3x3 (jb ?o4x3 (jb ?o5x3 (jb ?o6x3 (jb ?o7x3 (jb ?o8x3 (jb ?o9x3 jF)))))))))) ?restx3
  case hAx3 =>
    intro ptrs
    simp only [full, foldSlots, filledE, postE, List.foldl_cons, List.foldl_nil, List.getD_cons_zero, List.getD_cons_succ, jI, List.set_cons_zero, List.set_cons_succ]
    exact rfl
  case o0x3 => exact fun _ _ _ _ => jg (v := vP vp 0) _ rfl rfl rfl
  case o1x3 => exact fun _ _ _ _ => jd (v := vP vp 0) rfl (jn _ rfl _ rfl)
  case o2x3 => exact fun _ _ _ _ => jd (v := vP vp 1) rfl (jf 48 _ 1 rfl vp 0 rfl 1 (by kernel_rfl))
  case o3x3 => exact fun _ _ hw _ => jd (v := .slice ao R.length cap) rfl (ldRvr _ rfl vp rfl (hw.has kvp))
  case o4x3 => exact fun _ _ _ _ => jg (v := nK i) _ rfl rfl rfl
  case o5x3 => exact fun _ _ hw _ => jd (v := .pointer (pK kM ao i 0)) rfl (zf rM (((HO.re.gro GG)).gro ((Gro.refl _).drew.trans hw)) _ _ rfl rfl i rfl (by omega))
  case o6x3 => exact fun _ _ hw _ => jd (v := .pointer (pK kM ao i 0)) rfl (zn (((HO.re.gro GG)).gro ((Gro.refl _).drew.trans hw)) 56 _ 0 0 (vG _) rfl i rfl (by omega))
  case o7x3 => exact fun _ _ hw _ => jd (v := .agg (idA (R.getD i zM).key)) rfl (zA (((HO.re.gro GG)).gro ((Gro.refl _).drew.trans hw)) _ rfl i rfl (by omega))
  case o8x3 => exact fun _ _ _ _ => jd (v := vP g1 0) rfl (jf 56 _ 0 rfl g1 0 rfl 0 (by kernel_rfl))
  case o9x3 => exact fun _ _ hw _ => jd (v := .agg (idA x.key)) rfl (ldItk _ rfl g1 rfl (hw.has kg1))
  intro ptrs w3 GD hxE
  simp only [List.drop_succ_cons, List.drop_zero]
  replace kvp := GD.has kvp
  replace kg1 := GD.has kg1
  replace GA := GA.gro ((Gro.refl _).drew.trans GD)
  replace HLo := HLo.gro ((Gro.refl _).drew.trans GD)
  replace HHi := HHi.gro ((Gro.refl _).drew.trans GD)
  replace GG := GG.drew.trans GD
  clear GD
  refine jy 50 rfl rfl _ 30 Try.call30 rfl rfl _ rfl [.agg (idA (R.getD i zM).key), .agg (idA x.key)] rfl (Calls.bool (Zs (R.getD i zM).key x.key (atM HO.re hlt).key hx.key _) h4) ?_
  intro w4 G
  replace kvp := G.has kvp
  replace kg1 := G.has kg1
  replace GA := GA.gro G
  replace HLo := HLo.gro G
  replace HHi := HHi.gro G
  replace GG := GG.trans G
  clear G
  refine nr ?_; intro U h; simp only [z0, z1] at h; subst h
  refine qL (qT rfl (qG ?_))
  refine ja 51 rfl rfl (.slice lo Lo.length lc) (rfl) ?_
  refine ja 52 rfl rfl (vP vp 0) (rfl) ?_
  refine ja 53 rfl rfl (vP vp 0) (jn _ rfl _ rfl) ?_
  refine ja 54 rfl rfl (vP vp 1) (jf 48 _ 1 rfl vp 0 rfl 1 (by kernel_rfl)) ?_
  refine ja 55 rfl rfl (.slice ao R.length cap) (ldRvr _ rfl vp rfl (kvp)) ?_
  refine ja 56 rfl rfl (nK i) (rfl) ?_
  refine nr ?_; intro U h; simp only [z0, z1] at h; subst h
  refine ja 57 rfl rfl (.pointer (pK kM ao i 0)) (zf rM ((HO.re.gro GG)) _ _ rfl rfl i rfl (by omega)) ?_
  refine ja 58 rfl rfl (.agg (itA (R.getD i zM))) (YO ((HO.re.gro GG)) _ rfl i rfl (by omega)) ?_
  refine nr ?_; intro U h; simp only [z0, z1] at h; subst h
  refine yM 59 rfl rfl 45 1 _ rfl [(0, .agg (itA (R.getD i zM)))] rfl ([(R.getD i zM)].flatMap kM.E).toArray 56 (bsM _ _) ?_
  intro w5 q59 G eq2 kq2
  replace kvp := G.has kvp
  replace kg1 := G.has kg1
  replace GA := GA.gro G
  replace HLo := HLo.gro G
  replace HHi := HHi.gro G
  replace GG := GG.trans G
  clear G
  have HQ : RK kM w5 (some ⟨q59, 0, none⟩) 1 [(R.getD i zM)] := RK.blk kq2 (JR (atM HO.re hlt)) (Nat.le_refl _)
  clear eq2 kq2
  refine nr ?_; intro U h; simp only [z0, z1] at h; subst h
  refine Zf rM (by decide) 60 rfl rfl _ _ rfl rfl HLo (l' := [(R.getD i zM)]) rfl HQ (by simp only [List.length_singleton]; omega) GA.size ?_
  intro ar60 cr60 w6 HT2 G hKp
  have hge : ∀ k ∈ blk lo, w1.heap.size ≤ k := fun k hk => (HLo.blkt hk).choose_spec.2
  replace kvp := G.has kvp (fun hk => by have := hge _ hk; omega)
  replace kg1 := G.has kg1 (fun hk => by have := hge _ hk; omega)
  have hapO := uu hap
  replace hap := uu (uI HHi hapO hKp)
  replace HHi := HHi.gros G hapO
  clear hapO
  replace GG := G.gro GG (fun k hk => by have := hge k hk; omega)
  replace GA := G.gro GA hge
  clear HLo G HQ hKp hge
  have HLo := HT2
  clear HT2
  refine nr ?_; intro U h; simp only [z0, z1] at h; subst h
  refine ja 5 rfl rfl (.slice ar60 (Lo ++ [(R.getD i zM)]).length cr60) (rfl) ?_
  refine nr ?_; intro U h; simp only [z0, z1] at h; subst h
  refine qN (zh (jG (qG ?_)))
  refine ja 15 rfl rfl (nK i) (rfl) ?_
  refine ja 16 rfl rfl (nK (i + 1)) (zm 3 _ _ _ rfl ((i : Nat) : Int) 1 ((i + 1 : Nat) : Int) rfl rfl (by omega) (by omega) (by omega) _) ?_
  refine ja 7 rfl rfl (nK (i + 1)) (rfl) ?_
  refine nr ?_; intro U h; simp only [z0, z1] at h; subst h
  refine qL ?_
  exact ⟨_, by omega, i + 1, (Lo ++ [(R.getD i zM)]), _, _, Hi, _, _, (fun kz => ([us1 0, nK i, vP vp 0, vP vp 0, vP vp 1, .slice ao R.length cap, nK R.length, vT, nK i, nK (i + 1), vP vp 0, vP vp 0, vP vp 1, .slice ao R.length cap, nK i, .pointer (pK kM ao i 0), .pointer (pK kM ao i 0), .agg (idA (R.getD i zM).key), vP g1 0, .agg (idA x.key), vF, us1 21, us1 22, us1 23, us1 24, us1 25, us1 26, us1 27, us1 28, us1 29, us1 30, us1 31, us1 32, vP vp 0, vP vp 0, vP vp 1, .slice ao R.length cap, nK i, .pointer (pK kM ao i 0), .pointer (pK kM ao i 0), .agg (idA (R.getD i zM).key), vP g1 0, .agg (idA x.key), vT, .slice lo Lo.length lc, vP vp 0, vP vp 0, vP vp 1, .slice ao R.length cap, nK i, .pointer (pK kM ao i 0), .agg (itA (R.getD i zM)), .slice (some ⟨q59, 0, none⟩) 1 1, .slice ar60 (Lo ++ [(R.getD i zM)]).length cr60, us1 54, us1 55, us1 56, us1 57, us1 58, us1 59, us1 60, us1 61, us1 62, us1 63] : List Value).getD kz uD), rfl, rfl, GG, GA, kvp, kg1, HLo, HHi, hap, by omega, hT.low hlt hk4⟩
  have hk2 := of_decide_eq_true h2
  refine jl (A := ?Ax4) 10 [(0, 17), (1, 18), (2, 19), (3, 20), (4, 21), (5, 22), (6, 23), (7, 24), (8, 25), (9, 26)] [.val (vP vp 0), .val (vP vp 0), .val (vP vp 1), .val (.slice ao R.length cap), .val (nK i), .val (.pointer (pK kM ao i 0)), .val (.pointer (pK kM ao i 0)), .val (.agg (idA (R.getD i zM).key)), .val (vP g1 0), .val (.agg (idA x.key))] follows (by kernel_rfl) rfl ?hAx4 (jb ?o0x4 (jb ?o1x4 (jb ?o2x4 (jb ?o3x4 (jb ?o4x4 (jb ?o5x4 (jb ?o6x4 (jb ?o7x4 (jb ?o8x4 (jb ?o9x4 jF)))))))))) ?restx4
  case hAx4 =>
    intro ptrs
    simp only [full, foldSlots, filledE, postE, List.foldl_cons, List.foldl_nil, List.getD_cons_zero, List.getD_cons_succ, jI, List.set_cons_zero, List.set_cons_succ]
    exact rfl
  case o0x4 => exact fun _ _ _ _ => jg (v := vP vp 0) _ rfl rfl rfl
  case o1x4 => exact fun _ _ _ _ => jd (v := vP vp 0) rfl (jn _ rfl _ rfl)
  case o2x4 => exact fun _ _ _ _ => jd (v := vP vp 1) rfl (jf 48 _ 1 rfl vp 0 rfl 1 (by kernel_rfl))
  case o3x4 => exact fun _ _ hw _ => jd (v := .slice ao R.length cap) rfl (ldRvr _ rfl vp rfl (hw.has kvp))
  case o4x4 => exact fun _ _ _ _ => jg (v := nK i) _ rfl rfl rfl
  case o5x4 => exact fun _ _ hw _ => jd (v := .pointer (pK kM ao i 0)) rfl (zf rM (((HO.re.gro GG)).gro ((Gro.refl _).drew.trans hw)) _ _ rfl rfl i rfl (by omega))
  case o6x4 => exact fun _ _ hw _ => jd (v := .pointer (pK kM ao i 0)) rfl (zn (((HO.re.gro GG)).gro ((Gro.refl _).drew.trans hw)) 56 _ 0 0 (vG _) rfl i rfl (by omega))
  case o7x4 => exact fun _ _ hw _ => jd (v := .agg (idA (R.getD i zM).key)) rfl (zA (((HO.re.gro GG)).gro ((Gro.refl _).drew.trans hw)) _ rfl i rfl (by omega))
  case o8x4 => exact fun _ _ _ _ => jd (v := vP g1 0) rfl (jf 56 _ 0 rfl g1 0 rfl 0 (by kernel_rfl))
  case o9x4 => exact fun _ _ hw _ => jd (v := .agg (idA x.key)) rfl (ldItk _ rfl g1 rfl (hw.has kg1))
  intro ptrs w2 GD hxE
  simp only [List.drop_succ_cons, List.drop_zero]
  replace kvp := GD.has kvp
  replace kg1 := GD.has kg1
  replace GA := GA.gro ((Gro.refl _).drew.trans GD)
  replace HLo := HLo.gro ((Gro.refl _).drew.trans GD)
  replace HHi := HHi.gro ((Gro.refl _).drew.trans GD)
  replace GG := GG.drew.trans GD
  clear GD
  refine ja 27 rfl rfl (vT) (Uy _ _ _ rfl _ _ rfl rfl (atM HO.re hlt).key hx.key true h2) ?_
  refine nr ?_; intro U h; simp only [z0, z1] at h; subst h
  refine qL (qT rfl (qE ?_))
  cases h3 : nwV x.ver (R.getD i zM).ver
  skip
  refine jl (A := ?Ax5) 10 [(0, 28), (1, 29), (2, 30), (3, 31), (4, 32), (5, 33), (6, 34), (7, 35), (8, 36), (9, 37)] [.val (vP g1 16), .val (.agg (veA x.ver)), .val (vP vp 0), .val (vP vp 0), .val (vP vp 1), .val (.slice ao R.length cap), .val (nK i), .val (.pointer (pK kM ao i 0)), .val (.pointer (pK kM ao i 16)), .val (.agg (veA (R.getD i zM).ver))] follows (by kernel_rfl) rfl ?hAx5 (jb ?o0x5 (jb ?o1x5 (jb ?o2x5 (jb ?o3x5 (jb ?o4x5 (jb ?o5x5 (jb ?o6x5 (jb ?o7x5 (jb ?o8x5 (jb ?o9x5 jF)))))))))) ?restx5
  case hAx5 =>
    intro ptrs
    simp only [full, foldSlots, filledE, postE, List.foldl_cons, List.foldl_nil, List.getD_cons_zero, List.getD_cons_succ, jI, List.set_cons_zero, List.set_cons_succ]
    exact rfl
  case o0x5 => exact fun _ _ _ _ => jd (v := vP g1 16) rfl (jf 56 _ 1 rfl g1 0 rfl 16 (by kernel_rfl))
  case o1x5 => exact fun _ _ hw _ => jd (v := .agg (veA x.ver)) rfl (ldItv _ rfl g1 rfl (hw.has kg1))
  case o2x5 => exact fun _ _ _ _ => jg (v := vP vp 0) _ rfl rfl rfl
  case o3x5 => exact fun _ _ _ _ => jd (v := vP vp 0) rfl (jn _ rfl _ rfl)
  case o4x5 => exact fun _ _ _ _ => jd (v := vP vp 1) rfl (jf 48 _ 1 rfl vp 0 rfl 1 (by kernel_rfl))
  case o5x5 => exact fun _ _ hw _ => jd (v := .slice ao R.length cap) rfl (ldRvr _ rfl vp rfl (hw.has kvp))
  case o6x5 => exact fun _ _ _ _ => jg (v := nK i) _ rfl rfl rfl
  case o7x5 => exact fun _ _ hw _ => jd (v := .pointer (pK kM ao i 0)) rfl (zf rM (((HO.re.gro GG)).gro ((Gro.refl _).drew.trans hw)) _ _ rfl rfl i rfl (by omega))
  case o8x5 => exact fun _ _ hw _ => jd (v := .pointer (pK kM ao i 16)) rfl (zn (((HO.re.gro GG)).gro ((Gro.refl _).drew.trans hw)) 56 _ 1 16 (JA _) rfl i rfl (by omega))
  case o9x5 => exact fun _ _ hw _ => jd (v := .agg (veA (R.getD i zM).ver)) rfl (ye (((HO.re.gro GG)).gro ((Gro.refl _).drew.trans hw)) _ rfl i rfl (by omega))
  intro ptrs w3 GD hxE
  simp only [List.drop_succ_cons, List.drop_zero]
  replace kvp := GD.has kvp
  replace kg1 := GD.has kg1
  replace GA := GA.gro ((Gro.refl _).drew.trans GD)
  replace HLo := HLo.gro ((Gro.refl _).drew.trans GD)
  replace HHi := HHi.gro ((Gro.refl _).drew.trans GD)
  replace GG := GG.drew.trans GD
  clear GD
  refine jy 38 rfl rfl _ 22 Try.call22 rfl rfl _ rfl [.agg (veA x.ver), .agg (veA (R.getD i zM).ver)] rfl (Calls.bool (Zl x.ver (R.getD i zM).ver hx.ver (atM HO.re hlt).ver _) h3) ?_
  intro w4 G
  replace kvp := G.has kvp
  replace kg1 := G.has kg1
  replace GA := GA.gro G
  replace HLo := HLo.gro G
  replace HHi := HHi.gro G
  replace GG := GG.trans G
  clear G
  refine nr ?_; intro U h; simp only [z0, z1] at h; subst h
  refine ja 39 rfl rfl (vT) (zi _ _ rfl false rfl) ?_
  refine nr ?_; intro U h; simp only [z0, z1] at h; subst h
  refine qL (qT rfl (qS ?_))
  refine ja 4 rfl rfl (vF) (rfl) ?_
  refine nr ?_; intro U h; simp only [z0, z1] at h; subst h
  refine qL (qR (zk (jr (jr (zk (jr ?_))))))
  refine bodyPost_ret (results_tmp Try.results69 _ _ _) rfl ?_
  exact ⟨false, ao, cap, R, rfl, .of GG, kvp, HO.gro GG, tk_no hS hlt hRn hxn hk2 h3, fun y hy => .inl hy⟩
  skip
  refine jl (A := ?Ax6) 10 [(0, 28), (1, 29), (2, 30), (3, 31), (4, 32), (5, 33), (6, 34), (7, 35), (8, 36), (9, 37)] [.val (vP g1 16), .val (.agg (veA x.ver)), .val (vP vp 0), .val (vP vp 0), .val (vP vp 1), .val (.slice ao R.length cap), .val (nK i), .val (.pointer (pK kM ao i 0)), .val (.pointer (pK kM ao i 16)), .val (.agg (veA (R.getD i zM).ver))] follows (by kernel_rfl) rfl ?hAx6 (jb ?o0x6 (jb ?o1x6 (jb ?o2x6 (jb ?o3x6 (jb ?o4x6 (jb ?o5x6 (jb ?o6x6 (jb ?o7x6 (jb ?o8x6 (jb ?o9x6 jF)))))))))) ?restx6
  case hAx6 =>
    intro ptrs
    simp only [full, foldSlots, filledE, postE, List.foldl_cons, List.foldl_nil, List.getD_cons_zero, List.getD_cons_succ, jI, List.set_cons_zero, List.set_cons_succ]
    exact rfl
  case o0x6 => exact fun _ _ _ _ => jd (v := vP g1 16) rfl (jf 56 _ 1 rfl g1 0 rfl 16 (by kernel_rfl))
  case o1x6 => exact fun _ _ hw _ => jd (v := .agg (veA x.ver)) rfl (ldItv _ rfl g1 rfl (hw.has kg1))
  case o2x6 => exact fun _ _ _ _ => jg (v := vP vp 0) _ rfl rfl rfl
  case o3x6 => exact fun _ _ _ _ => jd (v := vP vp 0) rfl (jn _ rfl _ rfl)
  case o4x6 => exact fun _ _ _ _ => jd (v := vP vp 1) rfl (jf 48 _ 1 rfl vp 0 rfl 1 (by kernel_rfl))
  case o5x6 => exact fun _ _ hw _ => jd (v := .slice ao R.length cap) rfl (ldRvr _ rfl vp rfl (hw.has kvp))
  case o6x6 => exact fun _ _ _ _ => jg (v := nK i) _ rfl rfl rfl
  case o7x6 => exact fun _ _ hw _ => jd (v := .pointer (pK kM ao i 0)) rfl (zf rM (((HO.re.gro GG)).gro ((Gro.refl _).drew.trans hw)) _ _ rfl rfl i rfl (by omega))
  case o8x6 => exact fun _ _ hw _ => jd (v := .pointer (pK kM ao i 16)) rfl (zn (((HO.re.gro GG)).gro ((Gro.refl _).drew.trans hw)) 56 _ 1 16 (JA _) rfl i rfl (by omega))
  case o9x6 => exact fun _ _ hw _ => jd (v := .agg (veA (R.getD i zM).ver)) rfl (ye (((HO.re.gro GG)).gro ((Gro.refl _).drew.trans hw)) _ rfl i rfl (by omega))
  intro ptrs w3 GD hxE
  simp only [List.drop_succ_cons, List.drop_zero]
  replace kvp := GD.has kvp
  replace kg1 := GD.has kg1
  replace GA := GA.gro ((Gro.refl _).drew.trans GD)
  replace HLo := HLo.gro ((Gro.refl _).drew.trans GD)
  replace HHi := HHi.gro ((Gro.refl _).drew.trans GD)
  replace GG := GG.drew.trans GD
  clear GD
  refine jy 38 rfl rfl _ 22 Try.call22 rfl rfl _ rfl [.agg (veA x.ver), .agg (veA (R.getD i zM).ver)] rfl (Calls.bool (Zl x.ver (R.getD i zM).ver hx.ver (atM HO.re hlt).ver _) h3) ?_
  intro w4 G
  replace kvp := G.has kvp
  replace kg1 := G.has kg1
  replace GA := GA.gro G
  replace HLo := HLo.gro G
  replace HHi := HHi.gro G
  replace GG := GG.trans G
  clear G
  refine nr ?_; intro U h; simp only [z0, z1] at h; subst h
  refine ja 39 rfl rfl (vF) (zi _ _ rfl true rfl) ?_
  refine nr ?_; intro U h; simp only [z0, z1] at h; subst h
  refine qL (qF rfl (wp_skip (zh (jG (qG ?_)))))
  refine ja 15 rfl rfl (nK i) (rfl) ?_
  refine ja 16 rfl rfl (nK (i + 1)) (zm 3 _ _ _ rfl ((i : Nat) : Int) 1 ((i + 1 : Nat) : Int) rfl rfl (by omega) (by omega) (by omega) _) ?_
  refine ja 7 rfl rfl (nK (i + 1)) (rfl) ?_
  refine nr ?_; intro U h; simp only [z0, z1] at h; subst h
  refine qL ?_
  exact ⟨_, by omega, i + 1, Lo, _, _, Hi, _, _, (fun kz => ([us1 0, nK i, vP vp 0, vP vp 0, vP vp 1, .slice ao R.length cap, nK R.length, vT, nK i, nK (i + 1), vP vp 0, vP vp 0, vP vp 1, .slice ao R.length cap, nK i, .pointer (pK kM ao i 0), .pointer (pK kM ao i 0), .agg (idA (R.getD i zM).key), vP g1 0, .agg (idA x.key), vT, vP g1 16, .agg (veA x.ver), vP vp 0, vP vp 0, vP vp 1, .slice ao R.length cap, nK i, .pointer (pK kM ao i 0), .pointer (pK kM ao i 16), .agg (veA (R.getD i zM).ver), vT, vF, us1 33, us1 34, us1 35, us1 36, us1 37, us1 38, us1 39, us1 40, us1 41, us1 42, us1 43, us1 44, us1 45, us1 46, us1 47, us1 48, us1 49, us1 50, us1 51, us1 52, us1 53, us1 54, us1 55, us1 56, us1 57, us1 58, us1 59, us1 60, us1 61, us1 62, us1 63] : List Value).getD kz uD), rfl, rfl, GG, GA, kvp, kg1, HLo, HHi, hap, by omega, hT.same hlt hk2 h3⟩
end Go.Proofs.Ytgfnjekpafempaa
