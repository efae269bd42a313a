import Derived.Test.YtgfnjekpafempaaGreatBRA
import Derived.Test.YtgfnjekpafempaaGreatBV15
import Derived.Test.YtgfnjekpafempaaGreatBAb
namespace Go.Proofs.YtgfnjekpafempaaGreat
open Go.Proofs.Tryz
open Go.RowKit
/-! ### What the document's take does -/
structure TkI (R : List IM) (x : IM) (i : Nat) (Lo Hi : List IM) : Prop where
  lo : Lo = (R.take i).filter (fun y => decide (y.key < x.key))
  hi : Hi = (R.take i).filter (fun y => decide (x.key < y.key))
  nw : ∀ y ∈ R.take i, y.key = x.key → nwV x.ver y.ver = true
section
variable {R : List IM} {x : IM} {i : Nat} {Lo Hi : List IM}
theorem TkI.zero : TkI R x 0 [] [] := ⟨rfl, rfl, fun _ h => by (cases h)⟩
theorem TkI.len (h : TkI R x i Lo Hi) : Lo.length ≤ R.length ∧ Hi.length ≤ R.length := by
  have h1 : (R.take i).length ≤ R.length := by rw [List.length_take]; omega
  constructor
  · rw [h.lo]; exact Nat.le_trans (List.length_filter_le _ _) h1
  · rw [h.hi]; exact Nat.le_trans (List.length_filter_le _ _) h1
theorem TkI.ok (h : TkI R x i Lo Hi) (hR : ∀ y ∈ R, y.ok) : (∀ y ∈ Lo, y.ok) ∧ (∀ y ∈ Hi, y.ok) := by
  constructor
  · intro y hy
    rw [h.lo] at hy
    exact hR y (List.mem_of_mem_take (List.mem_filter.1 hy).1)
  · intro y hy
    rw [h.hi] at hy
    exact hR y (List.mem_of_mem_take (List.mem_filter.1 hy).1)
theorem vo (hi : i < R.length) : R.take (i + 1) = R.take i ++ [R.getD i zM] := by
  rw [List.take_add_one, List.getElem?_eq_getElem hi, List.getD_eq_getElem?_getD, List.getElem?_eq_getElem hi]
  rfl
theorem TkI.low (h : TkI R x i Lo Hi) (hi : i < R.length) (hk : (R.getD i zM).key < x.key) : TkI R x (i + 1) (Lo ++ [R.getD i zM]) Hi := by
  refine ⟨?_, ?_, ?_⟩
  · rw [vo hi, List.filter_append, ← h.lo, List.filter_cons, if_pos (decide_eq_true hk)]
    rfl
  · rw [vo hi, List.filter_append, ← h.hi, List.filter_cons, if_neg (by rw [decide_eq_true_eq]; omega)]
    simp
  · rw [vo hi]
    intro y hy e
    rcases List.mem_append.1 hy with hy | hy
    · exact h.nw y hy e
    · rw [List.mem_singleton.1 hy] at e
      omega
theorem TkI.high (h : TkI R x i Lo Hi) (hi : i < R.length) (hk : x.key < (R.getD i zM).key) : TkI R x (i + 1) Lo (Hi ++ [R.getD i zM]) := by
  refine ⟨?_, ?_, ?_⟩
  · rw [vo hi, List.filter_append, ← h.lo, List.filter_cons, if_neg (by rw [decide_eq_true_eq]; omega)]
    simp
  · rw [vo hi, List.filter_append, ← h.hi, List.filter_cons, if_pos (decide_eq_true hk)]
    rfl
  · rw [vo hi]
    intro y hy e
    rcases List.mem_append.1 hy with hy | hy
    · exact h.nw y hy e
    · rw [List.mem_singleton.1 hy] at e
      omega
theorem TkI.same (h : TkI R x i Lo Hi) (hi : i < R.length) (hk : (R.getD i zM).key = x.key) (hn : nwV x.ver (R.getD i zM).ver = true) : TkI R x (i + 1) Lo Hi := by
  refine ⟨?_, ?_, ?_⟩
  · rw [vo hi, List.filter_append, ← h.lo, List.filter_cons, if_neg (by rw [decide_eq_true_eq]; omega)]
    simp
  · rw [vo hi, List.filter_append, ← h.hi, List.filter_cons, if_neg (by rw [decide_eq_true_eq]; omega)]
    simp
  · rw [vo hi]
    intro y hy e
    rcases List.mem_append.1 hy with hy | hy
    · exact h.nw y hy e
    · rw [List.mem_singleton.1 hy]
      exact hn
theorem uR (p : Nat → Bool) (l : List IM) : (l.filter (fun y => p y.key)).map IM.it = (l.map IM.it).filter (fun z => p z.key) := by
  rw [List.filter_map]
  rfl
theorem TkI.yes (h : TkI R x R.length Lo Hi) (hR : ∀ y ∈ R, 0 ≤ y.n) (hx : 0 ≤ x.n) : ((Lo ++ [x]) ++ Hi).map IM.it = tkV (R.map IM.it) x.it := by
  have e1 : ((Lo ++ [x]) ++ Hi).map IM.it = (R.map IM.it).filter (fun z => decide (z.key < x.it.key)) ++ x.it :: (R.map IM.it).filter (fun z => decide (x.it.key < z.key)) := by
    rw [h.lo, h.hi, List.take_length, List.map_append, List.map_append, uR (fun k => decide (k < x.key)), uR (fun k => decide (x.key < k)), List.append_assoc]
    rfl
  rw [e1]
  unfold tkV
  cases q : lkV (R.map IM.it) x.it.key with
  | none => rfl
  | some y =>
    obtain ⟨hm, hk⟩ := yC q
    obtain ⟨z, hz, rfl⟩ := List.mem_map.1 hm
    have hw := h.nw z (by rw [List.take_length]; exact hz) hk
    rw [uC hx (hR z hz)] at hw
    simp only
    rw [if_pos hw]
theorem tk_no (hS : SKv (R.map IM.it)) (hi : i < R.length) (hR : ∀ y ∈ R, 0 ≤ y.n) (hx : 0 ≤ x.n) (hk : (R.getD i zM).key = x.key) (hn : nwV x.ver (R.getD i zM).ver = false) : R.map IM.it = tkV (R.map IM.it) x.it := by
  have hm := jat hi
  have h1 := vU hS (List.mem_map.2 ⟨_, hm, rfl⟩)
  rw [show (R.getD i zM).it.key = x.it.key from hk] at h1
  rw [uC hx (hR _ hm)] at hn
  exact (VI x.it h1 hn).symm
theorem TkI.mem (h : TkI R x i Lo Hi) : ∀ y ∈ (Lo ++ [x]) ++ Hi, y ∈ R ∨ y = x := fun y hy => by
  rcases List.mem_append.1 hy with hy | hy
  · rcases List.mem_append.1 hy with hy | hy
    · rw [h.lo] at hy
      exact .inl (List.mem_of_mem_take (List.mem_filter.1 hy).1)
    · exact .inr (List.mem_singleton.1 hy)
  · rw [h.hi] at hy
    exact .inl (List.mem_of_mem_take (List.mem_filter.1 hy).1)
end
def TkP (w : World) (B vp : Nat) (mp : Option Nat) (inc : Int) (ao0 : Option Addr) (R : List IM) (x : IM) (e : Ending) (w' : World) : Prop :=
  ∃ b ao cap R2, e = .returned (.bool b) ∧ GroS [vp] w w' ∧ w'.heap[vp]? = some (.cells (rvA mp ao (List.length R2) cap inc) 62 (0, 0)) ∧ OW kM 42 w' B ao cap R2 ∧ R2.map IM.it = tkV (R.map IM.it) x.it ∧ (∀ y ∈ R2, y ∈ R ∨ y = x) ∧ ∀ k ∈ blk ao, k ∈ blk ao0 ∨ w.heap.size ≤ k
set_option maxRecDepth 100000 in
set_option maxHeartbeats 4000000 in
theorem uv (w : World) (B vp : Nat) (mp : Option Nat) (ao : Option Addr) (cap : Nat) (R : List IM) (inc : Int) (kvp : w.heap[vp]? = some (.cells (rvA mp ao R.length cap inc) 62 (0, 0))) (HO : OW kM 42 w B ao cap R) (hB : B ≤ w.heap.size) (hRl : R.length ≤ 4096) (hS : SKv (R.map IM.it)) (hRn : ∀ y ∈ R, 0 ≤ y.n) (x : IM) (hx : x.ok) (hxn : 0 ≤ x.n) : Calls Tryz.prog 37 #[vP vp 0, .agg (itA x)] w (TkP w B vp mp inc ao R x) := by
  refine eN func37 rfl ntmps37 [vP vp 0, iA x] ?_
  have GG := Gro.refl w
  have HO0 := HO
  refine qS ?_
  refine jW 3 rfl rfl 42 _ rfl _ rfl (itA x) rfl ?_
  intro w1 g1 G eg1 kg1
  have bg1 := jh GG eg1
  replace kvp := G.has kvp
  replace GG := GG.trans G
  clear G
  clear eg1
  refine nq ?_
  refine mv (vF) rfl (nq ?_)
  refine qL (qE ?_)
  have hs1 := GG.size
  have hvp := ji kvp
  have hg1 := ji kg1
  have GA := Gro.refl w1
  refine qG (mv (.slice none 0 0) rfl (mv (.slice none 0 0) rfl (nq ?_)))
  refine qL (qE (qE (qG (mv (iK 0) rfl (nq ?_)))))
  refine qL (qB ?_)
  refine jO (fun mz az wv => ∃ (i : Nat) (Lo : List IM) (lo : Option Addr) (lc : Nat) (Hi : List IM) (ho : Option Addr) (hc : Nat) (us1 : Nat → Value), mz = R.length - i ∧ az = ⟨[vP vp 0, iA x, uD, vP g1 0, us1 4, .slice lo Lo.length lc, .slice ho Hi.length hc, nK i, us1 8, us1 9, us1 10, us1 11, us1 12, us1 13, us1 14, us1 15, us1 16, us1 17, us1 18, us1 19, us1 20, us1 21, us1 22, us1 23, us1 24, us1 25, us1 26, us1 27, us1 28, us1 29, us1 30, us1 31, us1 32, us1 33, us1 34, us1 35, us1 36, us1 37, us1 38, us1 39, us1 40, us1 41, us1 42, us1 43, us1 44, us1 45, us1 46, us1 47, us1 48, us1 49, us1 50, us1 51, us1 52, us1 53, us1 54, us1 55, us1 56, us1 57, us1 58, us1 59, us1 60, us1 61, us1 62, us1 63, us1 64, us1 65, us1 66, us1 67, us1 68, us1 69, us1 70, uD, uD, uD, uD, uD, uD, uD, uD, uD, uD].toArray, []⟩ ∧ Gro w wv ∧ Gro w1 wv ∧ wv.heap[vp]? = some (.cells (rvA mp ao R.length cap inc) 62 (0, 0)) ∧ wv.heap[g1]? = some (.cells (itA x) 42 (0, 0)) ∧ OW kM 42 wv w1.heap.size lo lc Lo ∧ OW kM 42 wv w1.heap.size ho hc Hi ∧ (∀ j ∈ blk lo, j ∉ blk ho) ∧ i ≤ R.length ∧ TkI R x i Lo Hi) ?_ _ ⟨0, [], none, 0, [], none, 0, usK ⟨GG, GA, kvp, kg1, OW.nil _ _, OW.nil _ _, fun _ h => by (cases h), Nat.zero_le _, TkI.zero⟩⟩
  clear GG kvp kg1 GA
  rintro mz az wv ⟨i, Lo, lo, lc, Hi, ho, hc, us1, rfl, rfl, GG, GA, kvp, kg1, HLo, HHi, hap, hi, hT⟩
  have hlen := hT.len
  refine qE (qE ?_)
  cases h1 : decide (((i : Nat) : Int) < ((R.length : Nat) : Int))
  have hiR : i = R.length := by have := of_decide_eq_false h1; omega
  rw [hiR] at hT
  refine qG (mv (nK i) rfl (mv (vP vp 0) rfl (sv (vP vp 0) (jl _ rfl _ rfl) rfl (sv (vP vp 1) (je 62 _ 1 rfl vp 0 rfl 1 (by kernel_rfl)) rfl (sv (.slice ao R.length cap) (ldRvr _ rfl vp rfl (kvp)) rfl (sv (nK R.length) (js underlying58 _ rfl _ _ _ rfl _) rfl ?_))))))
  refine nq ?_
  refine sv (vF) (jv 3 _ _ _ rfl ((i : Nat) : Int) ((R.length : Nat) : Int) rfl rfl false h1 _) rfl (nq ?_)
  refine qL (qF rfl (wp_exit (jG (jG (zp (jC (qE (qG (mv (.slice lo Lo.length lc) rfl (sv (iA x) (ldIt0 _ rfl g1 rfl (kg1)) rfl (nq ?_)))))))))))
  refine ye 73 rfl rfl 58 1 _ rfl [(0, iA x)] rfl ([x].flatMap kM.E).toArray 42 (bsM _ _) ?_
  intro w2 q73 G eq2 kq2
  replace kvp := G.has kvp
  replace kg1 := G.has kg1
  replace GA := GA.gro G
  replace HLo := HLo.gro G
  replace HHi := HHi.gro G
  replace GG := GG.trans G
  clear G
  have HQ : RK kM w2 (some ⟨q73, 0, none⟩) 1 [x] := RK.blk kq2 (vg hx) (Nat.le_refl _)
  clear eq2 kq2
  refine nq ?_
  refine ZJ rM (by decide) 74 rfl rfl _ _ rfl rfl HLo (l' := [x]) rfl HQ (by simp only [List.length_singleton]; omega) GA.size ?_
  intro ar74 cr74 w3 HT2 G hKp
  have hge : ∀ k ∈ blk lo, w1.heap.size ≤ k := fun k hk => (HLo.blkt hk).choose_spec.2
  replace kvp := G.has kvp (fun hk => by have := hge _ hk; omega)
  replace kg1 := G.has kg1 (fun hk => by have := hge _ hk; omega)
  have hapO := uP hap
  replace hap := uP (Je HHi hapO hKp)
  replace HHi := HHi.gros G hapO
  clear hapO
  replace GG := G.gro GG (fun k hk => by have := hge k hk; omega)
  replace GA := G.gro GA hge
  clear HLo G HQ hKp hge
  have HLo := HT2
  clear HT2
  refine nq ?_
  refine mv (.slice ar74 (Lo ++ [x]).length cr74) rfl (nq ?_)
  refine qL (qE (qG (mv (vP vp 0) rfl (mv (.slice ar74 (Lo ++ [x]).length cr74) rfl (mv (.slice ho Hi.length hc) rfl (nq ?_))))))
  refine ZJ rM (by decide) 78 rfl rfl _ _ rfl rfl HLo (l' := Hi) rfl HHi.re (by simp only [List.length_append, List.length_singleton]; omega) GA.size ?_
  intro ar78 cr78 w4 HT2 G hKp
  have hge : ∀ k ∈ blk ar74, w1.heap.size ≤ k := fun k hk => (HLo.blkt hk).choose_spec.2
  replace kvp := G.has kvp (fun hk => by have := hge _ hk; omega)
  replace kg1 := G.has kg1 (fun hk => by have := hge _ hk; omega)
  replace GG := G.gro GG (fun k hk => by have := hge k hk; omega)
  replace GA := G.gro GA hge
  clear HLo G hKp hge
  have HLo := HT2
  clear HT2
  refine nq ?_
  refine sv (vP vp 0) (jl _ rfl _ rfl) rfl (sv (vP vp 1) (je 62 _ 1 rfl vp 0 rfl 1 (by kernel_rfl)) rfl (nq ?_))
  refine jE rfl rfl 58 _ _ rfl vp 1 rfl (.slice ar78 ((Lo ++ [x]) ++ Hi).length cr78) rfl 62 _ kvp #[.slice ar78 ((Lo ++ [x]) ++ Hi).length cr78] rfl siIts (by rw [VP]; exact Nat.le_of_ble_eq_true rfl) (ZH _ _ _) (rvA mp ar78 ((Lo ++ [x]) ++ Hi).length cr78 inc) (jbn _ _ _ _ _ _ _ _) ?_
  intro w5 St
  have GG2 : GroS [vp] w w5 := (GroS.of GG).st St (.inr (List.mem_singleton.2 rfl))
  have kvp2 := St.new
  have HL2 := (HLo.st St (fun hm => by have := (HLo.blkt hm).choose_spec.2; omega)).mono (Nat.le_trans hB hs1)
  have hKp2 : ∀ k ∈ blk ar78, k ∈ blk ao ∨ w.heap.size ≤ k := fun k hk => .inr (Nat.le_trans hs1 (HLo.blkt hk).choose_spec.2)
  clear St kvp kg1 GA HLo HHi GG
  have GG := GG2
  refine qL (qE (qG (mv (vT) rfl (nq ?_))))
  refine qL (qR ?_)
  refine bodyPost_ret (results_tmp results37 _ _ _) rfl ?_
  exact ⟨true, _, _, ((Lo ++ [x]) ++ Hi), rfl, GG, kvp2, HL2, hT.yes hRn hxn, hT.mem, hKp2⟩
  have hlt : i < R.length := by have := of_decide_eq_true h1; omega
  refine qG (mv (nK i) rfl (mv (vP vp 0) rfl (sv (vP vp 0) (jl _ rfl _ rfl) rfl (sv (vP vp 1) (je 62 _ 1 rfl vp 0 rfl 1 (by kernel_rfl)) rfl (sv (.slice ao R.length cap) (ldRvr _ rfl vp rfl (kvp)) rfl (sv (nK R.length) (js underlying58 _ rfl _ _ _ rfl _) rfl ?_))))))
  refine nq ?_
  refine sv (vT) (jv 3 _ _ _ rfl ((i : Nat) : Int) ((R.length : Nat) : Int) rfl rfl true h1 _) rfl (nq ?_)
  refine qL (qT rfl (qK (qE (qB (qE ?_)))))
  cases h2 : decide ((R.getD i zM).key = x.key)
  have hk2 := of_decide_eq_false h2
  refine exQ 10 [(0, 17), (1, 18), (2, 19), (3, 20), (4, 21), (5, 22), (6, 23), (7, 24), (8, 25), (9, 26)] [.val (vP vp 0), .val (vP vp 0), .val (vP vp 1), .val (.slice ao R.length cap), .val (nK i), .val (.pointer (pK kM ao i 0)), .val (.pointer (pK kM ao i 0)), .val (eA (R.getD i zM).key), .val (vP g1 0), .val (eA x.key)] follows (by kernel_rfl) rfl (ja ?_ (ja ?_ (ja ?_ (ja ?_ (ja ?_ (ja ?_ (ja ?_ (ja ?_ (ja ?_ (ja ?_ jD)))))))))) ?_
  exact fun _ _ _ _ => jf _ rfl rfl rfl
  exact fun _ _ _ _ => jb rfl (jl _ rfl _ rfl)
  exact fun _ _ _ _ => jb rfl (je 62 _ 1 rfl vp 0 rfl 1 (by kernel_rfl))
  exact fun _ _ hw _ => jb rfl (ldRvr _ rfl vp rfl (hw.has kvp))
  exact fun _ _ _ _ => jf _ rfl rfl rfl
  exact fun _ _ hw _ => jb rfl (za rM (((HO.re.gro GG)).gro ((Gro.refl _).drew.trans hw)) _ _ rfl rfl i rfl (by omega))
  exact fun _ _ hw _ => jb rfl (zk (((HO.re.gro GG)).gro ((Gro.refl _).drew.trans hw)) 42 _ 0 0 (vm _) rfl i rfl (by omega))
  exact fun _ _ hw _ => jb rfl (zr (((HO.re.gro GG)).gro ((Gro.refl _).drew.trans hw)) _ rfl i rfl (by omega))
  exact fun _ _ _ _ => jb rfl (je 42 _ 0 rfl g1 0 rfl 0 (by kernel_rfl))
  exact fun _ _ hw _ => jb rfl (ldItk _ rfl g1 rfl (hw.has kg1))
  intro ptrs w2 GD hxE
  simp only [List.drop_succ_cons, List.drop_zero]
  replace kvp := GD.has kvp
  replace kg1 := GD.has kg1
  replace GA := GA.gro ((Gro.refl _).drew.trans GD)
  replace HLo := HLo.gro ((Gro.refl _).drew.trans GD)
  replace HHi := HHi.gro ((Gro.refl _).drew.trans GD)
  replace GG := GG.drew.trans GD
  clear GD
  refine sv (vF) (Zu _ _ _ rfl _ _ rfl rfl (atM HO.re hlt).key hx.key false h2) rfl (nq ?_)
  refine qL (qF rfl (qE ?_))
  cases h4 : decide ((R.getD i zM).key < x.key)
  have hk4 : x.key < (R.getD i zM).key := by have := of_decide_eq_false h4; omega
  refine exQ 10 [(0, 40), (1, 41), (2, 42), (3, 43), (4, 44), (5, 45), (6, 46), (7, 47), (8, 48), (9, 49)] [.val (vP vp 0), .val (vP vp 0), .val (vP vp 1), .val (.slice ao R.length cap), .val (nK i), .val (.pointer (pK kM ao i 0)), .val (.pointer (pK kM ao i 0)), .val (eA (R.getD i zM).key), .val (vP g1 0), .val (eA x.key)] follows (by kernel_rfl) rfl (ja ?_ (ja ?_ (ja ?_ (ja ?_ (ja ?_ (ja ?_ (ja ?_ (ja ?_ (ja ?_ (ja ?_ jD)))))))))) ?_
  exact fun _ _ _ _ => jf _ rfl rfl rfl
  exact fun _ _ _ _ => jb rfl (jl _ rfl _ rfl)
  exact fun _ _ _ _ => jb rfl (je 62 _ 1 rfl vp 0 rfl 1 (by kernel_rfl))
  exact fun _ _ hw _ => jb rfl (ldRvr _ rfl vp rfl (hw.has kvp))
  exact fun _ _ _ _ => jf _ rfl rfl rfl
  exact fun _ _ hw _ => jb rfl (za rM (((HO.re.gro GG)).gro ((Gro.refl _).drew.trans hw)) _ _ rfl rfl i rfl (by omega))
  exact fun _ _ hw _ => jb rfl (zk (((HO.re.gro GG)).gro ((Gro.refl _).drew.trans hw)) 42 _ 0 0 (vm _) rfl i rfl (by omega))
  exact fun _ _ hw _ => jb rfl (zr (((HO.re.gro GG)).gro ((Gro.refl _).drew.trans hw)) _ rfl i rfl (by omega))
  exact fun _ _ _ _ => jb rfl (je 42 _ 0 rfl g1 0 rfl 0 (by kernel_rfl))
  exact fun _ _ hw _ => jb rfl (ldItk _ rfl g1 rfl (hw.has kg1))
  intro ptrs w3 GD hxE
  simp only [List.drop_succ_cons, List.drop_zero]
  replace kvp := GD.has kvp
  replace kg1 := GD.has kg1
  replace GA := GA.gro ((Gro.refl _).drew.trans GD)
  replace HLo := HLo.gro ((Gro.refl _).drew.trans GD)
  replace HHi := HHi.gro ((Gro.refl _).drew.trans GD)
  replace GG := GG.drew.trans GD
  clear GD
  refine jr 50 rfl rfl _ 62 call62 rfl rfl _ rfl [eA (R.getD i zM).key, eA x.key] rfl (Calls.bool (ZY (R.getD i zM).key x.key (atM HO.re hlt).key hx.key _) h4) ?_
  intro w4 G
  replace kvp := G.has kvp
  replace kg1 := G.has kg1
  replace GA := GA.gro G
  replace HLo := HLo.gro G
  replace HHi := HHi.gro G
  replace GG := GG.trans G
  clear G
  refine nq ?_
  refine qL (qF rfl (qG (mv (.slice ho Hi.length hc) rfl (mv (vP vp 0) rfl (sv (vP vp 0) (jl _ rfl _ rfl) rfl (sv (vP vp 1) (je 62 _ 1 rfl vp 0 rfl 1 (by kernel_rfl)) rfl (sv (.slice ao R.length cap) (ldRvr _ rfl vp rfl (kvp)) rfl (mv (nK i) rfl ?_))))))))
  refine nq ?_
  refine sv (.pointer (pK kM ao i 0)) (za rM ((HO.re.gro GG)) _ _ rfl rfl i rfl (by omega)) rfl (sv (iA (R.getD i zM)) (ZL ((HO.re.gro GG)) _ rfl i rfl (by omega)) rfl (nq ?_))
  refine ye 69 rfl rfl 58 1 _ rfl [(0, iA (R.getD i zM))] rfl ([(R.getD i zM)].flatMap kM.E).toArray 42 (bsM _ _) ?_
  intro w5 q69 G eq2 kq2
  replace kvp := G.has kvp
  replace kg1 := G.has kg1
  replace GA := GA.gro G
  replace HLo := HLo.gro G
  replace HHi := HHi.gro G
  replace GG := GG.trans G
  clear G
  have HQ : RK kM w5 (some ⟨q69, 0, none⟩) 1 [(R.getD i zM)] := RK.blk kq2 (vg (atM HO.re hlt)) (Nat.le_refl _)
  clear eq2 kq2
  refine nq ?_
  refine ZJ rM (by decide) 70 rfl rfl _ _ rfl rfl HHi (l' := [(R.getD i zM)]) rfl HQ (by simp only [List.length_singleton]; omega) GA.size ?_
  intro ar70 cr70 w6 HT2 G hKp
  have hge : ∀ k ∈ blk ho, w1.heap.size ≤ k := fun k hk => (HHi.blkt hk).choose_spec.2
  replace kvp := G.has kvp (fun hk => by have := hge _ hk; omega)
  replace kg1 := G.has kg1 (fun hk => by have := hge _ hk; omega)
  have hapO := hap
  replace hap := Je HLo hapO hKp
  replace HLo := HLo.gros G hapO
  clear hapO
  replace GG := G.gro GG (fun k hk => by have := hge k hk; omega)
  replace GA := G.gro GA hge
  clear HHi G HQ hKp hge
  have HHi := HT2
  clear HT2
  refine nq ?_
  refine mv (.slice ar70 (Hi ++ [(R.getD i zM)]).length cr70) rfl (nq ?_)
  refine qN (zb (jC (qG (mv (nK i) rfl (sv (nK (i + 1)) (jV 3 _ _ _ rfl ((i : Nat) : Int) 1 ((i + 1 : Nat) : Int) rfl rfl (by omega) (by omega) (by omega) _) rfl (mv (nK (i + 1)) rfl (nq ?_)))))))
  refine qL ?_
  exact ⟨_, by omega, i + 1, Lo, _, _, (Hi ++ [(R.getD i zM)]), _, _, usK ⟨GG, GA, kvp, kg1, HLo, HHi, hap, by omega, hT.high hlt hk4⟩⟩
  have hk4 := of_decide_eq_true h4
  refine exQ 10 [(0, 40), (1, 41), (2, 42), (3, 43), (4, 44), (5, 45), (6, 46), (7, 47), (8, 48), (9, 49)] [.val (vP vp 0), .val (vP vp 0), .val (vP vp 1), .val (.slice ao R.length cap), .val (nK i), .val (.pointer (pK kM ao i 0)), .val (.pointer (pK kM ao i 0)), .val (eA (R.getD i zM).key), .val (vP g1 0), .val (eA x.key)] follows (by kernel_rfl) rfl (ja ?_ (ja ?_ (ja ?_ (ja ?_ (ja ?_ (ja ?_ (ja ?_ (ja ?_ (ja ?_ (ja ?_ jD)))))))))) ?_
  exact fun _ _ _ _ => jf _ rfl rfl rfl
  exact fun _ _ _ _ => jb rfl (jl _ rfl _ rfl)
  exact fun _ _ _ _ => jb rfl (je 62 _ 1 rfl vp 0 rfl 1 (by kernel_rfl))
  exact fun _ _ hw _ => jb rfl (ldRvr _ rfl vp rfl (hw.has kvp))
  exact fun _ _ _ _ => jf _ rfl rfl rfl
  exact fun _ _ hw _ => jb rfl (za rM (((HO.re.gro GG)).gro ((Gro.refl _).drew.trans hw)) _ _ rfl rfl i rfl (by omega))
  exact fun _ _ hw _ => jb rfl (zk (((HO.re.gro GG)).gro ((Gro.refl _).drew.trans hw)) 42 _ 0 0 (vm _) rfl i rfl (by omega))
  exact fun _ _ hw _ => jb rfl (zr (((HO.re.gro GG)).gro ((Gro.refl _).drew.trans hw)) _ rfl i rfl (by omega))
  exact fun _ _ _ _ => jb rfl (je 42 _ 0 rfl g1 0 rfl 0 (by kernel_rfl))
  exact fun _ _ hw _ => jb rfl (ldItk _ rfl g1 rfl (hw.has kg1))
  intro ptrs w3 GD hxE
  simp only [List.drop_succ_cons, List.drop_zero]
  replace kvp := GD.has kvp
  replace kg1 := GD.has kg1
  replace GA := GA.gro ((Gro.refl _).drew.trans GD)
  replace HLo := HLo.gro ((Gro.refl _).drew.trans GD)
  replace HHi := HHi.gro ((Gro.refl _).drew.trans GD)
  replace GG := GG.drew.trans GD
  clear GD
  refine jr 50 rfl rfl _ 62 call62 rfl rfl _ rfl [eA (R.getD i zM).key, eA x.key] rfl (Calls.bool (ZY (R.getD i zM).key x.key (atM HO.re hlt).key hx.key _) h4) ?_
  intro w4 G
  replace kvp := G.has kvp
  replace kg1 := G.has kg1
  replace GA := GA.gro G
  replace HLo := HLo.gro G
  replace HHi := HHi.gro G
  replace GG := GG.trans G
  clear G
  refine nq ?_
  refine qL (qT rfl (qG (mv (.slice lo Lo.length lc) rfl (mv (vP vp 0) rfl (sv (vP vp 0) (jl _ rfl _ rfl) rfl (sv (vP vp 1) (je 62 _ 1 rfl vp 0 rfl 1 (by kernel_rfl)) rfl (sv (.slice ao R.length cap) (ldRvr _ rfl vp rfl (kvp)) rfl (mv (nK i) rfl ?_))))))))
  refine nq ?_
  refine sv (.pointer (pK kM ao i 0)) (za rM ((HO.re.gro GG)) _ _ rfl rfl i rfl (by omega)) rfl (sv (iA (R.getD i zM)) (ZL ((HO.re.gro GG)) _ rfl i rfl (by omega)) rfl (nq ?_))
  refine ye 59 rfl rfl 58 1 _ rfl [(0, iA (R.getD i zM))] rfl ([(R.getD i zM)].flatMap kM.E).toArray 42 (bsM _ _) ?_
  intro w5 q59 G eq2 kq2
  replace kvp := G.has kvp
  replace kg1 := G.has kg1
  replace GA := GA.gro G
  replace HLo := HLo.gro G
  replace HHi := HHi.gro G
  replace GG := GG.trans G
  clear G
  have HQ : RK kM w5 (some ⟨q59, 0, none⟩) 1 [(R.getD i zM)] := RK.blk kq2 (vg (atM HO.re hlt)) (Nat.le_refl _)
  clear eq2 kq2
  refine nq ?_
  refine ZJ rM (by decide) 60 rfl rfl _ _ rfl rfl HLo (l' := [(R.getD i zM)]) rfl HQ (by simp only [List.length_singleton]; omega) GA.size ?_
  intro ar60 cr60 w6 HT2 G hKp
  have hge : ∀ k ∈ blk lo, w1.heap.size ≤ k := fun k hk => (HLo.blkt hk).choose_spec.2
  replace kvp := G.has kvp (fun hk => by have := hge _ hk; omega)
  replace kg1 := G.has kg1 (fun hk => by have := hge _ hk; omega)
  have hapO := uP hap
  replace hap := uP (Je HHi hapO hKp)
  replace HHi := HHi.gros G hapO
  clear hapO
  replace GG := G.gro GG (fun k hk => by have := hge k hk; omega)
  replace GA := G.gro GA hge
  clear HLo G HQ hKp hge
  have HLo := HT2
  clear HT2
  refine nq ?_
  refine mv (.slice ar60 (Lo ++ [(R.getD i zM)]).length cr60) rfl (nq ?_)
  refine qN (zb (jC (qG (mv (nK i) rfl (sv (nK (i + 1)) (jV 3 _ _ _ rfl ((i : Nat) : Int) 1 ((i + 1 : Nat) : Int) rfl rfl (by omega) (by omega) (by omega) _) rfl (mv (nK (i + 1)) rfl (nq ?_)))))))
  refine qL ?_
  exact ⟨_, by omega, i + 1, (Lo ++ [(R.getD i zM)]), _, _, Hi, _, _, usK ⟨GG, GA, kvp, kg1, HLo, HHi, hap, by omega, hT.low hlt hk4⟩⟩
  have hk2 := of_decide_eq_true h2
  refine exQ 10 [(0, 17), (1, 18), (2, 19), (3, 20), (4, 21), (5, 22), (6, 23), (7, 24), (8, 25), (9, 26)] [.val (vP vp 0), .val (vP vp 0), .val (vP vp 1), .val (.slice ao R.length cap), .val (nK i), .val (.pointer (pK kM ao i 0)), .val (.pointer (pK kM ao i 0)), .val (eA (R.getD i zM).key), .val (vP g1 0), .val (eA x.key)] follows (by kernel_rfl) rfl (ja ?_ (ja ?_ (ja ?_ (ja ?_ (ja ?_ (ja ?_ (ja ?_ (ja ?_ (ja ?_ (ja ?_ jD)))))))))) ?_
  exact fun _ _ _ _ => jf _ rfl rfl rfl
  exact fun _ _ _ _ => jb rfl (jl _ rfl _ rfl)
  exact fun _ _ _ _ => jb rfl (je 62 _ 1 rfl vp 0 rfl 1 (by kernel_rfl))
  exact fun _ _ hw _ => jb rfl (ldRvr _ rfl vp rfl (hw.has kvp))
  exact fun _ _ _ _ => jf _ rfl rfl rfl
  exact fun _ _ hw _ => jb rfl (za rM (((HO.re.gro GG)).gro ((Gro.refl _).drew.trans hw)) _ _ rfl rfl i rfl (by omega))
  exact fun _ _ hw _ => jb rfl (zk (((HO.re.gro GG)).gro ((Gro.refl _).drew.trans hw)) 42 _ 0 0 (vm _) rfl i rfl (by omega))
  exact fun _ _ hw _ => jb rfl (zr (((HO.re.gro GG)).gro ((Gro.refl _).drew.trans hw)) _ rfl i rfl (by omega))
  exact fun _ _ _ _ => jb rfl (je 42 _ 0 rfl g1 0 rfl 0 (by kernel_rfl))
  exact fun _ _ hw _ => jb rfl (ldItk _ rfl g1 rfl (hw.has kg1))
  intro ptrs w2 GD hxE
  simp only [List.drop_succ_cons, List.drop_zero]
  replace kvp := GD.has kvp
  replace kg1 := GD.has kg1
  replace GA := GA.gro ((Gro.refl _).drew.trans GD)
  replace HLo := HLo.gro ((Gro.refl _).drew.trans GD)
  replace HHi := HHi.gro ((Gro.refl _).drew.trans GD)
  replace GG := GG.drew.trans GD
  clear GD
  refine sv (vT) (Zu _ _ _ rfl _ _ rfl rfl (atM HO.re hlt).key hx.key true h2) rfl (nq ?_)
  refine qL (qT rfl (qE ?_))
  cases h3 : nwV x.ver (R.getD i zM).ver
  skip
  refine exQ 10 [(0, 28), (1, 29), (2, 30), (3, 31), (4, 32), (5, 33), (6, 34), (7, 35), (8, 36), (9, 37)] [.val (vP g1 16), .val (.agg (veA x.ver)), .val (vP vp 0), .val (vP vp 0), .val (vP vp 1), .val (.slice ao R.length cap), .val (nK i), .val (.pointer (pK kM ao i 0)), .val (.pointer (pK kM ao i 16)), .val (.agg (veA (R.getD i zM).ver))] follows (by kernel_rfl) rfl (ja ?_ (ja ?_ (ja ?_ (ja ?_ (ja ?_ (ja ?_ (ja ?_ (ja ?_ (ja ?_ (ja ?_ jD)))))))))) ?_
  exact fun _ _ _ _ => jb rfl (je 42 _ 1 rfl g1 0 rfl 16 (by kernel_rfl))
  exact fun _ _ hw _ => jb rfl (ldItv _ rfl g1 rfl (hw.has kg1))
  exact fun _ _ _ _ => jf _ rfl rfl rfl
  exact fun _ _ _ _ => jb rfl (jl _ rfl _ rfl)
  exact fun _ _ _ _ => jb rfl (je 62 _ 1 rfl vp 0 rfl 1 (by kernel_rfl))
  exact fun _ _ hw _ => jb rfl (ldRvr _ rfl vp rfl (hw.has kvp))
  exact fun _ _ _ _ => jf _ rfl rfl rfl
  exact fun _ _ hw _ => jb rfl (za rM (((HO.re.gro GG)).gro ((Gro.refl _).drew.trans hw)) _ _ rfl rfl i rfl (by omega))
  exact fun _ _ hw _ => jb rfl (zk (((HO.re.gro GG)).gro ((Gro.refl _).drew.trans hw)) 42 _ 1 16 (Ze _) rfl i rfl (by omega))
  exact fun _ _ hw _ => jb rfl (yf (((HO.re.gro GG)).gro ((Gro.refl _).drew.trans hw)) _ rfl i rfl (by omega))
  intro ptrs w3 GD hxE
  simp only [List.drop_succ_cons, List.drop_zero]
  replace kvp := GD.has kvp
  replace kg1 := GD.has kg1
  replace GA := GA.gro ((Gro.refl _).drew.trans GD)
  replace HLo := HLo.gro ((Gro.refl _).drew.trans GD)
  replace HHi := HHi.gro ((Gro.refl _).drew.trans GD)
  replace GG := GG.drew.trans GD
  clear GD
  refine jr 38 rfl rfl _ 39 call39 rfl rfl _ rfl [.agg (veA x.ver), .agg (veA (R.getD i zM).ver)] rfl (Calls.bool (vL x.ver (R.getD i zM).ver hx.ver (atM HO.re hlt).ver _) h3) ?_
  intro w4 G
  replace kvp := G.has kvp
  replace kg1 := G.has kg1
  replace GA := GA.gro G
  replace HLo := HLo.gro G
  replace HHi := HHi.gro G
  replace GG := GG.trans G
  clear G
  refine nq ?_
  refine sv (vT) (jZ _ _ rfl false rfl) rfl (nq ?_)
  refine qL (qT rfl (qE (qG (mv (vF) rfl (nq ?_)))))
  refine qL (qR (ze (jm (jm (ze (jm ?_))))))
  refine bodyPost_ret (results_tmp results37 _ _ _) rfl ?_
  exact ⟨false, ao, cap, R, rfl, .of GG, kvp, HO.gro GG, tk_no hS hlt hRn hxn hk2 h3, fun y hy => .inl hy, fun k hk => .inl hk⟩
  skip
  refine exQ 10 [(0, 28), (1, 29), (2, 30), (3, 31), (4, 32), (5, 33), (6, 34), (7, 35), (8, 36), (9, 37)] [.val (vP g1 16), .val (.agg (veA x.ver)), .val (vP vp 0), .val (vP vp 0), .val (vP vp 1), .val (.slice ao R.length cap), .val (nK i), .val (.pointer (pK kM ao i 0)), .val (.pointer (pK kM ao i 16)), .val (.agg (veA (R.getD i zM).ver))] follows (by kernel_rfl) rfl (ja ?_ (ja ?_ (ja ?_ (ja ?_ (ja ?_ (ja ?_ (ja ?_ (ja ?_ (ja ?_ (ja ?_ jD)))))))))) ?_
  exact fun _ _ _ _ => jb rfl (je 42 _ 1 rfl g1 0 rfl 16 (by kernel_rfl))
  exact fun _ _ hw _ => jb rfl (ldItv _ rfl g1 rfl (hw.has kg1))
  exact fun _ _ _ _ => jf _ rfl rfl rfl
  exact fun _ _ _ _ => jb rfl (jl _ rfl _ rfl)
  exact fun _ _ _ _ => jb rfl (je 62 _ 1 rfl vp 0 rfl 1 (by kernel_rfl))
  exact fun _ _ hw _ => jb rfl (ldRvr _ rfl vp rfl (hw.has kvp))
  exact fun _ _ _ _ => jf _ rfl rfl rfl
  exact fun _ _ hw _ => jb rfl (za rM (((HO.re.gro GG)).gro ((Gro.refl _).drew.trans hw)) _ _ rfl rfl i rfl (by omega))
  exact fun _ _ hw _ => jb rfl (zk (((HO.re.gro GG)).gro ((Gro.refl _).drew.trans hw)) 42 _ 1 16 (Ze _) rfl i rfl (by omega))
  exact fun _ _ hw _ => jb rfl (yf (((HO.re.gro GG)).gro ((Gro.refl _).drew.trans hw)) _ rfl i rfl (by omega))
  intro ptrs w3 GD hxE
  simp only [List.drop_succ_cons, List.drop_zero]
  replace kvp := GD.has kvp
  replace kg1 := GD.has kg1
  replace GA := GA.gro ((Gro.refl _).drew.trans GD)
  replace HLo := HLo.gro ((Gro.refl _).drew.trans GD)
  replace HHi := HHi.gro ((Gro.refl _).drew.trans GD)
  replace GG := GG.drew.trans GD
  clear GD
  refine jr 38 rfl rfl _ 39 call39 rfl rfl _ rfl [.agg (veA x.ver), .agg (veA (R.getD i zM).ver)] rfl (Calls.bool (vL x.ver (R.getD i zM).ver hx.ver (atM HO.re hlt).ver _) h3) ?_
  intro w4 G
  replace kvp := G.has kvp
  replace kg1 := G.has kg1
  replace GA := GA.gro G
  replace HLo := HLo.gro G
  replace HHi := HHi.gro G
  replace GG := GG.trans G
  clear G
  refine nq ?_
  refine sv (vF) (jZ _ _ rfl true rfl) rfl (nq ?_)
  refine qL (qF rfl (wp_skip (zb (jC (qG (mv (nK i) rfl (sv (nK (i + 1)) (jV 3 _ _ _ rfl ((i : Nat) : Int) 1 ((i + 1 : Nat) : Int) rfl rfl (by omega) (by omega) (by omega) _) rfl (mv (nK (i + 1)) rfl (nq ?_)))))))))
  refine qL ?_
  exact ⟨_, by omega, i + 1, Lo, _, _, Hi, _, _, usK ⟨GG, GA, kvp, kg1, HLo, HHi, hap, by omega, hT.same hlt hk2 h3⟩⟩
end Go.Proofs.YtgfnjekpafempaaGreat
