/- What is marked isn't due. -/
import Derived.Test.YtjahegiopigblaaEC7
import Derived.Test.YtjahegiopigblaaEC8
import Derived.Test.YtjahegiopigblaaEC9
namespace Go.Proofs.Ytjahegiopigblaa
open Go.RowKit
theorem owC_nodup {s k : Nat} {l : List Nat} (hl : All l) : (owC s l k).Nodup := by
  unfold owC
  split
  · exact (lin_ris (kc_inj top_0i) hl).nodup
  · cases nsC k (lin (kc 0) s l) <;> simp
theorem dueL_one (f : Nat → Nat → VM) (own : Nat → List Nat) (x : IM) : dueL f own [x] = dueX f x (own x.key) := by
  unfold dueL
  rw [List.flatMap_cons, List.flatMap_nil, List.append_nil]
theorem dueX_all {f : Nat → Nat → VM} {x : IM} {O : List Nat} (h : ∀ j ∈ O, eqV (f j x.key) x.ver = false) : (dueX f x O).length = O.length := by
  unfold dueX
  rw [List.length_map, List.filter_eq_self.2 fun j hj => by rw [h j hj]; rfl]
theorem dueX_none {f : Nat → Nat → VM} {x : IM} {O : List Nat} (h : ∀ j ∈ O, eqV (f j x.key) x.ver = true) : (dueX f x O).length = 0 := by
  unfold dueX
  rw [List.length_map, List.filter_eq_nil_iff.2 fun j hj => by rw [h j hj]; decide]
  rfl
theorem dueX_some {f : Nat → Nat → VM} {x : IM} {O : List Nat} {i : Nat} (hO : O.Nodup) (_hi : i ≤ O.length) (h : ∀ j ∈ O, eqV (f j x.key) x.ver = decide (j ∈ O.take i)) : (dueX f x O).length = O.length - i := by
  unfold dueX
  rw [List.length_map]
  have e := List.take_append_drop i O
  have hd : ∀ j ∈ O.drop i, j ∉ O.take i := by
    rw [← e] at hO
    exact fun j hj hm => (List.nodup_append.1 hO).2.2 j hm j hj rfl
  have h1 : O.filter (fun j => !eqV (f j x.key) x.ver) = (O.take i ++ O.drop i).filter (fun j => !eqV (f j x.key) x.ver) := by rw [e]
  rw [h1, List.filter_append, List.filter_eq_nil_iff.2, List.nil_append, List.filter_eq_self.2, List.length_drop]
  · intro j hj
    rw [h j (List.mem_of_mem_drop hj), decide_eq_false (hd j hj)]
    rfl
  · intro j hj
    rw [h j (List.mem_of_mem_take hj), decide_eq_true hj]
    decide
/-- A book in which the first ones are marked. -/
structure BkM (L : List ((Nat × Nat) × VM)) (x : IM) (O : List Nat) (i : Nat) : Prop where
  ok : okV L
  get : ∀ p, (getM L p).getD zV = if p.2 = x.key ∧ p.1 ∈ O.take i then x.ver else zV
theorem BkM.start (x : IM) (O : List Nat) : BkM [] x O 0 := ⟨fun _ h => (by cases h), fun p => by rw [if_neg (fun h => by simp at h)]; rfl⟩
theorem BkM.step {L : List ((Nat × Nat) × VM)} {x : IM} {O : List Nat} {i : Nat} (h : BkM L x O i) (hk : KNM L) (hx : x.ok) (hi : i < O.length) : BkM (mkB L (O.getD i 0, x.key) x.ver) x O (i + 1) :=
  ⟨h.ok.mk _ hx.ver, fun p => by
    rw [mkB_get hk, h.get p, take_at 0 O i hi]
    by_cases c : p = (O.getD i 0, x.key)
    · rw [if_pos c, if_pos]
      subst c
      exact ⟨rfl, by simp⟩
    · rw [if_neg c]
      by_cases d : p.2 = x.key ∧ p.1 ∈ O.take i
      · rw [if_pos d, if_pos ⟨d.1, List.mem_append_left _ d.2⟩]
      · rw [if_neg d, if_neg]
        rintro ⟨h1, h2⟩
        rcases List.mem_append.1 h2 with h2 | h2
        · exact d ⟨h1, h2⟩
        · exact c (Prod.ext (List.mem_singleton.1 h2) h1)⟩
theorem BkM.len {L : List ((Nat × Nat) × VM)} {x : IM} {O : List Nat} {i : Nat} (h : BkM L x O i) (hO : O.Nodup) (hi : i ≤ O.length) : (dueX (fun i k => (getM L (i, k)).getD zV) x O).length = if eqV x.ver zV = true then 0 else O.length - i := by
  by_cases c : eqV x.ver zV = true
  · rw [if_pos c]
    have e := eqV_iff.1 c
    refine dueX_none fun j _ => eqV_iff.2 ?_
    show (getM L (j, x.key)).getD zV = x.ver
    rw [h.get, e]
    split <;> rfl
  · rw [if_neg c]
    refine dueX_some hO hi fun j _ => ?_
    show eqV ((getM L (j, x.key)).getD zV) x.ver = _
    rw [h.get]
    by_cases d : j ∈ O.take i
    · rw [if_pos ⟨rfl, d⟩, decide_eq_true d]
      exact eqV_iff.2 rfl
    · rw [if_neg (fun q => d q.2), decide_eq_false d]
      cases q : eqV zV x.ver with
      | false => rfl
      | true => exact absurd (eqV_iff.2 (eqV_iff.1 q).symm) c
theorem BkM.other {L : List ((Nat × Nat) × VM)} {x : IM} {O : List Nat} (h : BkM L x O O.length) {y : IM} (hk : y.key = x.key) : (dueX (fun i k => (getM L (i, k)).getD zV) y O).length = if eqV y.ver x.ver = true then 0 else O.length := by
  have hg : ∀ j ∈ O, (getM L (j, y.key)).getD zV = x.ver := fun j hj => by
    rw [h.get, if_pos ⟨hk, by rw [List.take_length]; exact hj⟩]
  by_cases c : eqV y.ver x.ver = true
  · rw [if_pos c]
    exact dueX_none fun j hj => eqV_iff.2 ((hg j hj).trans (eqV_iff.1 c).symm)
  · rw [if_neg c]
    refine dueX_all fun j hj => ?_
    show eqV ((getM L (j, y.key)).getD zV) y.ver = false
    rw [hg j hj]
    cases q : eqV x.ver y.ver with
    | false => rfl
    | true => exact absurd (eqV_iff.2 (eqV_iff.1 q).symm) c
theorem due_empty {L : List ((Nat × Nat) × VM)} {x : IM} {O : List Nat} (h : ∀ p, getM L p = none) (hx : eqV x.ver zV = false) : (dueX (fun i k => (getM L (i, k)).getD zV) x O).length = O.length :=
  dueX_all fun j _ => by
    show eqV ((getM L (j, x.key)).getD zV) x.ver = false
    rw [h]
    show eqV zV x.ver = false
    cases q : eqV zV x.ver with
    | false => rfl
    | true => exact absurd (eqV_iff.2 (eqV_iff.1 q).symm) (by rw [hx]; decide)
theorem ab_len {Z : List DM} {D : List (Nat × Sg)} {n : Nat} (h : Z.map DM.ab = D) (hn : D.length = n) : Z.length = n := by
  have := congrArg List.length h
  rw [List.length_map, hn] at this
  exact this
theorem RK.mp {α : Type} {K : Kd α} {w w' : World} {ao : Option Addr} {cap mb : Nat} {l : List α} {L : List ((Nat × Nat) × VM)} (h : RK K w ao cap l) (HM : TB w mb L) (G : GroS [mb] w w') : RK K w' ao cap l :=
  h.gros G fun ad ha h0 hm => by
    obtain ⟨v, hv⟩ : ∃ v, (l.flatMap K.E)[0]? = some v := ⟨_, List.getElem?_eq_getElem h0⟩
    have hc := h.xc.cell ad ha 0 v hv
    obtain ⟨cs, t, fr, hh⟩ := heap_of_cell hc
    obtain ⟨Y, c, hY⟩ := HM
    have hb : (ad.add 0).block = mb := by
      rw [← List.mem_singleton.1 hm]
      cases ad
      simp [Addr.add]
    rw [hb, hY.at_] at hh
    cases hh
def lenE (n : Nat) : PostE := PostE.ex (fun v _ => ∃ ro rc, v = .slice ro n rc) (fun _ _ _ _ h => h)
theorem fill_lenE (n : Nat) (v : Value) : (lenE n).fill v = v := rfl
theorem spl_ver (x : IM) (v : VM) : splice (itA x) 16 (veA v) = itA (mkI x.key v x.ao x.cap x.val) := by kernel_rfl
theorem its_one {x : IM} {n : Nat} (h : x.val.length ≤ n) : ∀ y ∈ [x], y.val.length ≤ n := one_all h
set_option maxRecDepth 100000 in
set_option maxHeartbeats 4000000 in
theorem copiesMarked_any (ao : Option Addr) (cap : Nat) (l : List Nat) (x : IM) (v : VM) (w : World) (hx : x.ok) (hv : v.ok) (HL : RK kI w ao cap l) (HX : NC w .u8 x.ao x.cap x.val) (hb : x.val.length ≤ 140737488355000) : Calls Try.prog 7 #[.slice ao l.length cap, .agg (itA x), .agg (veA v)] w (fun e w' => e = .returned (.bool true) ∧ Gro w w') := by
  refine s_enter Try.func7 rfl Try.ntmps7 [.slice ao l.length cap, .agg (itA x), .agg (veA v)] [.slice ao l.length cap, .agg (itA x), .agg (veA v), undef, undef, undef, undef, undef, undef, undef, undef, undef, undef, undef, undef, undef, undef, undef, undef, undef, undef, undef, undef, undef, undef, undef, undef, undef, undef, undef, undef, undef, undef, undef, undef, undef, undef, undef, undef, undef, undef, undef, undef, undef, undef, undef, undef, undef, undef, undef, undef, undef, undef, undef, undef, undef, undef, undef, undef, undef, undef, undef, undef, undef, undef, undef, undef, undef, undef, undef, undef, undef, undef, undef, undef, undef, undef, undef, undef, undef, undef, undef, undef, undef, undef, undef, undef, undef, undef, undef, undef, undef, undef, undef, undef, undef, undef, undef, undef, undef, undef, undef, undef, undef, undef, undef, undef, undef, undef, undef, undef, undef, undef, undef, undef, undef, undef, undef] rfl ?_
  have GG := Gro.refl w
  refine wp_seq ?_
  refine wp_region_lit ?_
  refine s_box 4 rfl rfl 46 _ rfl _ rfl (itA x) rfl ?_
  intro w1 g1 G eg1 kg1
  have bg1 := size_base GG eg1
  replace GG := GG.trans G
  clear G
  clear eg1
  refine nr ?_; intro U h; simp only [z0, z1] at h; subst h
  refine s_box 5 rfl rfl 39 _ rfl _ rfl (veA v) rfl ?_
  intro w2 g2 G eg2 kg2
  have bg2 := size_base GG eg2
  replace kg1 := G.has kg1
  replace GG := GG.trans G
  clear G
  clear eg2
  refine nr ?_; intro U h; simp only [z0, z1] at h; subst h
  refine s_val 6 rfl rfl (.bool false) (rfl) ?_
  refine nr ?_; intro U h; simp only [z0, z1] at h; subst h
  refine wpList_nil ?_
  refine then_n ?_
  refine wp_seq ?_
  refine wp_seq ?_
  cases t0 : decide (((l.length : Nat) : Int) = 0)
  · have hpos : 0 < l.length := by have := of_decide_eq_false t0; omega
    obtain ⟨s, hsd⟩ : ∃ s, l.getD 0 0 = s := ⟨_, rfl⟩
    have hs : s < top := hsd ▸ atI HL hpos
    obtain ⟨dl, hdl⟩ : ∃ dl, l.drop 1 = dl := ⟨_, rfl⟩
    obtain ⟨ta, hta⟩ : ∃ ta, (if cap = 1 then ao else ao.map (·.add (1 * 16))) = ta := ⟨_, rfl⟩
    have HD : RK kI w ta (cap - 1) dl := by have h := HL.rc.drop 1 (by omega); rw [hta, hdl] at h; exact ofRC h
    obtain ⟨t, ht⟩ : ∃ t, dl.take 12 = t := ⟨_, rfl⟩
    have HT : RK kI w ta t.length t := ht ▸ HD.take 12
    have htl : t.length ≤ 12 := by rw [← ht, List.length_take]; omega
    obtain ⟨O, hO⟩ : ∃ O, (owC s t x.key) = O := ⟨_, rfl⟩
    have hOn : O.Nodup := hO ▸ owC_nodup HT.alls
    have hOl : O.length ≤ t.length + 1 := hO ▸ owC_len s t x.key
    refine wp_region_lit ?_
    refine s_val 14 rfl rfl (.slice ao l.length cap) (rfl) ?_
    refine nr ?_; intro U h; simp only [z0, z1] at h; subst h
    refine s_val 15 rfl rfl (.int .i64 ((l.length : Nat) : Int)) (run_len Try.underlying24 _ rfl _ _ _ rfl _) ?_
    refine nr ?_; intro U h; simp only [z0, z1] at h; subst h
    refine s_val 16 rfl rfl (.bool false) (run_eq_k 3 .i64 _ _ _ rfl Try.underlying3 ((l.length : Nat) : Int) 0 rfl rfl false t0 _) ?_
    refine nr ?_; intro U h; simp only [z0, z1] at h; subst h
    refine wpList_nil ?_
    refine then_n ?_
    refine wp_cond_false rfl ?_
    refine wp_skip ?_
    refine then_n ?_
    refine wp_seq ?_
    refine wp_region_g2A (A := ?Ax1) 7 [(0, 18), (1, 19), (2, 20), (3, 21), (4, 22), (5, 23), (6, 7)] [.val (.slice ao l.length cap), .val (.pointer (pK kI ao 0 0)), .val (.agg (idA s)), .val (.slice ao l.length cap), .val (.slice ta dl.length (cap - 1)), .val (.slice ta t.length t.length), .new 23 (idA 0) (idA 0) 999] follows (by kernel_rfl) (by kernel_rfl) rfl ?hAx1 (opsA2_cons ?o0x1 (opsA2_cons ?o1x1 (opsA2_cons ?o2x1 (opsA2_cons ?o3x1 (opsA2_cons ?o4x1 (opsA2_cons ?o5x1 (opsA2_cons ?o6x1 opsA2_nil))))))) ?restx1
    case hAx1 =>
      intro ptrs
      simp only [full, foldSlots, filled2, postAt2, List.foldl_cons, List.foldl_nil, List.getD_cons_zero, List.getD_cons_succ, PostS.fill, PostS.val, PostS.new, List.set_cons_zero, List.set_cons_succ]
      exact rfl
    case o0x1 => exact fun _ _ _ _ _ _ => OpOK2.of_val (ok_value (v := .slice ao l.length cap) rfl rfl)
    case o1x1 => exact fun _ _ _ hw _ _ => OpOK2.of_val (ok_value (v := .pointer (pK kI ao 0 0)) rfl (run_ixK rIk (HL.gro (GG.drew.trans hw)) _ _ rfl rfl 0 rfl hpos))
    case o2x1 => exact fun _ _ _ hw _ _ => OpOK2.of_val (ok_value (v := .agg (idA s)) rfl (by rw [← hsd]; exact run_ldKI (HL.gro (GG.drew.trans hw)) _ rfl 0 rfl hpos))
    case o3x1 => exact fun _ _ _ _ _ _ => OpOK2.of_val (ok_value (v := .slice ao l.length cap) rfl rfl)
    case o4x1 => exact fun _ _ _ _ _ _ => OpOK2.of_val (ok_value (v := .slice ta dl.length (cap - 1)) rfl ((run_cutX rIk _ _ rfl ao l.length cap 1 rfl rfl (by omega) _).trans (by rw [← hta, ← hdl, List.length_drop]; rfl)))
    case o5x1 => exact fun _ _ _ hw _ _ => OpOK2.of_val (ok_call rfl _ 9 Try.call9 rfl rfl _ rfl [.slice ta dl.length (cap - 1), .int .i64 12] rfl _ (Calls.valV (cutI_any ta (cap - 1) dl _ (HD.gro (GG.drew.trans hw)) 12) (by rw [ht])))
    case o6x1 => exact fun _ _ _ _ _ _ => OpOK2.of_new (ok_alloc rfl 23 rfl _ zero23)
    intro ptrs Lz w3 GD hLz hnz hapz
    obtain ⟨⟨gs, pzgs, kgs, czgs⟩, hzz⟩ := hnz
    simp only [List.drop_succ_cons, List.drop_zero, pzgs]
    replace kgs : w3.heap[gs]? = some (.cells (idA 0) 23 (0, 0)) := by
      have kk : w3.heap[gs]? = some (.cells (if Lz 999 = true then (idA 0) else (idA 0)) 23 (0, 0)) := kgs
      rwa [ite_self] at kk
    clear hzz hapz hLz
    have dg1gs : g1 < gs := Nat.lt_of_lt_of_le (lt_of_heap kg1) czgs
    have dg2gs : g2 < gs := Nat.lt_of_lt_of_le (lt_of_heap kg2) czgs
    replace kg1 := GD.has kg1
    replace kg2 := GD.has kg2
    have bgs := Nat.le_trans GG.size czgs
    replace GG := GG.drew.trans GD
    clear GD pzgs czgs
    refine s_store rfl rfl 23 _ _ rfl gs 0 rfl (.agg (idA s)) rfl 23 _ kgs (idA s) rfl (size23' _) (idA_fit _ _) (idA_one _) (idA s) (splice_whole _ _ (idA_sz _ _)) ?_
    intro w4 St
    replace kg1 := St.has (by omega) kg1
    replace kg2 := St.has (by omega) kg2
    replace GG := GG.store St bgs
    replace kgs := St.new
    clear St
    refine s_val 8 rfl rfl (.slice ta t.length t.length) (rfl) ?_
    refine nr ?_; intro U h; simp only [z0, z1] at h; subst h
    refine wpList_nil ?_
    refine then_n ?_
    refine wp_seq ?_
    refine wp_region_lit ?_
    refine s_callx 24 rfl rfl _ 17 Try.call17 rfl rfl _ rfl [] rfl (new_any _) (by rintro _ _ ⟨_, _, he, _, _, _, _, _⟩; exact ⟨_, he⟩) ?_
    rintro v w5 ⟨gb, mb, he, G, kgb, HM, bgb, bmb⟩
    cases he
    replace bgb := Nat.le_trans GG.size bgb
    replace bmb := Nat.le_trans GG.size bmb
    replace kg1 := G.has kg1
    replace kg2 := G.has kg2
    replace kgs := G.has kgs
    replace GG := GG.trans G
    clear G
    refine nr ?_; intro U h; simp only [z0, z1] at h; subst h
    have HB0 := BkM.start x O
    refine s_val 9 rfl rfl (.pointer (some ⟨gb, 0, none⟩)) (rfl) ?_
    refine nr ?_; intro U h; simp only [z0, z1] at h; subst h
    refine wpList_nil ?_
    refine then_n ?_
    refine wp_seq ?_
    refine wp_seq ?_
    refine wp_region_opq ?_
    intro OPS hY
    have y2 := hY 2 27 rfl
    clear hY
    refine s_val 25 rfl rfl (.pointer (some ⟨gb, 0, none⟩)) (rfl) ?_
    refine nr ?_; intro U h; simp only [z0, z1] at h; subst h
    refine s_val 26 rfl rfl (.bool false) (run_eqnp 32 _ _ _ rfl _ rfl rfl Try.underlying32 _) ?_
    refine nr ?_; intro U h; simp only [z0, z1] at h; subst h
    refine s_val 27 rfl rfl (.bool false) (rfl) ?_
    refine nr ?_; intro U h; simp only [z0, z1] at h; subst h
    refine s_gcallvY 28 rfl rfl y2 rfl _ 11 Try.call11 rfl rfl _ rfl [] rfl (fixed_any _) ?_
    intro w6 G
    replace kg1 := G.has kg1
    replace kg2 := G.has kg2
    replace kgs := G.has kgs
    replace kgb := G.has kgb
    replace HM := HM.gro G
    replace GG := GG.trans G
    clear G
    refine nr ?_; intro U h; simp only [z0, z1] at h; subst h
    refine s_gvalY 29 rfl rfl y2 rfl (.bool false) (run_nt _ _ rfl true rfl) ?_
    refine nr ?_; intro U h; simp only [z0, z1] at h; subst h
    refine s_val 30 rfl rfl (.bool false) (rfl) ?_
    refine nr ?_; intro U h; simp only [z0, z1] at h; subst h
    refine wpList_nil ?_
    refine then_n ?_
    refine wp_cond_false rfl ?_
    refine wp_skip ?_
    refine then_n ?_
    refine wp_seq ?_
    refine wp_region_lit ?_
    refine s_val 31 rfl rfl (.agg (idA s)) (ldI0 _ rfl gs rfl (kgs)) ?_
    refine nr ?_; intro U h; simp only [z0, z1] at h; subst h
    refine s_val 32 rfl rfl (.slice ta t.length t.length) (rfl) ?_
    refine nr ?_; intro U h; simp only [z0, z1] at h; subst h
    refine s_val 33 rfl rfl (.pointer (some ⟨g1, 0, none⟩)) (run_fld 46 _ 0 rfl g1 0 rfl 0 (by kernel_rfl)) ?_
    refine nr ?_; intro U h; simp only [z0, z1] at h; subst h
    refine s_val 34 rfl rfl (.agg (idA x.key)) (ldItk _ rfl g1 rfl (kg1)) ?_
    refine nr ?_; intro U h; simp only [z0, z1] at h; subst h
    refine s_callx 35 rfl rfl _ 16 Try.call16 rfl rfl _ rfl [.agg (idA s), .slice ta t.length t.length, .agg (idA x.key)] rfl (RowN.to hO (rowed_any s ta t.length t x.key _ hs hx.key (HT.gro GG) (by omega))) (by rintro _ _ ⟨_, _, he, _, _, _⟩; exact ⟨_, he⟩) ?_
    rintro v w7 ⟨ao2, cap2, he, G, HR2, hn2⟩
    cases he
    replace kg1 := G.has kg1
    replace kg2 := G.has kg2
    replace kgs := G.has kgs
    replace kgb := G.has kgb
    replace HM := HM.gro G
    replace GG := GG.trans G
    clear G
    have HR := HR2
    clear HR2 hn2
    refine nr ?_; intro U h; simp only [z0, z1] at h; subst h
    refine s_val 10 rfl rfl (.slice ao2 O.length cap2) (rfl) ?_
    refine nr ?_; intro U h; simp only [z0, z1] at h; subst h
    refine wpList_nil ?_
    refine then_n ?_
    refine wp_seq ?_
    refine wp_seq ?_
    refine wp_region_lit ?_
    refine s_val 36 rfl rfl (.slice ao2 O.length cap2) (rfl) ?_
    refine nr ?_; intro U h; simp only [z0, z1] at h; subst h
    refine s_val 37 rfl rfl (.int .i64 ((O.length : Nat) : Int)) (run_len Try.underlying24 _ rfl _ _ _ rfl _) ?_
    refine nr ?_; intro U h; simp only [z0, z1] at h; subst h
    refine s_val 38 rfl rfl (.int .i64 0) (rfl) ?_
    refine nr ?_; intro U h; simp only [z0, z1] at h; subst h
    refine wpList_nil ?_
    refine then_n ?_
    refine wp_block ?_
    refine wp_loopN (fun mz az wv => ∃ (i : Nat) (Lc : List ((Nat × Nat) × VM)) (us1 : Nat → Value), mz = O.length - i ∧ az = ⟨[.slice ao l.length cap, .agg (itA x), .agg (veA v), undef, .pointer (some ⟨g1, 0, none⟩), .pointer (some ⟨g2, 0, none⟩), us1 0, .pointer (some ⟨gs, 0, none⟩), .slice ta t.length t.length, .pointer (some ⟨gb, 0, none⟩), .slice ao2 O.length cap2, us1 1, us1 2, undef, .slice ao l.length cap, .int .i64 ((l.length : Nat) : Int), .bool false, undef, .slice ao l.length cap, .pointer (pK kI ao 0 0), .agg (idA s), .slice ao l.length cap, .slice ta dl.length (cap - 1), .slice ta t.length t.length, .pointer (some ⟨gb, 0, none⟩), .pointer (some ⟨gb, 0, none⟩), .bool false, .bool false, .bool true, .bool false, .bool false, .agg (idA s), .slice ta t.length t.length, .pointer (some ⟨g1, 0, none⟩), .agg (idA x.key), .slice ao2 O.length cap2, .slice ao2 O.length cap2, .int .i64 ((O.length : Nat) : Int), .int .i64 ((i : Nat) : Int), us1 3, us1 4, us1 5, us1 6, us1 7, us1 8, us1 9, us1 10, us1 11, us1 12, us1 13, us1 14, us1 15, us1 16, us1 17, us1 18, us1 19, us1 20, us1 21, us1 22, us1 23, us1 24, us1 25, us1 26, us1 27, us1 28, us1 29, us1 30, us1 31, us1 32, undef, undef, undef, undef, undef, undef, undef, undef, undef, undef, undef, undef, undef, undef, undef, undef, undef, undef, undef, undef, undef, undef, undef, undef, undef, undef, undef, undef, undef, undef, undef, undef, undef, undef, undef, undef, undef, undef, undef, undef, undef, undef, undef, undef, undef, undef, undef, undef, undef].toArray, []⟩ ∧ Gro w wv ∧ wv.heap[gb]? = some (.cells (bkA mb) 75 (0, 0)) ∧ wv.heap[gs]? = some (.cells (idA s) 23 (0, 0)) ∧ wv.heap[g1]? = some (.cells (itA x) 46 (0, 0)) ∧ wv.heap[g2]? = some (.cells (veA v) 39 (0, 0)) ∧ RK kI wv ao2 cap2 O ∧ TB wv mb Lc ∧ i ≤ O.length ∧ BkM Lc x O i) ?_ _ ⟨0, [], (fun kz => ([.bool false, undef, undef, undef, undef, undef, undef, undef, undef, undef, undef, undef, undef, undef, undef, undef, undef, undef, undef, undef, undef, undef, undef, undef, undef, undef, undef, undef, undef, undef, undef, undef, undef] : List Value).getD kz undef), rfl, rfl, GG, kgb, kgs, kg1, kg2, HR, HM, Nat.zero_le _, HB0⟩
    clear GG kg1 kg2 kgs kgb HM HR
    rintro mz az wv ⟨i, Lc, us1, rfl, rfl, GG, kgb, kgs, kg1, kg2, HR, HM, hi, HB⟩
    refine wp_seq ?_
    cases t1 : decide (((i : Nat) : Int) < ((O.length : Nat) : Int))
    · have hiO : i = O.length := by have := of_decide_eq_false t1; omega
      rw [hiO] at HB
      refine wp_region_lit ?_
      refine s_val 39 rfl rfl (.bool false) (run_lssT 3 _ _ _ rfl ((i : Nat) : Int) ((O.length : Nat) : Int) rfl rfl false t1 _) ?_
      refine nr ?_; intro U h; simp only [z0, z1] at h; subst h
      refine wpList_nil ?_
      refine then_n ?_
      refine wp_seq ?_
      refine wp_cond_false rfl ?_
      refine wp_exit ?_
      refine then_x ?_
      refine then_x ?_
      refine blk_x ?_
      refine then_n ?_
      refine wp_seq ?_
      refine wp_seq ?_
      refine wp_region_lit ?_
      refine s_val 69 rfl rfl (.pointer (some ⟨gb, 0, none⟩)) (rfl) ?_
      refine nr ?_; intro U h; simp only [z0, z1] at h; subst h
      refine s_val 70 rfl rfl (.agg (idA s)) (ldI0 _ rfl gs rfl (kgs)) ?_
      refine nr ?_; intro U h; simp only [z0, z1] at h; subst h
      refine s_val 71 rfl rfl (.slice ta t.length t.length) (rfl) ?_
      refine nr ?_; intro U h; simp only [z0, z1] at h; subst h
      refine s_val 72 rfl rfl (.agg (itA x)) (ldIt0 _ rfl g1 rfl (kg1)) ?_
      refine nr ?_; intro U h; simp only [z0, z1] at h; subst h
      refine s_bsl 73 rfl rfl 40 1 _ rfl [(0, .agg (itA x))] rfl ([x].flatMap kM.E).toArray 46 (bsM _ _) ?_
      intro w8 qHQ G eqHQ kqHQ
      replace kgb := G.has kgb
      replace kgs := G.has kgs
      replace kg1 := G.has kg1
      replace kg2 := G.has kg2
      replace HR := HR.gro G
      replace HM := HM.gro G
      replace GG := GG.trans G
      clear G
      have HQ : RK kM w8 (some ⟨qHQ, 0, none⟩) 1 [x] := RK.blk kqHQ (one_all hx) (Nat.le_refl _)
      clear eqHQ kqHQ
      refine nr ?_; intro U h; simp only [z0, z1] at h; subst h
      refine s_callx 74 rfl rfl _ 23 Try.call23 rfl rfl _ rfl [.pointer (some ⟨gb, 0, none⟩), .agg (idA s), .slice ta t.length t.length, .slice (some ⟨qHQ, 0, none⟩) 1 1] rfl (due_any gb mb s ta (some ⟨qHQ, 0, none⟩) t.length 1 t [x] Lc _ hs HB.ok kgb HM (HT.gro GG) (by omega) HQ (Nat.le_of_ble_eq_true rfl) (one_all (HX.gro GG)) (its_one hb)) (by rintro _ _ ⟨_, _, _, he, _, _, _, _⟩; exact ⟨_, he⟩) ?_
      rintro v w9 ⟨ro, rc, Z, he, G, HZ, HO, hE⟩
      cases he
      replace kgb := G.has kgb
      replace kgs := G.has kgs
      replace kg1 := G.has kg1
      replace kg2 := G.has kg2
      replace HR := HR.gro G
      replace HM := HM.gro G
      replace HQ := HQ.gro G
      replace GG := GG.trans G
      clear G
      have hZ : Z.length = 0 := ab_len hE (by rw [dueL_one]; show (dueX _ x (owC s t x.key)).length = _; rw [hO, HB.len hOn (Nat.le_refl _)]; split <;> omega)
      rw [hZ]
      clear HZ HO hE hZ
      refine nr ?_; intro U h; simp only [z0, z1] at h; subst h
      refine s_val 75 rfl rfl (.int .i64 0) (run_len Try.underlying49 _ rfl _ _ _ rfl _) ?_
      refine nr ?_; intro U h; simp only [z0, z1] at h; subst h
      refine s_val 76 rfl rfl (.bool false) (run_neq_k 3 .i64 _ _ _ rfl Try.underlying3 0 0 rfl rfl false (decide_eq_true rfl) _) ?_
      refine nr ?_; intro U h; simp only [z0, z1] at h; subst h
      refine wpList_nil ?_
      refine then_n ?_
      refine wp_cond_false rfl ?_
      refine wp_skip ?_
      refine then_n ?_
      refine wp_seq ?_
      clear HQ
      refine wp_region_lit ?_
      refine s_val 77 rfl rfl (.agg (itA x)) (ldIt0 _ rfl g1 rfl (kg1)) ?_
      refine nr ?_; intro U h; simp only [z0, z1] at h; subst h
      refine s_alloc 13 rfl rfl 46 rfl _ zeroIt (itA zM) rfl ?_
      intro w10 g3 G eg3 kg3
      have bg3 := size_base GG eg3
      have dgbg3 := lt_new kgb eg3
      have dgsg3 := lt_new kgs eg3
      have dg1g3 := lt_new kg1 eg3
      have dg2g3 := lt_new kg2 eg3
      have dHRg3 := HR.ne eg3
      have dHMg3 := HM.ne eg3
      replace kgb := G.has kgb
      replace kgs := G.has kgs
      replace kg1 := G.has kg1
      replace kg2 := G.has kg2
      replace HR := HR.gro G
      replace HM := HM.gro G
      replace GG := GG.trans G
      clear G
      clear eg3
      refine nr ?_; intro U h; simp only [z0, z1] at h; subst h
      refine s_store rfl rfl 46 _ _ rfl g3 0 rfl (.agg (itA x)) rfl 46 _ kg3 (itA x) rfl (siIt' _) (itA_fit _ _) (itA_one _) (itA x) (splice_whole _ _ (itA_sz _ _)) ?_
      intro w11 St
      replace kgb := St.has (by omega) kgb
      replace kgs := St.has (by omega) kgs
      replace kg1 := St.has (by omega) kg1
      replace kg2 := St.has (by omega) kg2
      replace HR := HR.st St dHRg3
      replace HM := HM.st St dHMg3
      replace GG := GG.store St bg3
      replace kg3 := St.new
      clear St
      refine wpList_nil ?_
      refine then_n ?_
      refine wp_seq ?_
      refine wp_region_lit ?_
      refine s_val 78 rfl rfl (.agg (veA v)) (ldVe0 _ rfl g2 rfl (kg2)) ?_
      refine nr ?_; intro U h; simp only [z0, z1] at h; subst h
      refine s_val 79 rfl rfl (.pointer (some ⟨g3, 16, none⟩)) (run_fld 46 _ 1 rfl g3 0 rfl 16 (by kernel_rfl)) ?_
      refine nr ?_; intro U h; simp only [z0, z1] at h; subst h
      refine s_store rfl rfl 39 _ _ rfl g3 16 rfl (.agg (veA v)) rfl 46 _ kg3 (veA v) rfl (siVe' _) (by rw [veA_size, itA_size]; decide) (veA_one _) (itA (mkI x.key v x.ao x.cap x.val)) (spl_ver x v) ?_
      intro w12 St
      replace kgb := St.has (by omega) kgb
      replace kgs := St.has (by omega) kgs
      replace kg1 := St.has (by omega) kg1
      replace kg2 := St.has (by omega) kg2
      replace HR := HR.st St dHRg3
      replace HM := HM.st St dHMg3
      replace GG := GG.store St bg3
      replace kg3 := St.new
      clear St
      refine wpList_nil ?_
      refine then_n ?_
      refine wp_seq ?_
      refine wp_seq ?_
      cases ev : eqV v x.ver
      · have nev := ev
        have e1 : decide (((O.length : Nat) : Int) = ((O.length : Nat) : Int)) = true := decide_eq_true rfl
        have HB1 := HB
        have HM1 := HM
        have kgb1 := kgb
        refine wp_region_exA (A := ?Ax2) 19 [(0, 80), (1, 81), (2, 82), (3, 83), (4, 84), (5, 85), (6, 86), (7, 87), (8, 88), (9, 89), (10, 90), (11, 91), (12, 92), (13, 93), (14, 94), (15, 95), (16, 96), (17, 97), (18, 98)] [.val (.pointer (some ⟨gb, 0, none⟩)), .val (.agg (idA s)), .val (.slice ta t.length t.length), .val (.agg (itA (mkI x.key v x.ao x.cap x.val))), rowK kM [(mkI x.key v x.ao x.cap x.val)], lenE O.length, .val (.int .i64 ((O.length : Nat) : Int)), .val (.slice ao2 O.length cap2), .val (.int .i64 ((O.length : Nat) : Int)), .val (.bool true), .val (.agg (veA v)), .val (.pointer (some ⟨g1, 16, none⟩)), .val (.agg (veA x.ver)), .val (.bool true), .val (.bool true), .val undef, .val undef, .val undef, .val (.bool true)] follows (by kernel_rfl) rfl ?hAx2 (opsA_cons ?o0x2 (opsA_cons ?o1x2 (opsA_cons ?o2x2 (opsA_cons ?o3x2 (opsA_cons ?o4x2 (opsA_cons ?o5x2 (opsA_cons ?o6x2 (opsA_cons ?o7x2 (opsA_cons ?o8x2 (opsA_cons ?o9x2 (opsA_cons ?o10x2 (opsA_cons ?o11x2 (opsA_cons ?o12x2 (opsA_cons ?o13x2 (opsA_cons ?o14x2 (opsA_cons ?o15x2 (opsA_cons ?o16x2 (opsA_cons ?o17x2 (opsA_cons ?o18x2 opsA_nil))))))))))))))))))) ?restx2
        case hAx2 =>
          intro ptrs
          simp only [full, foldSlots, filledE, postE, List.foldl_cons, List.foldl_nil, List.getD_cons_zero, List.getD_cons_succ, fill_val, fill_rowK, fill_lenE, List.set_cons_zero, List.set_cons_succ]
          exact rfl
        case o0x2 => exact fun _ _ _ _ => opE_move (v := .pointer (some ⟨gb, 0, none⟩)) _ rfl rfl rfl
        case o1x2 => exact fun _ _ hw _ => opE_value (v := .agg (idA s)) rfl (ldI0 _ rfl gs rfl (hw.has kgs))
        case o2x2 => exact fun _ _ _ _ => opE_move (v := .slice ta t.length t.length) _ rfl rfl rfl
        case o3x2 => exact fun _ _ hw _ => opE_value (v := .agg (itA (mkI x.key v x.ao x.cap x.val))) rfl (ldIt0 _ rfl g3 rfl (hw.has kg3))
        case o4x2 => exact fun _ _ _ _ => opE_bs rfl 40 _ rfl [(0, .agg (itA (mkI x.key v x.ao x.cap x.val)))] rfl (mkI x.key v x.ao x.cap x.val) (mkI_ok hx.key hv) (bsM (mkI x.key v x.ao x.cap x.val) _)
        case o5x2 =>
          intro ptrs w' hw hE
          obtain ⟨⟨ao4, cap4, h4, o4⟩, _⟩ := hE
          exact opE_call (lenE O.length) rfl _ 23 Try.call23 rfl rfl _ rfl [.pointer (some ⟨gb, 0, none⟩), .agg (idA s), .slice ta t.length t.length, .slice ao4 1 cap4] (by show [Value.pointer (some ⟨gb, 0, none⟩), Value.agg (idA s), Value.slice ta t.length t.length, ptrs 4] = _; rw [h4]; rfl) ((due_any gb mb s ta ao4 t.length cap4 t [(mkI x.key v x.ao x.cap x.val)] Lc _ hs HB.ok (hw.has kgb) (HM.gro ((Gro.refl _).drew.trans hw)) (HT.gro (GG.drew.trans hw)) (by omega) o4 (Nat.le_of_ble_eq_true rfl) (one_all (p := fun y : IM => NC _ .u8 y.ao y.cap y.val) (HX.gro (GG.drew.trans hw))) (its_one (x := (mkI x.key v x.ao x.cap x.val)) hb)).mono fun e w' ⟨ro, rc, Z, he, hg, _, _, hE⟩ => ⟨_, he, hg, ro, rc, by rw [ab_len (n := O.length) hE (by rw [dueL_one]; show (dueX _ (mkI x.key v x.ao x.cap x.val) (owC s t x.key)).length = _; rw [hO]; exact (HB.other (y := (mkI x.key v x.ao x.cap x.val)) rfl).trans (if_neg (show ¬ eqV v x.ver = true by rw [ev]; decide)))]⟩)
        case o6x2 =>
          intro ptrs w' hw hE
          obtain ⟨⟨lo5, lc5, h5⟩, _⟩ := hE
          exact opE_value rfl (run_len Try.underlying49 _ rfl _ _ _ (by exact h5) _)
        case o7x2 => exact fun _ _ _ _ => opE_move (v := .slice ao2 O.length cap2) _ rfl rfl rfl
        case o8x2 => exact fun _ _ _ _ => opE_value (v := .int .i64 ((O.length : Nat) : Int)) rfl (run_len Try.underlying24 _ rfl _ _ _ rfl _)
        case o9x2 => exact fun _ _ _ _ => opE_value (v := .bool true) rfl (run_eq_k 3 .i64 _ _ _ rfl Try.underlying3 ((O.length : Nat) : Int) ((O.length : Nat) : Int) rfl rfl true e1 _)
        case o10x2 => exact fun _ _ hw _ => opE_value (v := .agg (veA v)) rfl (ldVe0 _ rfl g2 rfl (hw.has kg2))
        case o11x2 => exact fun _ _ _ _ => opE_value (v := .pointer (some ⟨g1, 16, none⟩)) rfl (run_fld 46 _ 1 rfl g1 0 rfl 16 (by kernel_rfl))
        case o12x2 => exact fun _ _ hw _ => opE_value (v := .agg (veA x.ver)) rfl (ldItv _ rfl g1 rfl (hw.has kg1))
        case o13x2 => exact fun _ _ _ _ => opE_value (v := .bool true) rfl (run_neV _ _ _ rfl _ _ rfl rfl hv hx.ver true nev)
        case o14x2 => exact fun _ _ _ _ => opE_move (v := .bool true) _ rfl rfl rfl
        case o15x2 => exact fun _ _ _ _ => opE_skip rfl
        case o16x2 => exact fun _ _ _ _ => opE_skip rfl
        case o17x2 => exact fun _ _ _ _ => opE_skip rfl
        case o18x2 => exact fun _ _ _ _ => opE_pick (v := .bool true) _ _ _ rfl rfl true rfl rfl
        intro ptrs w13 GD hxE
        simp only [List.drop_succ_cons, List.drop_zero]
        replace kgb := GD.has kgb
        replace kgs := GD.has kgs
        replace kg1 := GD.has kg1
        replace kg2 := GD.has kg2
        replace kg3 := GD.has kg3
        replace HR := HR.gro ((Gro.refl _).drew.trans GD)
        replace HM := HM.gro ((Gro.refl _).drew.trans GD)
        replace GG := GG.drew.trans GD
        obtain ⟨_, _, _⟩ := hxE
        clear GD
        refine s_val 99 rfl rfl (.bool false) (run_neB 4 _ _ _ rfl true true rfl rfl Try.underlying4 false (by decide) _) ?_
        refine nr ?_; intro U h; simp only [z0, z1] at h; subst h
        refine wpList_nil ?_
        refine then_n ?_
        refine wp_cond_false rfl ?_
        refine wp_skip ?_
        refine then_n ?_
        refine wp_seq ?_
        refine wp_region_lit ?_
        refine s_val 100 rfl rfl (.pointer (some ⟨gb, 0, none⟩)) (rfl) ?_
        refine nr ?_; intro U h; simp only [z0, z1] at h; subst h
        refine s_callx 101 rfl rfl _ 21 Try.call21 rfl rfl _ rfl [.pointer (some ⟨gb, 0, none⟩), .slice none 0 0] rfl (retain_any gb mb none 0 [] Lc _ kgb HM (RK.nil _) (Nat.zero_le _)) (by rintro _ _ ⟨he, _, _, _, _, _⟩; exact ⟨_, he⟩) ?_
        rintro v w14 ⟨he, G, L2, HM2, hL2, hs2⟩
        cases he
        replace kgb := G.has kgb (fun hm => HM.nec kgb (List.mem_singleton.1 hm))
        replace kgs := G.has kgs (fun hm => HM.nec kgs (List.mem_singleton.1 hm))
        replace kg1 := G.has kg1 (fun hm => HM.nec kg1 (List.mem_singleton.1 hm))
        replace kg2 := G.has kg2 (fun hm => HM.nec kg2 (List.mem_singleton.1 hm))
        replace kg3 := G.has kg3 (fun hm => HM.nec kg3 (List.mem_singleton.1 hm))
        replace HR := HR.mp HM G
        have hg2 : ∀ p, getM L2 p = none := fun p => (hL2 p).trans (if_neg (fun h => by cases h))
        have HV2 : okV L2 := fun y hy => HB.ok y (hs2 y hy)
        replace GG := G.gro GG (fun k hk => by rw [List.mem_singleton.1 hk]; exact bmb)
        clear HM HB G
        have HM := HM2
        clear HM2
        refine nr ?_; intro U h; simp only [z0, z1] at h; subst h
        refine wpList_nil ?_
        refine then_n ?_
        refine wp_seq ?_
        cases kv0 : eqV x.ver zV
        · have nv0 := kv0
          refine wp_region_opq ?_
          intro OPS hY
          have y4 := hY 4 106 rfl
          clear hY
          refine s_val 102 rfl rfl (.pointer (some ⟨g1, 16, none⟩)) (run_fld 46 _ 1 rfl g1 0 rfl 16 (by kernel_rfl)) ?_
          refine nr ?_; intro U h; simp only [z0, z1] at h; subst h
          refine s_val 103 rfl rfl (.agg (veA x.ver)) (ldItv _ rfl g1 rfl (kg1)) ?_
          refine nr ?_; intro U h; simp only [z0, z1] at h; subst h
          refine s_val 104 rfl rfl (.agg (veA zV)) (run_bd 39 _ rfl [] rfl _ (bdV0 _)) ?_
          refine nr ?_; intro U h; simp only [z0, z1] at h; subst h
          refine s_val 105 rfl rfl (.bool false) (run_eqV _ _ _ rfl _ _ rfl rfl hx.ver zV_ok false nv0) ?_
          refine nr ?_; intro U h; simp only [z0, z1] at h; subst h
          refine s_val 106 rfl rfl (.bool false) (rfl) ?_
          refine nr ?_; intro U h; simp only [z0, z1] at h; subst h
          refine s_gvalY 107 rfl rfl y4 rfl (.pointer (some ⟨gb, 0, none⟩)) (rfl) ?_
          refine nr ?_; intro U h; simp only [z0, z1] at h; subst h
          refine s_gvalY 108 rfl rfl y4 rfl (.agg (idA s)) (ldI0 _ rfl gs rfl (kgs)) ?_
          refine nr ?_; intro U h; simp only [z0, z1] at h; subst h
          refine s_gvalY 109 rfl rfl y4 rfl (.slice ta t.length t.length) (rfl) ?_
          refine nr ?_; intro U h; simp only [z0, z1] at h; subst h
          refine s_gvalY 110 rfl rfl y4 rfl (.agg (itA x)) (ldIt0 _ rfl g1 rfl (kg1)) ?_
          refine nr ?_; intro U h; simp only [z0, z1] at h; subst h
          refine s_gbslY 111 rfl rfl y4 rfl 40 1 _ rfl [(0, .agg (itA x))] rfl ([x].flatMap kM.E).toArray 46 (bsM _ _) ?_
          intro w15 qHQ G eqHQ kqHQ
          replace kgb := G.has kgb
          replace kgs := G.has kgs
          replace kg1 := G.has kg1
          replace kg2 := G.has kg2
          replace kg3 := G.has kg3
          replace HR := HR.gro G
          replace HM := HM.gro G
          replace GG := GG.trans G
          clear G
          have HQ : RK kM w15 (some ⟨qHQ, 0, none⟩) 1 [x] := RK.blk kqHQ (one_all hx) (Nat.le_refl _)
          clear eqHQ kqHQ
          refine nr ?_; intro U h; simp only [z0, z1] at h; subst h
          refine s_gcallxY 112 rfl rfl y4 rfl _ 23 Try.call23 rfl rfl _ rfl [.pointer (some ⟨gb, 0, none⟩), .agg (idA s), .slice ta t.length t.length, .slice (some ⟨qHQ, 0, none⟩) 1 1] rfl (due_any gb mb s ta (some ⟨qHQ, 0, none⟩) t.length 1 t [x] L2 _ hs HV2 kgb HM (HT.gro GG) (by omega) HQ (Nat.le_of_ble_eq_true rfl) (one_all (HX.gro GG)) (its_one hb)) (by rintro _ _ ⟨_, _, _, he, _, _, _, _⟩; exact ⟨_, he⟩) ?_
          rintro v w16 ⟨ro, rc, Z, he, G, HZ, HO, hE⟩
          cases he
          replace kgb := G.has kgb
          replace kgs := G.has kgs
          replace kg1 := G.has kg1
          replace kg2 := G.has kg2
          replace kg3 := G.has kg3
          replace HR := HR.gro G
          replace HM := HM.gro G
          replace HQ := HQ.gro G
          replace GG := GG.trans G
          clear G
          have hZ : Z.length = O.length := ab_len hE (by rw [dueL_one]; show (dueX _ x (owC s t x.key)).length = _; rw [hO]; exact due_empty hg2 kv0)
          rw [hZ]
          clear HZ HO hE hZ
          refine nr ?_; intro U h; simp only [z0, z1] at h; subst h
          refine s_gvalY 113 rfl rfl y4 rfl (.int .i64 ((O.length : Nat) : Int)) (run_len Try.underlying49 _ rfl _ _ _ rfl _) ?_
          refine nr ?_; intro U h; simp only [z0, z1] at h; subst h
          refine s_gvalY 114 rfl rfl y4 rfl (.slice ao2 O.length cap2) (rfl) ?_
          refine nr ?_; intro U h; simp only [z0, z1] at h; subst h
          refine s_gvalY 115 rfl rfl y4 rfl (.int .i64 ((O.length : Nat) : Int)) (run_len Try.underlying24 _ rfl _ _ _ rfl _) ?_
          refine nr ?_; intro U h; simp only [z0, z1] at h; subst h
          refine s_gvalY 116 rfl rfl y4 rfl (.bool true) (run_eq_k 3 .i64 _ _ _ rfl Try.underlying3 ((O.length : Nat) : Int) ((O.length : Nat) : Int) rfl rfl true (decide_eq_true rfl) _) ?_
          refine nr ?_; intro U h; simp only [z0, z1] at h; subst h
          refine s_val 117 rfl rfl (.bool true) (rfl) ?_
          refine nr ?_; intro U h; simp only [z0, z1] at h; subst h
          refine s_val 6 rfl rfl (.bool true) (rfl) ?_
          refine nr ?_; intro U h; simp only [z0, z1] at h; subst h
          refine wpList_nil ?_
          refine then_n ?_
          refine wp_ret ?_
          refine bodyPost_ret (results_tmp Try.results7 _ _ _) rfl ?_
          exact ⟨rfl, GG⟩
        · have nv0 := kv0
          refine wp_region_opq ?_
          intro OPS hY
          have y4 := hY 4 106 rfl
          clear hY
          refine s_val 102 rfl rfl (.pointer (some ⟨g1, 16, none⟩)) (run_fld 46 _ 1 rfl g1 0 rfl 16 (by kernel_rfl)) ?_
          refine nr ?_; intro U h; simp only [z0, z1] at h; subst h
          refine s_val 103 rfl rfl (.agg (veA x.ver)) (ldItv _ rfl g1 rfl (kg1)) ?_
          refine nr ?_; intro U h; simp only [z0, z1] at h; subst h
          refine s_val 104 rfl rfl (.agg (veA zV)) (run_bd 39 _ rfl [] rfl _ (bdV0 _)) ?_
          refine nr ?_; intro U h; simp only [z0, z1] at h; subst h
          refine s_val 105 rfl rfl (.bool true) (run_eqV _ _ _ rfl _ _ rfl rfl hx.ver zV_ok true nv0) ?_
          refine nr ?_; intro U h; simp only [z0, z1] at h; subst h
          refine s_val 106 rfl rfl (.bool true) (rfl) ?_
          refine nr ?_; intro U h; simp only [z0, z1] at h; subst h
          refine s_skipY 107 rfl rfl y4 rfl ?_
          refine nr ?_; intro U h; simp only [z0, z1] at h; subst h
          refine s_skipY 108 rfl rfl y4 rfl ?_
          refine nr ?_; intro U h; simp only [z0, z1] at h; subst h
          refine s_skipY 109 rfl rfl y4 rfl ?_
          refine nr ?_; intro U h; simp only [z0, z1] at h; subst h
          refine s_skipY 110 rfl rfl y4 rfl ?_
          refine nr ?_; intro U h; simp only [z0, z1] at h; subst h
          refine s_skipY 111 rfl rfl y4 rfl ?_
          refine nr ?_; intro U h; simp only [z0, z1] at h; subst h
          refine s_skipY 112 rfl rfl y4 rfl ?_
          refine nr ?_; intro U h; simp only [z0, z1] at h; subst h
          refine s_skipY 113 rfl rfl y4 rfl ?_
          refine nr ?_; intro U h; simp only [z0, z1] at h; subst h
          refine s_skipY 114 rfl rfl y4 rfl ?_
          refine nr ?_; intro U h; simp only [z0, z1] at h; subst h
          refine s_skipY 115 rfl rfl y4 rfl ?_
          refine nr ?_; intro U h; simp only [z0, z1] at h; subst h
          refine s_skipY 116 rfl rfl y4 rfl ?_
          refine nr ?_; intro U h; simp only [z0, z1] at h; subst h
          refine s_val 117 rfl rfl (.bool true) (rfl) ?_
          refine nr ?_; intro U h; simp only [z0, z1] at h; subst h
          refine s_val 6 rfl rfl (.bool true) (rfl) ?_
          refine nr ?_; intro U h; simp only [z0, z1] at h; subst h
          refine wpList_nil ?_
          refine then_n ?_
          refine wp_ret ?_
          refine bodyPost_ret (results_tmp Try.results7 _ _ _) rfl ?_
          exact ⟨rfl, GG⟩
      · cases e0 : decide (((O.length : Nat) : Int) = 0)
        · have hO0 : ¬ O.length = 0 := by have := of_decide_eq_false e0; omega
          have nev := ev
          have e1 : decide (((0 : Nat) : Int) = ((O.length : Nat) : Int)) = false := decide_eq_false (by omega)
          have HB1 := HB
          have HM1 := HM
          have kgb1 := kgb
          refine wp_region_exA (A := ?Ax3) 19 [(0, 80), (1, 81), (2, 82), (3, 83), (4, 84), (5, 85), (6, 86), (7, 87), (8, 88), (9, 89), (10, 90), (11, 91), (12, 92), (13, 93), (14, 94), (15, 95), (16, 96), (17, 97), (18, 98)] [.val (.pointer (some ⟨gb, 0, none⟩)), .val (.agg (idA s)), .val (.slice ta t.length t.length), .val (.agg (itA (mkI x.key v x.ao x.cap x.val))), rowK kM [(mkI x.key v x.ao x.cap x.val)], lenE 0, .val (.int .i64 0), .val (.slice ao2 O.length cap2), .val (.int .i64 ((O.length : Nat) : Int)), .val (.bool false), .val (.agg (veA v)), .val (.pointer (some ⟨g1, 16, none⟩)), .val (.agg (veA x.ver)), .val (.bool false), .val (.bool false), .val (.slice ao2 O.length cap2), .val (.int .i64 ((O.length : Nat) : Int)), .val (.bool false), .val (.bool false)] follows (by kernel_rfl) rfl ?hAx3 (opsA_cons ?o0x3 (opsA_cons ?o1x3 (opsA_cons ?o2x3 (opsA_cons ?o3x3 (opsA_cons ?o4x3 (opsA_cons ?o5x3 (opsA_cons ?o6x3 (opsA_cons ?o7x3 (opsA_cons ?o8x3 (opsA_cons ?o9x3 (opsA_cons ?o10x3 (opsA_cons ?o11x3 (opsA_cons ?o12x3 (opsA_cons ?o13x3 (opsA_cons ?o14x3 (opsA_cons ?o15x3 (opsA_cons ?o16x3 (opsA_cons ?o17x3 (opsA_cons ?o18x3 opsA_nil))))))))))))))))))) ?restx3
          case hAx3 =>
            intro ptrs
            simp only [full, foldSlots, filledE, postE, List.foldl_cons, List.foldl_nil, List.getD_cons_zero, List.getD_cons_succ, fill_val, fill_rowK, fill_lenE, List.set_cons_zero, List.set_cons_succ]
            exact rfl
          case o0x3 => exact fun _ _ _ _ => opE_move (v := .pointer (some ⟨gb, 0, none⟩)) _ rfl rfl rfl
          case o1x3 => exact fun _ _ hw _ => opE_value (v := .agg (idA s)) rfl (ldI0 _ rfl gs rfl (hw.has kgs))
          case o2x3 => exact fun _ _ _ _ => opE_move (v := .slice ta t.length t.length) _ rfl rfl rfl
          case o3x3 => exact fun _ _ hw _ => opE_value (v := .agg (itA (mkI x.key v x.ao x.cap x.val))) rfl (ldIt0 _ rfl g3 rfl (hw.has kg3))
          case o4x3 => exact fun _ _ _ _ => opE_bs rfl 40 _ rfl [(0, .agg (itA (mkI x.key v x.ao x.cap x.val)))] rfl (mkI x.key v x.ao x.cap x.val) (mkI_ok hx.key hv) (bsM (mkI x.key v x.ao x.cap x.val) _)
          case o5x3 =>
            intro ptrs w' hw hE
            obtain ⟨⟨ao4, cap4, h4, o4⟩, _⟩ := hE
            exact opE_call (lenE 0) rfl _ 23 Try.call23 rfl rfl _ rfl [.pointer (some ⟨gb, 0, none⟩), .agg (idA s), .slice ta t.length t.length, .slice ao4 1 cap4] (by show [Value.pointer (some ⟨gb, 0, none⟩), Value.agg (idA s), Value.slice ta t.length t.length, ptrs 4] = _; rw [h4]; rfl) ((due_any gb mb s ta ao4 t.length cap4 t [(mkI x.key v x.ao x.cap x.val)] Lc _ hs HB.ok (hw.has kgb) (HM.gro ((Gro.refl _).drew.trans hw)) (HT.gro (GG.drew.trans hw)) (by omega) o4 (Nat.le_of_ble_eq_true rfl) (one_all (p := fun y : IM => NC _ .u8 y.ao y.cap y.val) (HX.gro (GG.drew.trans hw))) (its_one (x := (mkI x.key v x.ao x.cap x.val)) hb)).mono fun e w' ⟨ro, rc, Z, he, hg, _, _, hE⟩ => ⟨_, he, hg, ro, rc, by rw [ab_len (n := 0) hE (by rw [dueL_one]; show (dueX _ (mkI x.key v x.ao x.cap x.val) (owC s t x.key)).length = _; rw [hO]; exact (HB.other (y := (mkI x.key v x.ao x.cap x.val)) rfl).trans (if_pos ev))]⟩)
          case o6x3 =>
            intro ptrs w' hw hE
            obtain ⟨⟨lo5, lc5, h5⟩, _⟩ := hE
            exact opE_value rfl (run_len Try.underlying49 _ rfl _ _ _ (by exact h5) _)
          case o7x3 => exact fun _ _ _ _ => opE_move (v := .slice ao2 O.length cap2) _ rfl rfl rfl
          case o8x3 => exact fun _ _ _ _ => opE_value (v := .int .i64 ((O.length : Nat) : Int)) rfl (run_len Try.underlying24 _ rfl _ _ _ rfl _)
          case o9x3 => exact fun _ _ _ _ => opE_value (v := .bool false) rfl (run_eq_k 3 .i64 _ _ _ rfl Try.underlying3 0 ((O.length : Nat) : Int) rfl rfl false e1 _)
          case o10x3 => exact fun _ _ hw _ => opE_value (v := .agg (veA v)) rfl (ldVe0 _ rfl g2 rfl (hw.has kg2))
          case o11x3 => exact fun _ _ _ _ => opE_value (v := .pointer (some ⟨g1, 16, none⟩)) rfl (run_fld 46 _ 1 rfl g1 0 rfl 16 (by kernel_rfl))
          case o12x3 => exact fun _ _ hw _ => opE_value (v := .agg (veA x.ver)) rfl (ldItv _ rfl g1 rfl (hw.has kg1))
          case o13x3 => exact fun _ _ _ _ => opE_value (v := .bool false) rfl (run_neV _ _ _ rfl _ _ rfl rfl hv hx.ver false nev)
          case o14x3 => exact fun _ _ _ _ => opE_move (v := .bool false) _ rfl rfl rfl
          case o15x3 => exact fun _ _ _ _ => opE_move (v := .slice ao2 O.length cap2) _ rfl rfl rfl
          case o16x3 => exact fun _ _ _ _ => opE_value (v := .int .i64 ((O.length : Nat) : Int)) rfl (run_len Try.underlying24 _ rfl _ _ _ rfl _)
          case o17x3 => exact fun _ _ _ _ => opE_value (v := .bool false) rfl (run_eq_k 3 .i64 _ _ _ rfl Try.underlying3 ((O.length : Nat) : Int) 0 rfl rfl false e0 _)
          case o18x3 => exact fun _ _ _ _ => opE_pick (v := .bool false) _ _ _ rfl rfl false rfl rfl
          intro ptrs w13 GD hxE
          simp only [List.drop_succ_cons, List.drop_zero]
          replace kgb := GD.has kgb
          replace kgs := GD.has kgs
          replace kg1 := GD.has kg1
          replace kg2 := GD.has kg2
          replace kg3 := GD.has kg3
          replace HR := HR.gro ((Gro.refl _).drew.trans GD)
          replace HM := HM.gro ((Gro.refl _).drew.trans GD)
          replace GG := GG.drew.trans GD
          obtain ⟨_, _, _⟩ := hxE
          clear GD
          refine s_val 99 rfl rfl (.bool false) (run_neB 4 _ _ _ rfl false false rfl rfl Try.underlying4 false (by decide) _) ?_
          refine nr ?_; intro U h; simp only [z0, z1] at h; subst h
          refine wpList_nil ?_
          refine then_n ?_
          refine wp_cond_false rfl ?_
          refine wp_skip ?_
          refine then_n ?_
          refine wp_seq ?_
          refine wp_region_lit ?_
          refine s_val 100 rfl rfl (.pointer (some ⟨gb, 0, none⟩)) (rfl) ?_
          refine nr ?_; intro U h; simp only [z0, z1] at h; subst h
          refine s_callx 101 rfl rfl _ 21 Try.call21 rfl rfl _ rfl [.pointer (some ⟨gb, 0, none⟩), .slice none 0 0] rfl (retain_any gb mb none 0 [] Lc _ kgb HM (RK.nil _) (Nat.zero_le _)) (by rintro _ _ ⟨he, _, _, _, _, _⟩; exact ⟨_, he⟩) ?_
          rintro v w14 ⟨he, G, L2, HM2, hL2, hs2⟩
          cases he
          replace kgb := G.has kgb (fun hm => HM.nec kgb (List.mem_singleton.1 hm))
          replace kgs := G.has kgs (fun hm => HM.nec kgs (List.mem_singleton.1 hm))
          replace kg1 := G.has kg1 (fun hm => HM.nec kg1 (List.mem_singleton.1 hm))
          replace kg2 := G.has kg2 (fun hm => HM.nec kg2 (List.mem_singleton.1 hm))
          replace kg3 := G.has kg3 (fun hm => HM.nec kg3 (List.mem_singleton.1 hm))
          replace HR := HR.mp HM G
          have hg2 : ∀ p, getM L2 p = none := fun p => (hL2 p).trans (if_neg (fun h => by cases h))
          have HV2 : okV L2 := fun y hy => HB.ok y (hs2 y hy)
          replace GG := G.gro GG (fun k hk => by rw [List.mem_singleton.1 hk]; exact bmb)
          clear HM HB G
          have HM := HM2
          clear HM2
          refine nr ?_; intro U h; simp only [z0, z1] at h; subst h
          refine wpList_nil ?_
          refine then_n ?_
          refine wp_seq ?_
          cases kv0 : eqV x.ver zV
          · have nv0 := kv0
            refine wp_region_opq ?_
            intro OPS hY
            have y4 := hY 4 106 rfl
            clear hY
            refine s_val 102 rfl rfl (.pointer (some ⟨g1, 16, none⟩)) (run_fld 46 _ 1 rfl g1 0 rfl 16 (by kernel_rfl)) ?_
            refine nr ?_; intro U h; simp only [z0, z1] at h; subst h
            refine s_val 103 rfl rfl (.agg (veA x.ver)) (ldItv _ rfl g1 rfl (kg1)) ?_
            refine nr ?_; intro U h; simp only [z0, z1] at h; subst h
            refine s_val 104 rfl rfl (.agg (veA zV)) (run_bd 39 _ rfl [] rfl _ (bdV0 _)) ?_
            refine nr ?_; intro U h; simp only [z0, z1] at h; subst h
            refine s_val 105 rfl rfl (.bool false) (run_eqV _ _ _ rfl _ _ rfl rfl hx.ver zV_ok false nv0) ?_
            refine nr ?_; intro U h; simp only [z0, z1] at h; subst h
            refine s_val 106 rfl rfl (.bool false) (rfl) ?_
            refine nr ?_; intro U h; simp only [z0, z1] at h; subst h
            refine s_gvalY 107 rfl rfl y4 rfl (.pointer (some ⟨gb, 0, none⟩)) (rfl) ?_
            refine nr ?_; intro U h; simp only [z0, z1] at h; subst h
            refine s_gvalY 108 rfl rfl y4 rfl (.agg (idA s)) (ldI0 _ rfl gs rfl (kgs)) ?_
            refine nr ?_; intro U h; simp only [z0, z1] at h; subst h
            refine s_gvalY 109 rfl rfl y4 rfl (.slice ta t.length t.length) (rfl) ?_
            refine nr ?_; intro U h; simp only [z0, z1] at h; subst h
            refine s_gvalY 110 rfl rfl y4 rfl (.agg (itA x)) (ldIt0 _ rfl g1 rfl (kg1)) ?_
            refine nr ?_; intro U h; simp only [z0, z1] at h; subst h
            refine s_gbslY 111 rfl rfl y4 rfl 40 1 _ rfl [(0, .agg (itA x))] rfl ([x].flatMap kM.E).toArray 46 (bsM _ _) ?_
            intro w15 qHQ G eqHQ kqHQ
            replace kgb := G.has kgb
            replace kgs := G.has kgs
            replace kg1 := G.has kg1
            replace kg2 := G.has kg2
            replace kg3 := G.has kg3
            replace HR := HR.gro G
            replace HM := HM.gro G
            replace GG := GG.trans G
            clear G
            have HQ : RK kM w15 (some ⟨qHQ, 0, none⟩) 1 [x] := RK.blk kqHQ (one_all hx) (Nat.le_refl _)
            clear eqHQ kqHQ
            refine nr ?_; intro U h; simp only [z0, z1] at h; subst h
            refine s_gcallxY 112 rfl rfl y4 rfl _ 23 Try.call23 rfl rfl _ rfl [.pointer (some ⟨gb, 0, none⟩), .agg (idA s), .slice ta t.length t.length, .slice (some ⟨qHQ, 0, none⟩) 1 1] rfl (due_any gb mb s ta (some ⟨qHQ, 0, none⟩) t.length 1 t [x] L2 _ hs HV2 kgb HM (HT.gro GG) (by omega) HQ (Nat.le_of_ble_eq_true rfl) (one_all (HX.gro GG)) (its_one hb)) (by rintro _ _ ⟨_, _, _, he, _, _, _, _⟩; exact ⟨_, he⟩) ?_
            rintro v w16 ⟨ro, rc, Z, he, G, HZ, HO, hE⟩
            cases he
            replace kgb := G.has kgb
            replace kgs := G.has kgs
            replace kg1 := G.has kg1
            replace kg2 := G.has kg2
            replace kg3 := G.has kg3
            replace HR := HR.gro G
            replace HM := HM.gro G
            replace HQ := HQ.gro G
            replace GG := GG.trans G
            clear G
            have hZ : Z.length = O.length := ab_len hE (by rw [dueL_one]; show (dueX _ x (owC s t x.key)).length = _; rw [hO]; exact due_empty hg2 kv0)
            rw [hZ]
            clear HZ HO hE hZ
            refine nr ?_; intro U h; simp only [z0, z1] at h; subst h
            refine s_gvalY 113 rfl rfl y4 rfl (.int .i64 ((O.length : Nat) : Int)) (run_len Try.underlying49 _ rfl _ _ _ rfl _) ?_
            refine nr ?_; intro U h; simp only [z0, z1] at h; subst h
            refine s_gvalY 114 rfl rfl y4 rfl (.slice ao2 O.length cap2) (rfl) ?_
            refine nr ?_; intro U h; simp only [z0, z1] at h; subst h
            refine s_gvalY 115 rfl rfl y4 rfl (.int .i64 ((O.length : Nat) : Int)) (run_len Try.underlying24 _ rfl _ _ _ rfl _) ?_
            refine nr ?_; intro U h; simp only [z0, z1] at h; subst h
            refine s_gvalY 116 rfl rfl y4 rfl (.bool true) (run_eq_k 3 .i64 _ _ _ rfl Try.underlying3 ((O.length : Nat) : Int) ((O.length : Nat) : Int) rfl rfl true (decide_eq_true rfl) _) ?_
            refine nr ?_; intro U h; simp only [z0, z1] at h; subst h
            refine s_val 117 rfl rfl (.bool true) (rfl) ?_
            refine nr ?_; intro U h; simp only [z0, z1] at h; subst h
            refine s_val 6 rfl rfl (.bool true) (rfl) ?_
            refine nr ?_; intro U h; simp only [z0, z1] at h; subst h
            refine wpList_nil ?_
            refine then_n ?_
            refine wp_ret ?_
            refine bodyPost_ret (results_tmp Try.results7 _ _ _) rfl ?_
            exact ⟨rfl, GG⟩
          · have nv0 := kv0
            refine wp_region_opq ?_
            intro OPS hY
            have y4 := hY 4 106 rfl
            clear hY
            refine s_val 102 rfl rfl (.pointer (some ⟨g1, 16, none⟩)) (run_fld 46 _ 1 rfl g1 0 rfl 16 (by kernel_rfl)) ?_
            refine nr ?_; intro U h; simp only [z0, z1] at h; subst h
            refine s_val 103 rfl rfl (.agg (veA x.ver)) (ldItv _ rfl g1 rfl (kg1)) ?_
            refine nr ?_; intro U h; simp only [z0, z1] at h; subst h
            refine s_val 104 rfl rfl (.agg (veA zV)) (run_bd 39 _ rfl [] rfl _ (bdV0 _)) ?_
            refine nr ?_; intro U h; simp only [z0, z1] at h; subst h
            refine s_val 105 rfl rfl (.bool true) (run_eqV _ _ _ rfl _ _ rfl rfl hx.ver zV_ok true nv0) ?_
            refine nr ?_; intro U h; simp only [z0, z1] at h; subst h
            refine s_val 106 rfl rfl (.bool true) (rfl) ?_
            refine nr ?_; intro U h; simp only [z0, z1] at h; subst h
            refine s_skipY 107 rfl rfl y4 rfl ?_
            refine nr ?_; intro U h; simp only [z0, z1] at h; subst h
            refine s_skipY 108 rfl rfl y4 rfl ?_
            refine nr ?_; intro U h; simp only [z0, z1] at h; subst h
            refine s_skipY 109 rfl rfl y4 rfl ?_
            refine nr ?_; intro U h; simp only [z0, z1] at h; subst h
            refine s_skipY 110 rfl rfl y4 rfl ?_
            refine nr ?_; intro U h; simp only [z0, z1] at h; subst h
            refine s_skipY 111 rfl rfl y4 rfl ?_
            refine nr ?_; intro U h; simp only [z0, z1] at h; subst h
            refine s_skipY 112 rfl rfl y4 rfl ?_
            refine nr ?_; intro U h; simp only [z0, z1] at h; subst h
            refine s_skipY 113 rfl rfl y4 rfl ?_
            refine nr ?_; intro U h; simp only [z0, z1] at h; subst h
            refine s_skipY 114 rfl rfl y4 rfl ?_
            refine nr ?_; intro U h; simp only [z0, z1] at h; subst h
            refine s_skipY 115 rfl rfl y4 rfl ?_
            refine nr ?_; intro U h; simp only [z0, z1] at h; subst h
            refine s_skipY 116 rfl rfl y4 rfl ?_
            refine nr ?_; intro U h; simp only [z0, z1] at h; subst h
            refine s_val 117 rfl rfl (.bool true) (rfl) ?_
            refine nr ?_; intro U h; simp only [z0, z1] at h; subst h
            refine s_val 6 rfl rfl (.bool true) (rfl) ?_
            refine nr ?_; intro U h; simp only [z0, z1] at h; subst h
            refine wpList_nil ?_
            refine then_n ?_
            refine wp_ret ?_
            refine bodyPost_ret (results_tmp Try.results7 _ _ _) rfl ?_
            exact ⟨rfl, GG⟩
        · have hO0 : O.length = 0 := by have := of_decide_eq_true e0; omega
          have nev := ev
          have e1 : decide (((0 : Nat) : Int) = ((O.length : Nat) : Int)) = true := decide_eq_true (by omega)
          have HB1 := HB
          have HM1 := HM
          have kgb1 := kgb
          refine wp_region_exA (A := ?Ax4) 19 [(0, 80), (1, 81), (2, 82), (3, 83), (4, 84), (5, 85), (6, 86), (7, 87), (8, 88), (9, 89), (10, 90), (11, 91), (12, 92), (13, 93), (14, 94), (15, 95), (16, 96), (17, 97), (18, 98)] [.val (.pointer (some ⟨gb, 0, none⟩)), .val (.agg (idA s)), .val (.slice ta t.length t.length), .val (.agg (itA (mkI x.key v x.ao x.cap x.val))), rowK kM [(mkI x.key v x.ao x.cap x.val)], lenE 0, .val (.int .i64 0), .val (.slice ao2 O.length cap2), .val (.int .i64 ((O.length : Nat) : Int)), .val (.bool true), .val (.agg (veA v)), .val (.pointer (some ⟨g1, 16, none⟩)), .val (.agg (veA x.ver)), .val (.bool false), .val (.bool false), .val (.slice ao2 O.length cap2), .val (.int .i64 ((O.length : Nat) : Int)), .val (.bool true), .val (.bool true)] follows (by kernel_rfl) rfl ?hAx4 (opsA_cons ?o0x4 (opsA_cons ?o1x4 (opsA_cons ?o2x4 (opsA_cons ?o3x4 (opsA_cons ?o4x4 (opsA_cons ?o5x4 (opsA_cons ?o6x4 (opsA_cons ?o7x4 (opsA_cons ?o8x4 (opsA_cons ?o9x4 (opsA_cons ?o10x4 (opsA_cons ?o11x4 (opsA_cons ?o12x4 (opsA_cons ?o13x4 (opsA_cons ?o14x4 (opsA_cons ?o15x4 (opsA_cons ?o16x4 (opsA_cons ?o17x4 (opsA_cons ?o18x4 opsA_nil))))))))))))))))))) ?restx4
          case hAx4 =>
            intro ptrs
            simp only [full, foldSlots, filledE, postE, List.foldl_cons, List.foldl_nil, List.getD_cons_zero, List.getD_cons_succ, fill_val, fill_rowK, fill_lenE, List.set_cons_zero, List.set_cons_succ]
            exact rfl
          case o0x4 => exact fun _ _ _ _ => opE_move (v := .pointer (some ⟨gb, 0, none⟩)) _ rfl rfl rfl
          case o1x4 => exact fun _ _ hw _ => opE_value (v := .agg (idA s)) rfl (ldI0 _ rfl gs rfl (hw.has kgs))
          case o2x4 => exact fun _ _ _ _ => opE_move (v := .slice ta t.length t.length) _ rfl rfl rfl
          case o3x4 => exact fun _ _ hw _ => opE_value (v := .agg (itA (mkI x.key v x.ao x.cap x.val))) rfl (ldIt0 _ rfl g3 rfl (hw.has kg3))
          case o4x4 => exact fun _ _ _ _ => opE_bs rfl 40 _ rfl [(0, .agg (itA (mkI x.key v x.ao x.cap x.val)))] rfl (mkI x.key v x.ao x.cap x.val) (mkI_ok hx.key hv) (bsM (mkI x.key v x.ao x.cap x.val) _)
          case o5x4 =>
            intro ptrs w' hw hE
            obtain ⟨⟨ao4, cap4, h4, o4⟩, _⟩ := hE
            exact opE_call (lenE 0) rfl _ 23 Try.call23 rfl rfl _ rfl [.pointer (some ⟨gb, 0, none⟩), .agg (idA s), .slice ta t.length t.length, .slice ao4 1 cap4] (by show [Value.pointer (some ⟨gb, 0, none⟩), Value.agg (idA s), Value.slice ta t.length t.length, ptrs 4] = _; rw [h4]; rfl) ((due_any gb mb s ta ao4 t.length cap4 t [(mkI x.key v x.ao x.cap x.val)] Lc _ hs HB.ok (hw.has kgb) (HM.gro ((Gro.refl _).drew.trans hw)) (HT.gro (GG.drew.trans hw)) (by omega) o4 (Nat.le_of_ble_eq_true rfl) (one_all (p := fun y : IM => NC _ .u8 y.ao y.cap y.val) (HX.gro (GG.drew.trans hw))) (its_one (x := (mkI x.key v x.ao x.cap x.val)) hb)).mono fun e w' ⟨ro, rc, Z, he, hg, _, _, hE⟩ => ⟨_, he, hg, ro, rc, by rw [ab_len (n := 0) hE (by rw [dueL_one]; show (dueX _ (mkI x.key v x.ao x.cap x.val) (owC s t x.key)).length = _; rw [hO]; exact (HB.other (y := (mkI x.key v x.ao x.cap x.val)) rfl).trans (if_pos ev))]⟩)
          case o6x4 =>
            intro ptrs w' hw hE
            obtain ⟨⟨lo5, lc5, h5⟩, _⟩ := hE
            exact opE_value rfl (run_len Try.underlying49 _ rfl _ _ _ (by exact h5) _)
          case o7x4 => exact fun _ _ _ _ => opE_move (v := .slice ao2 O.length cap2) _ rfl rfl rfl
          case o8x4 => exact fun _ _ _ _ => opE_value (v := .int .i64 ((O.length : Nat) : Int)) rfl (run_len Try.underlying24 _ rfl _ _ _ rfl _)
          case o9x4 => exact fun _ _ _ _ => opE_value (v := .bool true) rfl (run_eq_k 3 .i64 _ _ _ rfl Try.underlying3 0 ((O.length : Nat) : Int) rfl rfl true e1 _)
          case o10x4 => exact fun _ _ hw _ => opE_value (v := .agg (veA v)) rfl (ldVe0 _ rfl g2 rfl (hw.has kg2))
          case o11x4 => exact fun _ _ _ _ => opE_value (v := .pointer (some ⟨g1, 16, none⟩)) rfl (run_fld 46 _ 1 rfl g1 0 rfl 16 (by kernel_rfl))
          case o12x4 => exact fun _ _ hw _ => opE_value (v := .agg (veA x.ver)) rfl (ldItv _ rfl g1 rfl (hw.has kg1))
          case o13x4 => exact fun _ _ _ _ => opE_value (v := .bool false) rfl (run_neV _ _ _ rfl _ _ rfl rfl hv hx.ver false nev)
          case o14x4 => exact fun _ _ _ _ => opE_move (v := .bool false) _ rfl rfl rfl
          case o15x4 => exact fun _ _ _ _ => opE_move (v := .slice ao2 O.length cap2) _ rfl rfl rfl
          case o16x4 => exact fun _ _ _ _ => opE_value (v := .int .i64 ((O.length : Nat) : Int)) rfl (run_len Try.underlying24 _ rfl _ _ _ rfl _)
          case o17x4 => exact fun _ _ _ _ => opE_value (v := .bool true) rfl (run_eq_k 3 .i64 _ _ _ rfl Try.underlying3 ((O.length : Nat) : Int) 0 rfl rfl true e0 _)
          case o18x4 => exact fun _ _ _ _ => opE_pick (v := .bool true) _ _ _ rfl rfl false rfl rfl
          intro ptrs w13 GD hxE
          simp only [List.drop_succ_cons, List.drop_zero]
          replace kgb := GD.has kgb
          replace kgs := GD.has kgs
          replace kg1 := GD.has kg1
          replace kg2 := GD.has kg2
          replace kg3 := GD.has kg3
          replace HR := HR.gro ((Gro.refl _).drew.trans GD)
          replace HM := HM.gro ((Gro.refl _).drew.trans GD)
          replace GG := GG.drew.trans GD
          obtain ⟨_, _, _⟩ := hxE
          clear GD
          refine s_val 99 rfl rfl (.bool false) (run_neB 4 _ _ _ rfl true true rfl rfl Try.underlying4 false (by decide) _) ?_
          refine nr ?_; intro U h; simp only [z0, z1] at h; subst h
          refine wpList_nil ?_
          refine then_n ?_
          refine wp_cond_false rfl ?_
          refine wp_skip ?_
          refine then_n ?_
          refine wp_seq ?_
          refine wp_region_lit ?_
          refine s_val 100 rfl rfl (.pointer (some ⟨gb, 0, none⟩)) (rfl) ?_
          refine nr ?_; intro U h; simp only [z0, z1] at h; subst h
          refine s_callx 101 rfl rfl _ 21 Try.call21 rfl rfl _ rfl [.pointer (some ⟨gb, 0, none⟩), .slice none 0 0] rfl (retain_any gb mb none 0 [] Lc _ kgb HM (RK.nil _) (Nat.zero_le _)) (by rintro _ _ ⟨he, _, _, _, _, _⟩; exact ⟨_, he⟩) ?_
          rintro v w14 ⟨he, G, L2, HM2, hL2, hs2⟩
          cases he
          replace kgb := G.has kgb (fun hm => HM.nec kgb (List.mem_singleton.1 hm))
          replace kgs := G.has kgs (fun hm => HM.nec kgs (List.mem_singleton.1 hm))
          replace kg1 := G.has kg1 (fun hm => HM.nec kg1 (List.mem_singleton.1 hm))
          replace kg2 := G.has kg2 (fun hm => HM.nec kg2 (List.mem_singleton.1 hm))
          replace kg3 := G.has kg3 (fun hm => HM.nec kg3 (List.mem_singleton.1 hm))
          replace HR := HR.mp HM G
          have hg2 : ∀ p, getM L2 p = none := fun p => (hL2 p).trans (if_neg (fun h => by cases h))
          have HV2 : okV L2 := fun y hy => HB.ok y (hs2 y hy)
          replace GG := G.gro GG (fun k hk => by rw [List.mem_singleton.1 hk]; exact bmb)
          clear HM HB G
          have HM := HM2
          clear HM2
          refine nr ?_; intro U h; simp only [z0, z1] at h; subst h
          refine wpList_nil ?_
          refine then_n ?_
          refine wp_seq ?_
          cases kv0 : eqV x.ver zV
          · have nv0 := kv0
            refine wp_region_opq ?_
            intro OPS hY
            have y4 := hY 4 106 rfl
            clear hY
            refine s_val 102 rfl rfl (.pointer (some ⟨g1, 16, none⟩)) (run_fld 46 _ 1 rfl g1 0 rfl 16 (by kernel_rfl)) ?_
            refine nr ?_; intro U h; simp only [z0, z1] at h; subst h
            refine s_val 103 rfl rfl (.agg (veA x.ver)) (ldItv _ rfl g1 rfl (kg1)) ?_
            refine nr ?_; intro U h; simp only [z0, z1] at h; subst h
            refine s_val 104 rfl rfl (.agg (veA zV)) (run_bd 39 _ rfl [] rfl _ (bdV0 _)) ?_
            refine nr ?_; intro U h; simp only [z0, z1] at h; subst h
            refine s_val 105 rfl rfl (.bool false) (run_eqV _ _ _ rfl _ _ rfl rfl hx.ver zV_ok false nv0) ?_
            refine nr ?_; intro U h; simp only [z0, z1] at h; subst h
            refine s_val 106 rfl rfl (.bool false) (rfl) ?_
            refine nr ?_; intro U h; simp only [z0, z1] at h; subst h
            refine s_gvalY 107 rfl rfl y4 rfl (.pointer (some ⟨gb, 0, none⟩)) (rfl) ?_
            refine nr ?_; intro U h; simp only [z0, z1] at h; subst h
            refine s_gvalY 108 rfl rfl y4 rfl (.agg (idA s)) (ldI0 _ rfl gs rfl (kgs)) ?_
            refine nr ?_; intro U h; simp only [z0, z1] at h; subst h
            refine s_gvalY 109 rfl rfl y4 rfl (.slice ta t.length t.length) (rfl) ?_
            refine nr ?_; intro U h; simp only [z0, z1] at h; subst h
            refine s_gvalY 110 rfl rfl y4 rfl (.agg (itA x)) (ldIt0 _ rfl g1 rfl (kg1)) ?_
            refine nr ?_; intro U h; simp only [z0, z1] at h; subst h
            refine s_gbslY 111 rfl rfl y4 rfl 40 1 _ rfl [(0, .agg (itA x))] rfl ([x].flatMap kM.E).toArray 46 (bsM _ _) ?_
            intro w15 qHQ G eqHQ kqHQ
            replace kgb := G.has kgb
            replace kgs := G.has kgs
            replace kg1 := G.has kg1
            replace kg2 := G.has kg2
            replace kg3 := G.has kg3
            replace HR := HR.gro G
            replace HM := HM.gro G
            replace GG := GG.trans G
            clear G
            have HQ : RK kM w15 (some ⟨qHQ, 0, none⟩) 1 [x] := RK.blk kqHQ (one_all hx) (Nat.le_refl _)
            clear eqHQ kqHQ
            refine nr ?_; intro U h; simp only [z0, z1] at h; subst h
            refine s_gcallxY 112 rfl rfl y4 rfl _ 23 Try.call23 rfl rfl _ rfl [.pointer (some ⟨gb, 0, none⟩), .agg (idA s), .slice ta t.length t.length, .slice (some ⟨qHQ, 0, none⟩) 1 1] rfl (due_any gb mb s ta (some ⟨qHQ, 0, none⟩) t.length 1 t [x] L2 _ hs HV2 kgb HM (HT.gro GG) (by omega) HQ (Nat.le_of_ble_eq_true rfl) (one_all (HX.gro GG)) (its_one hb)) (by rintro _ _ ⟨_, _, _, he, _, _, _, _⟩; exact ⟨_, he⟩) ?_
            rintro v w16 ⟨ro, rc, Z, he, G, HZ, HO, hE⟩
            cases he
            replace kgb := G.has kgb
            replace kgs := G.has kgs
            replace kg1 := G.has kg1
            replace kg2 := G.has kg2
            replace kg3 := G.has kg3
            replace HR := HR.gro G
            replace HM := HM.gro G
            replace HQ := HQ.gro G
            replace GG := GG.trans G
            clear G
            have hZ : Z.length = O.length := ab_len hE (by rw [dueL_one]; show (dueX _ x (owC s t x.key)).length = _; rw [hO]; exact due_empty hg2 kv0)
            rw [hZ]
            clear HZ HO hE hZ
            refine nr ?_; intro U h; simp only [z0, z1] at h; subst h
            refine s_gvalY 113 rfl rfl y4 rfl (.int .i64 ((O.length : Nat) : Int)) (run_len Try.underlying49 _ rfl _ _ _ rfl _) ?_
            refine nr ?_; intro U h; simp only [z0, z1] at h; subst h
            refine s_gvalY 114 rfl rfl y4 rfl (.slice ao2 O.length cap2) (rfl) ?_
            refine nr ?_; intro U h; simp only [z0, z1] at h; subst h
            refine s_gvalY 115 rfl rfl y4 rfl (.int .i64 ((O.length : Nat) : Int)) (run_len Try.underlying24 _ rfl _ _ _ rfl _) ?_
            refine nr ?_; intro U h; simp only [z0, z1] at h; subst h
            refine s_gvalY 116 rfl rfl y4 rfl (.bool true) (run_eq_k 3 .i64 _ _ _ rfl Try.underlying3 ((O.length : Nat) : Int) ((O.length : Nat) : Int) rfl rfl true (decide_eq_true rfl) _) ?_
            refine nr ?_; intro U h; simp only [z0, z1] at h; subst h
            refine s_val 117 rfl rfl (.bool true) (rfl) ?_
            refine nr ?_; intro U h; simp only [z0, z1] at h; subst h
            refine s_val 6 rfl rfl (.bool true) (rfl) ?_
            refine nr ?_; intro U h; simp only [z0, z1] at h; subst h
            refine wpList_nil ?_
            refine then_n ?_
            refine wp_ret ?_
            refine bodyPost_ret (results_tmp Try.results7 _ _ _) rfl ?_
            exact ⟨rfl, GG⟩
          · have nv0 := kv0
            refine wp_region_opq ?_
            intro OPS hY
            have y4 := hY 4 106 rfl
            clear hY
            refine s_val 102 rfl rfl (.pointer (some ⟨g1, 16, none⟩)) (run_fld 46 _ 1 rfl g1 0 rfl 16 (by kernel_rfl)) ?_
            refine nr ?_; intro U h; simp only [z0, z1] at h; subst h
            refine s_val 103 rfl rfl (.agg (veA x.ver)) (ldItv _ rfl g1 rfl (kg1)) ?_
            refine nr ?_; intro U h; simp only [z0, z1] at h; subst h
            refine s_val 104 rfl rfl (.agg (veA zV)) (run_bd 39 _ rfl [] rfl _ (bdV0 _)) ?_
            refine nr ?_; intro U h; simp only [z0, z1] at h; subst h
            refine s_val 105 rfl rfl (.bool true) (run_eqV _ _ _ rfl _ _ rfl rfl hx.ver zV_ok true nv0) ?_
            refine nr ?_; intro U h; simp only [z0, z1] at h; subst h
            refine s_val 106 rfl rfl (.bool true) (rfl) ?_
            refine nr ?_; intro U h; simp only [z0, z1] at h; subst h
            refine s_skipY 107 rfl rfl y4 rfl ?_
            refine nr ?_; intro U h; simp only [z0, z1] at h; subst h
            refine s_skipY 108 rfl rfl y4 rfl ?_
            refine nr ?_; intro U h; simp only [z0, z1] at h; subst h
            refine s_skipY 109 rfl rfl y4 rfl ?_
            refine nr ?_; intro U h; simp only [z0, z1] at h; subst h
            refine s_skipY 110 rfl rfl y4 rfl ?_
            refine nr ?_; intro U h; simp only [z0, z1] at h; subst h
            refine s_skipY 111 rfl rfl y4 rfl ?_
            refine nr ?_; intro U h; simp only [z0, z1] at h; subst h
            refine s_skipY 112 rfl rfl y4 rfl ?_
            refine nr ?_; intro U h; simp only [z0, z1] at h; subst h
            refine s_skipY 113 rfl rfl y4 rfl ?_
            refine nr ?_; intro U h; simp only [z0, z1] at h; subst h
            refine s_skipY 114 rfl rfl y4 rfl ?_
            refine nr ?_; intro U h; simp only [z0, z1] at h; subst h
            refine s_skipY 115 rfl rfl y4 rfl ?_
            refine nr ?_; intro U h; simp only [z0, z1] at h; subst h
            refine s_skipY 116 rfl rfl y4 rfl ?_
            refine nr ?_; intro U h; simp only [z0, z1] at h; subst h
            refine s_val 117 rfl rfl (.bool true) (rfl) ?_
            refine nr ?_; intro U h; simp only [z0, z1] at h; subst h
            refine s_val 6 rfl rfl (.bool true) (rfl) ?_
            refine nr ?_; intro U h; simp only [z0, z1] at h; subst h
            refine wpList_nil ?_
            refine then_n ?_
            refine wp_ret ?_
            refine bodyPost_ret (results_tmp Try.results7 _ _ _) rfl ?_
            exact ⟨rfl, GG⟩
    · have hit : i < O.length := by have := of_decide_eq_true t1; omega
      refine wp_region_lit ?_
      refine s_val 39 rfl rfl (.bool true) (run_lssT 3 _ _ _ rfl ((i : Nat) : Int) ((O.length : Nat) : Int) rfl rfl true t1 _) ?_
      refine nr ?_; intro U h; simp only [z0, z1] at h; subst h
      refine wpList_nil ?_
      refine then_n ?_
      refine wp_seq ?_
      refine wp_cond_true rfl ?_
      refine wp_skip ?_
      refine then_n ?_
      refine wp_seq ?_
      refine wp_block ?_
      refine wp_seq ?_
      refine wp_region_lit ?_
      refine s_val 40 rfl rfl (.int .i64 ((i : Nat) : Int)) (rfl) ?_
      refine nr ?_; intro U h; simp only [z0, z1] at h; subst h
      refine s_val 41 rfl rfl (.pointer (pK kI ao2 i 0)) (run_ixK rIk (HR) _ _ rfl rfl i rfl (by omega)) ?_
      refine nr ?_; intro U h; simp only [z0, z1] at h; subst h
      refine s_val 42 rfl rfl (.agg (idA (O.getD i 0))) (run_ldKI (HR) _ rfl i rfl (by omega)) ?_
      refine nr ?_; intro U h; simp only [z0, z1] at h; subst h
      refine s_alloc 12 rfl rfl 23 rfl _ zero23 (idA 0) rfl ?_
      intro w8 g3 G eg3 kg3
      have bg3 := size_base GG eg3
      have dgbg3 := lt_new kgb eg3
      have dgsg3 := lt_new kgs eg3
      have dg1g3 := lt_new kg1 eg3
      have dg2g3 := lt_new kg2 eg3
      have dHRg3 := HR.ne eg3
      have dHMg3 := HM.ne eg3
      replace kgb := G.has kgb
      replace kgs := G.has kgs
      replace kg1 := G.has kg1
      replace kg2 := G.has kg2
      replace HR := HR.gro G
      replace HM := HM.gro G
      replace GG := GG.trans G
      clear G
      clear eg3
      refine nr ?_; intro U h; simp only [z0, z1] at h; subst h
      refine s_val 11 rfl rfl (.int .i64 ((i : Nat) : Int)) (rfl) ?_
      refine nr ?_; intro U h; simp only [z0, z1] at h; subst h
      refine s_store rfl rfl 23 _ _ rfl g3 0 rfl (.agg (idA (O.getD i 0))) rfl 23 _ kg3 (idA (O.getD i 0)) rfl (size23' _) (idA_fit _ _) (idA_one _) (idA (O.getD i 0)) (splice_whole _ _ (idA_sz _ _)) ?_
      intro w9 St
      replace kgb := St.has (by omega) kgb
      replace kgs := St.has (by omega) kgs
      replace kg1 := St.has (by omega) kg1
      replace kg2 := St.has (by omega) kg2
      replace HR := HR.st St dHRg3
      replace HM := HM.st St dHMg3
      replace GG := GG.store St bg3
      replace kg3 := St.new
      clear St
      refine wpList_nil ?_
      refine then_n ?_
      refine wp_seq ?_
      refine wp_seq ?_
      cases kv : eqV x.ver zV
      · have nv := kv
        have zq : decide ((((O.length - i) : Nat) : Int) = ((O.length - i : Nat) : Int)) = true := decide_eq_true rfl
        refine wp_region_opq ?_
        intro OPS hY
        have y12 := hY 12 55 rfl
        clear hY
        refine s_val 43 rfl rfl (.pointer (some ⟨gb, 0, none⟩)) (rfl) ?_
        refine nr ?_; intro U h; simp only [z0, z1] at h; subst h
        refine s_val 44 rfl rfl (.agg (idA s)) (ldI0 _ rfl gs rfl (kgs)) ?_
        refine nr ?_; intro U h; simp only [z0, z1] at h; subst h
        refine s_val 45 rfl rfl (.slice ta t.length t.length) (rfl) ?_
        refine nr ?_; intro U h; simp only [z0, z1] at h; subst h
        refine s_val 46 rfl rfl (.agg (itA x)) (ldIt0 _ rfl g1 rfl (kg1)) ?_
        refine nr ?_; intro U h; simp only [z0, z1] at h; subst h
        refine s_bsl 47 rfl rfl 40 1 _ rfl [(0, .agg (itA x))] rfl ([x].flatMap kM.E).toArray 46 (bsM _ _) ?_
        intro w10 qHQ G eqHQ kqHQ
        replace kgb := G.has kgb
        replace kgs := G.has kgs
        replace kg1 := G.has kg1
        replace kg2 := G.has kg2
        replace kg3 := G.has kg3
        replace HR := HR.gro G
        replace HM := HM.gro G
        replace GG := GG.trans G
        clear G
        have HQ : RK kM w10 (some ⟨qHQ, 0, none⟩) 1 [x] := RK.blk kqHQ (one_all hx) (Nat.le_refl _)
        clear eqHQ kqHQ
        refine nr ?_; intro U h; simp only [z0, z1] at h; subst h
        refine s_callx 48 rfl rfl _ 23 Try.call23 rfl rfl _ rfl [.pointer (some ⟨gb, 0, none⟩), .agg (idA s), .slice ta t.length t.length, .slice (some ⟨qHQ, 0, none⟩) 1 1] rfl (due_any gb mb s ta (some ⟨qHQ, 0, none⟩) t.length 1 t [x] Lc _ hs HB.ok kgb HM (HT.gro GG) (by omega) HQ (Nat.le_of_ble_eq_true rfl) (one_all (HX.gro GG)) (its_one hb)) (by rintro _ _ ⟨_, _, _, he, _, _, _, _⟩; exact ⟨_, he⟩) ?_
        rintro v w11 ⟨ro, rc, Z, he, G, HZ, HO, hE⟩
        cases he
        replace kgb := G.has kgb
        replace kgs := G.has kgs
        replace kg1 := G.has kg1
        replace kg2 := G.has kg2
        replace kg3 := G.has kg3
        replace HR := HR.gro G
        replace HM := HM.gro G
        replace HQ := HQ.gro G
        replace GG := GG.trans G
        clear G
        have hZ : Z.length = (O.length - i) := ab_len hE (by rw [dueL_one]; show (dueX _ x (owC s t x.key)).length = _; rw [hO, HB.len hOn hi, if_neg (by rw [kv]; decide)])
        rw [hZ]
        clear HZ HO hE hZ
        refine nr ?_; intro U h; simp only [z0, z1] at h; subst h
        refine s_val 49 rfl rfl (.int .i64 (((O.length - i) : Nat) : Int)) (run_len Try.underlying49 _ rfl _ _ _ rfl _) ?_
        refine nr ?_; intro U h; simp only [z0, z1] at h; subst h
        refine s_val 50 rfl rfl (.slice ao2 O.length cap2) (rfl) ?_
        refine nr ?_; intro U h; simp only [z0, z1] at h; subst h
        refine s_val 51 rfl rfl (.int .i64 ((O.length : Nat) : Int)) (run_len Try.underlying24 _ rfl _ _ _ rfl _) ?_
        refine nr ?_; intro U h; simp only [z0, z1] at h; subst h
        refine s_val 52 rfl rfl (.int .i64 ((i : Nat) : Int)) (rfl) ?_
        refine nr ?_; intro U h; simp only [z0, z1] at h; subst h
        refine s_val 53 rfl rfl (.int .i64 ((O.length - i : Nat) : Int)) (run_subI 3 _ _ _ rfl ((O.length : Nat) : Int) ((i : Nat) : Int) ((O.length - i : Nat) : Int) rfl rfl (by omega) (by omega) (by omega) _) ?_
        refine nr ?_; intro U h; simp only [z0, z1] at h; subst h
        refine s_val 54 rfl rfl (.bool false) (run_neq_k 3 .i64 _ _ _ rfl Try.underlying3 (((O.length - i) : Nat) : Int) ((O.length - i : Nat) : Int) rfl rfl false zq _) ?_
        refine nr ?_; intro U h; simp only [z0, z1] at h; subst h
        refine s_val 55 rfl rfl (.bool false) (rfl) ?_
        refine nr ?_; intro U h; simp only [z0, z1] at h; subst h
        refine s_skipY 56 rfl rfl y12 rfl ?_
        refine nr ?_; intro U h; simp only [z0, z1] at h; subst h
        refine s_skipY 57 rfl rfl y12 rfl ?_
        refine nr ?_; intro U h; simp only [z0, z1] at h; subst h
        refine s_skipY 58 rfl rfl y12 rfl ?_
        refine nr ?_; intro U h; simp only [z0, z1] at h; subst h
        refine s_skipY 59 rfl rfl y12 rfl ?_
        refine nr ?_; intro U h; simp only [z0, z1] at h; subst h
        refine s_val 60 rfl rfl (.bool false) (rfl) ?_
        refine nr ?_; intro U h; simp only [z0, z1] at h; subst h
        refine wpList_nil ?_
        refine then_n ?_
        refine wp_cond_false rfl ?_
        refine wp_skip ?_
        refine then_n ?_
        clear HQ
        refine wp_region_lit ?_
        refine s_val 61 rfl rfl (.pointer (some ⟨gb, 0, none⟩)) (rfl) ?_
        refine nr ?_; intro U h; simp only [z0, z1] at h; subst h
        refine s_val 62 rfl rfl (.agg (idA (O.getD i 0))) (ldI0 _ rfl g3 rfl (kg3)) ?_
        refine nr ?_; intro U h; simp only [z0, z1] at h; subst h
        refine s_val 63 rfl rfl (.pointer (some ⟨g1, 0, none⟩)) (run_fld 46 _ 0 rfl g1 0 rfl 0 (by kernel_rfl)) ?_
        refine nr ?_; intro U h; simp only [z0, z1] at h; subst h
        refine s_val 64 rfl rfl (.agg (idA x.key)) (ldItk _ rfl g1 rfl (kg1)) ?_
        refine nr ?_; intro U h; simp only [z0, z1] at h; subst h
        refine s_val 65 rfl rfl (.pointer (some ⟨g1, 16, none⟩)) (run_fld 46 _ 1 rfl g1 0 rfl 16 (by kernel_rfl)) ?_
        refine nr ?_; intro U h; simp only [z0, z1] at h; subst h
        refine s_val 66 rfl rfl (.agg (veA x.ver)) (ldItv _ rfl g1 rfl (kg1)) ?_
        refine nr ?_; intro U h; simp only [z0, z1] at h; subst h
        refine s_callx 67 rfl rfl _ 19 Try.call19 rfl rfl _ rfl [.pointer (some ⟨gb, 0, none⟩), .agg (idA (O.getD i 0)), .agg (idA x.key), .agg (veA x.ver)] rfl (mark_any gb mb (O.getD i 0) x.key x.ver Lc _ (atI HR hit) hx.key hx.ver kgb HM) (by rintro _ _ ⟨he, _, _⟩; exact ⟨_, he⟩) ?_
        rintro v w12 ⟨he, G, HM2⟩
        cases he
        replace kgb := G.has kgb (fun hm => HM.nec kgb (List.mem_singleton.1 hm))
        replace kgs := G.has kgs (fun hm => HM.nec kgs (List.mem_singleton.1 hm))
        replace kg1 := G.has kg1 (fun hm => HM.nec kg1 (List.mem_singleton.1 hm))
        replace kg2 := G.has kg2 (fun hm => HM.nec kg2 (List.mem_singleton.1 hm))
        replace kg3 := G.has kg3 (fun hm => HM.nec kg3 (List.mem_singleton.1 hm))
        replace HR := HR.mp HM G
        have HBn := HB.step HM.kn hx hit
        replace GG := G.gro GG (fun k hk => by rw [List.mem_singleton.1 hk]; exact bmb)
        clear HM HB G
        have HM := HM2
        have HB := HBn
        clear HM2 HBn
        refine nr ?_; intro U h; simp only [z0, z1] at h; subst h
        refine wpList_nil ?_
        refine blk_n ?_
        refine then_n ?_
        refine wp_region_lit ?_
        refine s_val 68 rfl rfl (.int .i64 ((i + 1 : Nat) : Int)) (run_addI 3 _ _ _ rfl ((i : Nat) : Int) 1 ((i + 1 : Nat) : Int) rfl rfl (by omega) (by omega) (by omega) _) ?_
        refine nr ?_; intro U h; simp only [z0, z1] at h; subst h
        refine s_val 38 rfl rfl (.int .i64 ((i + 1 : Nat) : Int)) (rfl) ?_
        refine nr ?_; intro U h; simp only [z0, z1] at h; subst h
        refine wpList_nil ?_
        refine then_n ?_
        exact ⟨_, by omega, i + 1, _, (fun kz => ([us1 0, .int .i64 ((i : Nat) : Int), .pointer (some ⟨g3, 0, none⟩), .bool true, .int .i64 ((i : Nat) : Int), .pointer (pK kI ao2 i 0), .agg (idA (O.getD i 0)), .pointer (some ⟨gb, 0, none⟩), .agg (idA s), .slice ta t.length t.length, .agg (itA x), .slice (some ⟨qHQ, 0, none⟩) 1 1, .slice ro (O.length - i) rc, .int .i64 (((O.length - i) : Nat) : Int), .slice ao2 O.length cap2, .int .i64 ((O.length : Nat) : Int), .int .i64 ((i : Nat) : Int), .int .i64 ((O.length - i : Nat) : Int), .bool false, .bool false, undef, undef, undef, undef, .bool false, .pointer (some ⟨gb, 0, none⟩), .agg (idA (O.getD i 0)), .pointer (some ⟨g1, 0, none⟩), .agg (idA x.key), .pointer (some ⟨g1, 16, none⟩), .agg (veA x.ver), .tuple #[], .int .i64 ((i + 1 : Nat) : Int)] : List Value).getD kz undef), rfl, rfl, GG, kgb, kgs, kg1, kg2, HR, HM, by omega, HB⟩
      · have nv := kv
        have zq : decide (((0 : Nat) : Int) = ((O.length - i : Nat) : Int)) = false := decide_eq_false (by omega)
        refine wp_region_opq ?_
        intro OPS hY
        have y12 := hY 12 55 rfl
        clear hY
        refine s_val 43 rfl rfl (.pointer (some ⟨gb, 0, none⟩)) (rfl) ?_
        refine nr ?_; intro U h; simp only [z0, z1] at h; subst h
        refine s_val 44 rfl rfl (.agg (idA s)) (ldI0 _ rfl gs rfl (kgs)) ?_
        refine nr ?_; intro U h; simp only [z0, z1] at h; subst h
        refine s_val 45 rfl rfl (.slice ta t.length t.length) (rfl) ?_
        refine nr ?_; intro U h; simp only [z0, z1] at h; subst h
        refine s_val 46 rfl rfl (.agg (itA x)) (ldIt0 _ rfl g1 rfl (kg1)) ?_
        refine nr ?_; intro U h; simp only [z0, z1] at h; subst h
        refine s_bsl 47 rfl rfl 40 1 _ rfl [(0, .agg (itA x))] rfl ([x].flatMap kM.E).toArray 46 (bsM _ _) ?_
        intro w10 qHQ G eqHQ kqHQ
        replace kgb := G.has kgb
        replace kgs := G.has kgs
        replace kg1 := G.has kg1
        replace kg2 := G.has kg2
        replace kg3 := G.has kg3
        replace HR := HR.gro G
        replace HM := HM.gro G
        replace GG := GG.trans G
        clear G
        have HQ : RK kM w10 (some ⟨qHQ, 0, none⟩) 1 [x] := RK.blk kqHQ (one_all hx) (Nat.le_refl _)
        clear eqHQ kqHQ
        refine nr ?_; intro U h; simp only [z0, z1] at h; subst h
        refine s_callx 48 rfl rfl _ 23 Try.call23 rfl rfl _ rfl [.pointer (some ⟨gb, 0, none⟩), .agg (idA s), .slice ta t.length t.length, .slice (some ⟨qHQ, 0, none⟩) 1 1] rfl (due_any gb mb s ta (some ⟨qHQ, 0, none⟩) t.length 1 t [x] Lc _ hs HB.ok kgb HM (HT.gro GG) (by omega) HQ (Nat.le_of_ble_eq_true rfl) (one_all (HX.gro GG)) (its_one hb)) (by rintro _ _ ⟨_, _, _, he, _, _, _, _⟩; exact ⟨_, he⟩) ?_
        rintro v w11 ⟨ro, rc, Z, he, G, HZ, HO, hE⟩
        cases he
        replace kgb := G.has kgb
        replace kgs := G.has kgs
        replace kg1 := G.has kg1
        replace kg2 := G.has kg2
        replace kg3 := G.has kg3
        replace HR := HR.gro G
        replace HM := HM.gro G
        replace HQ := HQ.gro G
        replace GG := GG.trans G
        clear G
        have hZ : Z.length = 0 := ab_len hE (by rw [dueL_one]; show (dueX _ x (owC s t x.key)).length = _; rw [hO, HB.len hOn hi, if_pos kv])
        rw [hZ]
        clear HZ HO hE hZ
        refine nr ?_; intro U h; simp only [z0, z1] at h; subst h
        refine s_val 49 rfl rfl (.int .i64 ((0 : Nat) : Int)) (run_len Try.underlying49 _ rfl _ _ _ rfl _) ?_
        refine nr ?_; intro U h; simp only [z0, z1] at h; subst h
        refine s_val 50 rfl rfl (.slice ao2 O.length cap2) (rfl) ?_
        refine nr ?_; intro U h; simp only [z0, z1] at h; subst h
        refine s_val 51 rfl rfl (.int .i64 ((O.length : Nat) : Int)) (run_len Try.underlying24 _ rfl _ _ _ rfl _) ?_
        refine nr ?_; intro U h; simp only [z0, z1] at h; subst h
        refine s_val 52 rfl rfl (.int .i64 ((i : Nat) : Int)) (rfl) ?_
        refine nr ?_; intro U h; simp only [z0, z1] at h; subst h
        refine s_val 53 rfl rfl (.int .i64 ((O.length - i : Nat) : Int)) (run_subI 3 _ _ _ rfl ((O.length : Nat) : Int) ((i : Nat) : Int) ((O.length - i : Nat) : Int) rfl rfl (by omega) (by omega) (by omega) _) ?_
        refine nr ?_; intro U h; simp only [z0, z1] at h; subst h
        refine s_val 54 rfl rfl (.bool true) (run_neq_k 3 .i64 _ _ _ rfl Try.underlying3 ((0 : Nat) : Int) ((O.length - i : Nat) : Int) rfl rfl true zq _) ?_
        refine nr ?_; intro U h; simp only [z0, z1] at h; subst h
        refine s_val 55 rfl rfl (.bool true) (rfl) ?_
        refine nr ?_; intro U h; simp only [z0, z1] at h; subst h
        refine s_gvalY 56 rfl rfl y12 rfl (.pointer (some ⟨g1, 16, none⟩)) (run_fld 46 _ 1 rfl g1 0 rfl 16 (by kernel_rfl)) ?_
        refine nr ?_; intro U h; simp only [z0, z1] at h; subst h
        refine s_gvalY 57 rfl rfl y12 rfl (.agg (veA x.ver)) (ldItv _ rfl g1 rfl (kg1)) ?_
        refine nr ?_; intro U h; simp only [z0, z1] at h; subst h
        refine s_gvalY 58 rfl rfl y12 rfl (.agg (veA zV)) (run_bd 39 _ rfl [] rfl _ (bdV0 _)) ?_
        refine nr ?_; intro U h; simp only [z0, z1] at h; subst h
        refine s_gvalY 59 rfl rfl y12 rfl (.bool false) (run_neV _ _ _ rfl _ _ rfl rfl hx.ver zV_ok false nv) ?_
        refine nr ?_; intro U h; simp only [z0, z1] at h; subst h
        refine s_val 60 rfl rfl (.bool false) (rfl) ?_
        refine nr ?_; intro U h; simp only [z0, z1] at h; subst h
        refine wpList_nil ?_
        refine then_n ?_
        refine wp_cond_false rfl ?_
        refine wp_skip ?_
        refine then_n ?_
        clear HQ
        refine wp_region_lit ?_
        refine s_val 61 rfl rfl (.pointer (some ⟨gb, 0, none⟩)) (rfl) ?_
        refine nr ?_; intro U h; simp only [z0, z1] at h; subst h
        refine s_val 62 rfl rfl (.agg (idA (O.getD i 0))) (ldI0 _ rfl g3 rfl (kg3)) ?_
        refine nr ?_; intro U h; simp only [z0, z1] at h; subst h
        refine s_val 63 rfl rfl (.pointer (some ⟨g1, 0, none⟩)) (run_fld 46 _ 0 rfl g1 0 rfl 0 (by kernel_rfl)) ?_
        refine nr ?_; intro U h; simp only [z0, z1] at h; subst h
        refine s_val 64 rfl rfl (.agg (idA x.key)) (ldItk _ rfl g1 rfl (kg1)) ?_
        refine nr ?_; intro U h; simp only [z0, z1] at h; subst h
        refine s_val 65 rfl rfl (.pointer (some ⟨g1, 16, none⟩)) (run_fld 46 _ 1 rfl g1 0 rfl 16 (by kernel_rfl)) ?_
        refine nr ?_; intro U h; simp only [z0, z1] at h; subst h
        refine s_val 66 rfl rfl (.agg (veA x.ver)) (ldItv _ rfl g1 rfl (kg1)) ?_
        refine nr ?_; intro U h; simp only [z0, z1] at h; subst h
        refine s_callx 67 rfl rfl _ 19 Try.call19 rfl rfl _ rfl [.pointer (some ⟨gb, 0, none⟩), .agg (idA (O.getD i 0)), .agg (idA x.key), .agg (veA x.ver)] rfl (mark_any gb mb (O.getD i 0) x.key x.ver Lc _ (atI HR hit) hx.key hx.ver kgb HM) (by rintro _ _ ⟨he, _, _⟩; exact ⟨_, he⟩) ?_
        rintro v w12 ⟨he, G, HM2⟩
        cases he
        replace kgb := G.has kgb (fun hm => HM.nec kgb (List.mem_singleton.1 hm))
        replace kgs := G.has kgs (fun hm => HM.nec kgs (List.mem_singleton.1 hm))
        replace kg1 := G.has kg1 (fun hm => HM.nec kg1 (List.mem_singleton.1 hm))
        replace kg2 := G.has kg2 (fun hm => HM.nec kg2 (List.mem_singleton.1 hm))
        replace kg3 := G.has kg3 (fun hm => HM.nec kg3 (List.mem_singleton.1 hm))
        replace HR := HR.mp HM G
        have HBn := HB.step HM.kn hx hit
        replace GG := G.gro GG (fun k hk => by rw [List.mem_singleton.1 hk]; exact bmb)
        clear HM HB G
        have HM := HM2
        have HB := HBn
        clear HM2 HBn
        refine nr ?_; intro U h; simp only [z0, z1] at h; subst h
        refine wpList_nil ?_
        refine blk_n ?_
        refine then_n ?_
        refine wp_region_lit ?_
        refine s_val 68 rfl rfl (.int .i64 ((i + 1 : Nat) : Int)) (run_addI 3 _ _ _ rfl ((i : Nat) : Int) 1 ((i + 1 : Nat) : Int) rfl rfl (by omega) (by omega) (by omega) _) ?_
        refine nr ?_; intro U h; simp only [z0, z1] at h; subst h
        refine s_val 38 rfl rfl (.int .i64 ((i + 1 : Nat) : Int)) (rfl) ?_
        refine nr ?_; intro U h; simp only [z0, z1] at h; subst h
        refine wpList_nil ?_
        refine then_n ?_
        exact ⟨_, by omega, i + 1, _, (fun kz => ([us1 0, .int .i64 ((i : Nat) : Int), .pointer (some ⟨g3, 0, none⟩), .bool true, .int .i64 ((i : Nat) : Int), .pointer (pK kI ao2 i 0), .agg (idA (O.getD i 0)), .pointer (some ⟨gb, 0, none⟩), .agg (idA s), .slice ta t.length t.length, .agg (itA x), .slice (some ⟨qHQ, 0, none⟩) 1 1, .slice ro 0 rc, .int .i64 ((0 : Nat) : Int), .slice ao2 O.length cap2, .int .i64 ((O.length : Nat) : Int), .int .i64 ((i : Nat) : Int), .int .i64 ((O.length - i : Nat) : Int), .bool true, .bool true, .pointer (some ⟨g1, 16, none⟩), .agg (veA x.ver), .agg (veA zV), .bool false, .bool false, .pointer (some ⟨gb, 0, none⟩), .agg (idA (O.getD i 0)), .pointer (some ⟨g1, 0, none⟩), .agg (idA x.key), .pointer (some ⟨g1, 16, none⟩), .agg (veA x.ver), .tuple #[], .int .i64 ((i + 1 : Nat) : Int)] : List Value).getD kz undef), rfl, rfl, GG, kgb, kgs, kg1, kg2, HR, HM, by omega, HB⟩
  · refine wp_region_lit ?_
    refine s_val 14 rfl rfl (.slice ao l.length cap) (rfl) ?_
    refine nr ?_; intro U h; simp only [z0, z1] at h; subst h
    refine s_val 15 rfl rfl (.int .i64 ((l.length : Nat) : Int)) (run_len Try.underlying24 _ rfl _ _ _ rfl _) ?_
    refine nr ?_; intro U h; simp only [z0, z1] at h; subst h
    refine s_val 16 rfl rfl (.bool true) (run_eq_k 3 .i64 _ _ _ rfl Try.underlying3 ((l.length : Nat) : Int) 0 rfl rfl true t0 _) ?_
    refine nr ?_; intro U h; simp only [z0, z1] at h; subst h
    refine wpList_nil ?_
    refine then_n ?_
    refine wp_cond_true rfl ?_
    refine wp_seq ?_
    refine wp_region_lit ?_
    refine s_callv 17 rfl rfl _ 11 Try.call11 rfl rfl _ rfl [] rfl (fixed_any _) ?_
    intro w3 G
    replace kg1 := G.has kg1
    replace kg2 := G.has kg2
    replace GG := GG.trans G
    clear G
    refine nr ?_; intro U h; simp only [z0, z1] at h; subst h
    refine s_val 6 rfl rfl (.bool true) (rfl) ?_
    refine nr ?_; intro U h; simp only [z0, z1] at h; subst h
    refine wpList_nil ?_
    refine then_n ?_
    refine wp_ret ?_
    refine then_r ?_
    refine bodyPost_ret (results_tmp Try.results7 _ _ _) rfl ?_
    exact ⟨rfl, GG⟩
end Go.Proofs.Ytjahegiopigblaa
