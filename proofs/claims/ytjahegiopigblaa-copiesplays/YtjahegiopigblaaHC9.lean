/- The document's book: Mark, Retain. -/
import Derived.Test.YtjahegiopigblaaHC6
namespace Go.Proofs.Ytjahegiopigblaa
open Go.RowKit
def NM.isN (y : NM) (i k : Nat) : Bool := decide (y.id = i) && decide (y.key = k)
theorem isN_iff {x : NM} {i k : Nat} : x.isN i k = true ↔ x.id = i ∧ x.key = k := by
  unfold NM.isN
  rw [Bool.and_eq_true, decide_eq_true_iff, decide_eq_true_iff]
/-- What is noted: the last one counts. -/
def lastN (N : List NM) (i k : Nat) : Option NM := (N.filter fun y => y.isN i k).getLast?
def verO : Option NM → VM
  | none => zV
  | some y => y.ver
def lastV (N : List NM) (i k : Nat) : VM := verO (lastN N i k)
def markN (N : List NM) (x : NM) : List NM := N.filter (fun y => !y.isN x.id x.key) ++ [x]
def retN (N : List NM) (l : List Nat) : List NM := N.filter fun y => decide (y.id ∈ l)
theorem lastV_mark (N : List NM) (x : NM) (i k : Nat) : lastV (markN N x) i k = if i = x.id ∧ k = x.key then x.ver else lastV N i k := by
  unfold lastV lastN markN
  rw [List.filter_append, List.filter_filter]
  by_cases c : i = x.id ∧ k = x.key
  · obtain ⟨rfl, rfl⟩ := c
    have hx : x.isN x.id x.key = true := isN_iff.2 ⟨rfl, rfl⟩
    have e1 : [x].filter (fun y => y.isN x.id x.key) = [x] := List.filter_cons_of_pos (p := fun y : NM => y.isN x.id x.key) hx
    rw [if_pos ⟨rfl, rfl⟩, e1, List.getLast?_append]
    rfl
  · have hx : ¬ x.isN i k = true := fun h => c ⟨(isN_iff.1 h).1.symm, (isN_iff.1 h).2.symm⟩
    have e1 : [x].filter (fun y => y.isN i k) = [] := List.filter_cons_of_neg (p := fun y : NM => y.isN i k) hx
    rw [if_neg c, e1, List.append_nil]
    congr 2
    refine List.filter_congr fun y _ => ?_
    cases hy : y.isN i k with
    | false => rfl
    | true =>
      obtain ⟨e1, e2⟩ := isN_iff.1 hy
      have : y.isN x.id x.key = false := by
        cases h : y.isN x.id x.key with
        | false => rfl
        | true =>
          obtain ⟨e3, e4⟩ := isN_iff.1 h
          exact absurd ⟨e1.symm.trans e3, e2.symm.trans e4⟩ c
      rw [this]
      rfl
theorem lastV_ret (N : List NM) (l : List Nat) (i k : Nat) : lastV (retN N l) i k = if i ∈ l then lastV N i k else zV := by
  unfold lastV lastN retN
  rw [List.filter_filter]
  by_cases c : i ∈ l
  · rw [if_pos c]
    congr 2
    refine List.filter_congr fun y _ => ?_
    cases hy : y.isN i k with
    | false => rfl
    | true =>
      obtain ⟨e1, _⟩ := isN_iff.1 hy
      rw [e1]
      simpa using c
  · rw [if_neg c, List.filter_eq_nil_iff.2 fun y _ h => ?_]
    · rfl
    · rw [Bool.and_eq_true] at h
      obtain ⟨e1, _⟩ := isN_iff.1 h.1
      rw [e1] at h
      exact c (by simpa using h.2)
theorem lastV_step (N : List NM) (i k j : Nat) (hj : j < N.length) : lastV (N.take (j + 1)) i k = if (N.getD j zN).isN i k = true then (N.getD j zN).ver else lastV (N.take j) i k := by
  unfold lastV lastN
  rw [take_at zN N j hj, List.filter_append]
  by_cases c : (N.getD j zN).isN i k = true
  · rw [if_pos c, List.filter_cons_of_pos (p := fun y : NM => y.isN i k) c, List.filter_nil, List.getLast?_append]
    rfl
  · rw [if_neg c, List.filter_cons_of_neg (p := fun y : NM => y.isN i k) c, List.filter_nil, List.append_nil]
theorem flt_yes {p : NM → Bool} {N : List NM} {j : Nat} (hj : j < N.length) (h : p (N.getD j zN) = true) : (N.take (j + 1)).filter p = (N.take j).filter p ++ [N.getD j zN] := by
  rw [take_at zN N j hj, List.filter_append, List.filter_cons_of_pos h, List.filter_nil]
theorem flt_no {p : NM → Bool} {N : List NM} {j : Nat} (hj : j < N.length) (h : p (N.getD j zN) = false) : (N.take (j + 1)).filter p = (N.take j).filter p := by
  rw [take_at zN N j hj, List.filter_append, List.filter_cons_of_neg (by rw [h]; decide), List.filter_nil, List.append_nil]
theorem flt_len (p : NM → Bool) (N : List NM) (j : Nat) : ((N.take j).filter p).length ≤ j := by
  refine Nat.le_trans (List.length_filter_le _ _) ?_
  rw [List.length_take]
  omega
theorem atNt {w : World} {ao : Option Addr} {cap : Nat} {l : List NM} (h : RK knt w ao cap l) {j : Nat} (hj : j < l.length) : (l.getD j zN).ok := h.at hj
/-- The document's book. -/
def RBk (w : World) (C g : Nat) (N : List NM) : Prop := ∃ ao cap, w.heap[g]? = some (.cells (rbA ao N.length cap) 37 (0, 0)) ∧ OW knt 79 w C ao cap N
theorem RBk.gro {w w' : World} {C g : Nat} {N : List NM} (h : RBk w C g N) (G : Gro w w') : RBk w' C g N := by
  obtain ⟨ao, cap, h1, h2⟩ := h
  exact ⟨ao, cap, G.has h1, h2.gro G⟩
theorem RBk.map {w w' : World} {C g mb : Nat} {N : List NM} {L : List ((Nat × Nat) × VM)} (h : RBk w C g N) (HM : TB w mb L) (G : GroS [mb] w w') : RBk w' C g N := by
  obtain ⟨ao, cap, h1, h2⟩ := h
  exact ⟨ao, cap, G.has h1 (fun hm => HM.nec h1 (List.mem_singleton.1 hm)), h2.gros G fun k hk hm => by
    obtain ⟨cur, hc⟩ := (h2.own.at _ hk).2
    exact HM.nec hc (List.mem_singleton.1 hm)⟩
set_option maxRecDepth 100000 in
set_option maxHeartbeats 4000000 in
theorem rmark_any0 (g C i k : Nat) (v : VM) (bo : Option Addr) (bc : Nat) (Nl : List NM) (w : World) (hi : i < top) (hk : k < top) (hv : v.ok) (hC : C ≤ w.heap.size) (hnl : Nl.length ≤ 1000000) (kg : w.heap[g]? = some (.cells (rbA bo Nl.length bc) 37 (0, 0))) (HN : RK knt w bo bc Nl) : Calls Try.prog 20 #[.pointer (some ⟨g, 0, none⟩), .agg (idA i), .agg (idA k), .agg (veA v)] w (fun e w' => e = .returned (.tuple #[]) ∧ GroS [g] w w' ∧ RBk w' C g (markN Nl ⟨i, k, v⟩)) := by
  refine s_enter Try.func20 rfl Try.ntmps20 [.pointer (some ⟨g, 0, none⟩), .agg (idA i), .agg (idA k), .agg (veA v)] [.pointer (some ⟨g, 0, none⟩), .agg (idA i), .agg (idA k), .agg (veA v), undef, undef, undef, undef, undef, undef, undef, undef, undef, undef, undef, undef, undef, undef, undef, undef, undef, undef, undef, undef, undef, undef, undef, undef, undef, undef, undef, undef, undef, undef, undef, undef, undef, undef, undef, undef, undef, undef, undef, undef, undef, undef, undef, undef, undef, undef, undef, undef, undef, undef, undef, undef, undef, undef, undef, undef, undef] rfl ?_
  have GG := Gro.refl w
  refine wp_seq ?_
  refine wp_region_lit ?_
  refine s_box 5 rfl rfl 23 _ rfl _ rfl (idA i) rfl ?_
  intro w1 g1 G eg1 kg1
  have bg1 := size_base GG eg1
  replace kg := G.has kg
  replace GG := GG.trans G
  clear G
  clear eg1
  refine nr ?_; intro U h; simp only [z0, z1] at h; subst h
  refine s_box 6 rfl rfl 23 _ rfl _ rfl (idA k) rfl ?_
  intro w2 g2 G eg2 kg2
  have bg2 := size_base GG eg2
  replace kg := G.has kg
  replace kg1 := G.has kg1
  replace GG := GG.trans G
  clear G
  clear eg2
  refine nr ?_; intro U h; simp only [z0, z1] at h; subst h
  refine s_box 7 rfl rfl 39 _ rfl _ rfl (veA v) rfl ?_
  intro w3 g3 G eg3 kg3
  have bg3 := size_base GG eg3
  replace kg := G.has kg
  replace kg1 := G.has kg1
  replace kg2 := G.has kg2
  replace GG := GG.trans G
  clear G
  clear eg3
  refine nr ?_; intro U h; simp only [z0, z1] at h; subst h
  refine wpList_nil ?_
  refine then_n ?_
  refine wp_seq ?_
  refine wp_region_lit ?_
  refine s_val 8 rfl rfl (.slice none 0 0) (rfl) ?_
  refine nr ?_; intro U h; simp only [z0, z1] at h; subst h
  refine wpList_nil ?_
  refine then_n ?_
  refine wp_seq ?_
  refine wp_seq ?_
  refine wp_region_lit ?_
  refine s_val 9 rfl rfl (.int .i64 0) (rfl) ?_
  refine nr ?_; intro U h; simp only [z0, z1] at h; subst h
  refine wpList_nil ?_
  refine then_n ?_
  refine wp_block ?_
  refine wp_loopN (fun mz az wv => ∃ (q : Nat) (oo : Option Addr) (oc : Nat) (us1 : Nat → Value), mz = Nl.length - q ∧ az = ⟨[.pointer (some ⟨g, 0, none⟩), .agg (idA i), .agg (idA k), .agg (veA v), undef, .pointer (some ⟨g1, 0, none⟩), .pointer (some ⟨g2, 0, none⟩), .pointer (some ⟨g3, 0, none⟩), .slice oo ((Nl.take q).filter (fun y : NM => !y.isN i k)).length oc, .int .i64 ((q : Nat) : Int), us1 0, us1 1, us1 2, us1 3, us1 4, us1 5, us1 6, us1 7, us1 8, us1 9, us1 10, us1 11, us1 12, us1 13, us1 14, us1 15, us1 16, us1 17, us1 18, us1 19, us1 20, us1 21, us1 22, us1 23, us1 24, us1 25, us1 26, us1 27, us1 28, us1 29, us1 30, us1 31, us1 32, us1 33, us1 34, us1 35, us1 36, us1 37, us1 38, us1 39, us1 40, undef, undef, undef, undef, undef, undef, undef, undef, undef, undef].toArray, []⟩ ∧ Gro w wv ∧ wv.heap[g]? = some (.cells (rbA bo Nl.length bc) 37 (0, 0)) ∧ wv.heap[g1]? = some (.cells (idA i) 23 (0, 0)) ∧ wv.heap[g2]? = some (.cells (idA k) 23 (0, 0)) ∧ wv.heap[g3]? = some (.cells (veA v) 39 (0, 0)) ∧ (OW knt 79 wv w.heap.size oo oc ((Nl.take q).filter (fun y : NM => !y.isN i k))) ∧ q ≤ Nl.length) ?_ _ ⟨0, none, 0, (fun kz => ([undef, undef, undef, undef, undef, undef, undef, undef, undef, undef, undef, undef, undef, undef, undef, undef, undef, undef, undef, undef, undef, undef, undef, undef, undef, undef, undef, undef, undef, undef, undef, undef, undef, undef, undef, undef, undef, undef, undef, undef, undef] : List Value).getD kz undef), rfl, rfl, GG, kg, kg1, kg2, kg3, OW.nil _ _, Nat.zero_le _⟩
  clear GG kg kg1 kg2 kg3
  rintro mz az wv ⟨q, oo, oc, us1, rfl, rfl, GG, kg, kg1, kg2, kg3, HO, hq⟩
  refine wp_seq ?_
  refine wp_seq ?_
  cases t1 : decide (((q : Nat) : Int) < ((Nl.length : Nat) : Int))
  · have hql : q = Nl.length := by have := of_decide_eq_false t1; omega
    refine wp_region_lit ?_
    refine s_val 10 rfl rfl (.int .i64 ((q : Nat) : Int)) (rfl) ?_
    refine nr ?_; intro U h; simp only [z0, z1] at h; subst h
    refine s_val 11 rfl rfl (.pointer (some ⟨g, 0, none⟩)) (rfl) ?_
    refine nr ?_; intro U h; simp only [z0, z1] at h; subst h
    refine s_val 12 rfl rfl (.pointer (some ⟨g, 0, none⟩)) (run_nc _ rfl _ rfl) ?_
    refine nr ?_; intro U h; simp only [z0, z1] at h; subst h
    refine s_val 13 rfl rfl (.pointer (some ⟨g, 0, none⟩)) (run_fld 37 _ 0 rfl g 0 rfl 0 (by kernel_rfl)) ?_
    refine nr ?_; intro U h; simp only [z0, z1] at h; subst h
    refine s_val 14 rfl rfl (.slice bo Nl.length bc) (ldRb _ rfl g rfl (kg)) ?_
    refine nr ?_; intro U h; simp only [z0, z1] at h; subst h
    refine s_val 15 rfl rfl (.int .i64 ((Nl.length : Nat) : Int)) (run_len Try.underlying35 _ rfl _ _ _ rfl _) ?_
    refine nr ?_; intro U h; simp only [z0, z1] at h; subst h
    refine s_val 16 rfl rfl (.bool false) (run_lssT 3 _ _ _ rfl ((q : Nat) : Int) ((Nl.length : Nat) : Int) rfl rfl false t1 _) ?_
    refine nr ?_; intro U h; simp only [z0, z1] at h; subst h
    refine wpList_nil ?_
    refine then_n ?_
    refine wp_cond_false rfl ?_
    refine wp_exit ?_
    refine then_x ?_
    refine then_x ?_
    refine blk_x ?_
    refine then_n ?_
    refine wp_region_lit ?_
    refine s_val 51 rfl rfl (.pointer (some ⟨g, 0, none⟩)) (rfl) ?_
    refine nr ?_; intro U h; simp only [z0, z1] at h; subst h
    refine s_val 52 rfl rfl (.slice oo ((Nl.take q).filter (fun y : NM => !y.isN i k)).length oc) (rfl) ?_
    refine nr ?_; intro U h; simp only [z0, z1] at h; subst h
    refine s_val 53 rfl rfl (.agg (idA i)) (ldI0 _ rfl g1 rfl (kg1)) ?_
    refine nr ?_; intro U h; simp only [z0, z1] at h; subst h
    refine s_val 54 rfl rfl (.agg (idA k)) (ldI0 _ rfl g2 rfl (kg2)) ?_
    refine nr ?_; intro U h; simp only [z0, z1] at h; subst h
    refine s_val 55 rfl rfl (.agg (veA v)) (ldVe0 _ rfl g3 rfl (kg3)) ?_
    refine nr ?_; intro U h; simp only [z0, z1] at h; subst h
    refine s_val 56 rfl rfl (.agg (ntA (⟨i, k, v⟩ : NM))) (run_bd 79 _ rfl [(0, .agg (idA i)), (1, .agg (idA k)), (2, .agg (veA v))] rfl _ (bdNt i k v _)) ?_
    refine nr ?_; intro U h; simp only [z0, z1] at h; subst h
    refine s_bsl 57 rfl rfl 35 1 _ rfl [(0, .agg (ntA (⟨i, k, v⟩ : NM)))] rfl ([((⟨i, k, v⟩ : NM) : NM)].flatMap knt.E).toArray 79 (bsnt35 _ _) ?_
    intro w4 qHB G eqHB kqHB
    replace kg := G.has kg
    replace kg1 := G.has kg1
    replace kg2 := G.has kg2
    replace kg3 := G.has kg3
    replace HO := HO.gro G
    replace GG := GG.trans G
    clear G
    have HB : RK knt w4 (some ⟨qHB, 0, none⟩) 1 [(⟨i, k, v⟩ : NM)] := RK.blk kqHB (one_all (show NM.ok _ from ⟨hi, hk, hv⟩)) (Nat.le_refl _)
    clear eqHB kqHB
    refine nr ?_; intro U h; simp only [z0, z1] at h; subst h
    have hbd : (((Nl.take q).filter (fun y : NM => !y.isN i k)).length + 1) * 56 ≤ 140737488355328 := by have := flt_len (fun y : NM => !y.isN i k) Nl q; omega
    refine s_appK rnt35 (by decide) 58 rfl rfl _ _ rfl rfl HO rfl HB hbd GG.size ?_
    intro oo2 oc2 w5 HO2 G KP
    replace kg := G.has kg (HO.own.ne kg (by decide))
    replace kg1 := G.has kg1 (HO.own.ne kg1 (by decide))
    replace kg2 := G.has kg2 (HO.own.ne kg2 (by decide))
    replace kg3 := G.has kg3 (HO.own.ne kg3 (by decide))
    replace GG := G.gro GG HO.own.base
    clear HO
    have HO := HO2
    clear HO2 KP G HB
    refine nr ?_; intro U h; simp only [z0, z1] at h; subst h
    refine s_val 59 rfl rfl (.pointer (some ⟨g, 0, none⟩)) (run_nc _ rfl _ rfl) ?_
    refine nr ?_; intro U h; simp only [z0, z1] at h; subst h
    refine s_val 60 rfl rfl (.pointer (some ⟨g, 0, none⟩)) (run_fld 37 _ 0 rfl g 0 rfl 0 (by kernel_rfl)) ?_
    refine nr ?_; intro U h; simp only [z0, z1] at h; subst h
    have hgo := HO.own.ne kg (by decide)
    refine s_store rfl rfl 35 _ _ rfl g 0 rfl (.slice oo2 (((Nl.take q).filter (fun y : NM => !y.isN i k)) ++ [(⟨i, k, v⟩ : NM)]).length oc2) rfl 37 _ kg #[.slice oo2 (((Nl.take q).filter (fun y : NM => !y.isN i k)) ++ [(⟨i, k, v⟩ : NM)]).length oc2] rfl siNts (Nat.le_refl _) (sl_one _ _ _) (rbA oo2 (((Nl.take q).filter (fun y : NM => !y.isN i k)) ++ [(⟨i, k, v⟩ : NM)]).length oc2) rfl ?_
    intro w6 St
    replace HO := HO.st St hgo
    have GS := (GroS.of (S := [g]) GG).st St (.inr (by simp))
    have kg2 := St.new
    clear St
    refine wpList_nil ?_
    refine post_n (results_none Try.results20 _ _ _) rfl ?_
    rw [hql, List.take_length] at HO kg2
    exact ⟨rfl, GS, _, _, kg2, HO.mono hC⟩
  · have hqt : q < Nl.length := by have := of_decide_eq_true t1; omega
    refine wp_region_lit ?_
    refine s_val 10 rfl rfl (.int .i64 ((q : Nat) : Int)) (rfl) ?_
    refine nr ?_; intro U h; simp only [z0, z1] at h; subst h
    refine s_val 11 rfl rfl (.pointer (some ⟨g, 0, none⟩)) (rfl) ?_
    refine nr ?_; intro U h; simp only [z0, z1] at h; subst h
    refine s_val 12 rfl rfl (.pointer (some ⟨g, 0, none⟩)) (run_nc _ rfl _ rfl) ?_
    refine nr ?_; intro U h; simp only [z0, z1] at h; subst h
    refine s_val 13 rfl rfl (.pointer (some ⟨g, 0, none⟩)) (run_fld 37 _ 0 rfl g 0 rfl 0 (by kernel_rfl)) ?_
    refine nr ?_; intro U h; simp only [z0, z1] at h; subst h
    refine s_val 14 rfl rfl (.slice bo Nl.length bc) (ldRb _ rfl g rfl (kg)) ?_
    refine nr ?_; intro U h; simp only [z0, z1] at h; subst h
    refine s_val 15 rfl rfl (.int .i64 ((Nl.length : Nat) : Int)) (run_len Try.underlying35 _ rfl _ _ _ rfl _) ?_
    refine nr ?_; intro U h; simp only [z0, z1] at h; subst h
    refine s_val 16 rfl rfl (.bool true) (run_lssT 3 _ _ _ rfl ((q : Nat) : Int) ((Nl.length : Nat) : Int) rfl rfl true t1 _) ?_
    refine nr ?_; intro U h; simp only [z0, z1] at h; subst h
    refine wpList_nil ?_
    refine then_n ?_
    refine wp_cond_true rfl ?_
    refine wp_skip ?_
    refine then_n ?_
    refine wp_seq ?_
    refine wp_block ?_
    refine wp_seq ?_
    cases k1 : decide ((Nl.getD q zN).id = i)
    · have hp : (fun y : NM => !y.isN i k) (Nl.getD q zN) = true := by show (!(decide _ && decide _)) = _; rw [k1]; rfl
      refine wp_region_exA (A := ?Ax1) 21 [(0, 19), (1, 20), (2, 21), (3, 22), (4, 23), (5, 24), (6, 25), (7, 26), (8, 27), (9, 28), (10, 29), (11, 30), (12, 31), (13, 32), (14, 33), (15, 34), (16, 35), (17, 36), (18, 37), (19, 38), (20, 39)] [.val (.pointer (some ⟨g, 0, none⟩)), .val (.pointer (some ⟨g, 0, none⟩)), .val (.pointer (some ⟨g, 0, none⟩)), .val (.slice bo Nl.length bc), .val (.int .i64 ((q : Nat) : Int)), .val (.pointer (pK knt bo q 0)), .val (.pointer (pK knt bo q 0)), .val (.agg (idA (Nl.getD q zN).id)), .val (.agg (idA i)), .val (.bool true), .val (.bool true), .val undef, .val undef, .val undef, .val undef, .val undef, .val undef, .val undef, .val undef, .val undef, .val undef] follows (by kernel_rfl) rfl ?hAx1 (opsA_cons ?o0x1 (opsA_cons ?o1x1 (opsA_cons ?o2x1 (opsA_cons ?o3x1 (opsA_cons ?o4x1 (opsA_cons ?o5x1 (opsA_cons ?o6x1 (opsA_cons ?o7x1 (opsA_cons ?o8x1 (opsA_cons ?o9x1 (opsA_cons ?o10x1 (opsA_cons ?o11x1 (opsA_cons ?o12x1 (opsA_cons ?o13x1 (opsA_cons ?o14x1 (opsA_cons ?o15x1 (opsA_cons ?o16x1 (opsA_cons ?o17x1 (opsA_cons ?o18x1 (opsA_cons ?o19x1 (opsA_cons ?o20x1 opsA_nil))))))))))))))))))))) ?restx1
      case hAx1 =>
        intro ptrs
        simp only [full, foldSlots, filledE, postE, List.foldl_cons, List.foldl_nil, List.getD_cons_zero, List.getD_cons_succ, fill_val, List.set_cons_zero, List.set_cons_succ]
        exact rfl
      case o0x1 => exact fun _ _ _ _ => opE_move (v := .pointer (some ⟨g, 0, none⟩)) _ rfl rfl rfl
      case o1x1 => exact fun _ _ _ _ => opE_value (v := .pointer (some ⟨g, 0, none⟩)) rfl (run_nc _ rfl _ rfl)
      case o2x1 => exact fun _ _ _ _ => opE_value (v := .pointer (some ⟨g, 0, none⟩)) rfl (run_fld 37 _ 0 rfl g 0 rfl 0 (by kernel_rfl))
      case o3x1 => exact fun _ _ hw _ => opE_value (v := .slice bo Nl.length bc) rfl (ldRb _ rfl g rfl (hw.has kg))
      case o4x1 => exact fun _ _ _ _ => opE_move (v := .int .i64 ((q : Nat) : Int)) _ rfl rfl rfl
      case o5x1 => exact fun _ _ hw _ => opE_value (v := .pointer (pK knt bo q 0)) rfl (run_ixK rnt35 (((HN.gro GG)).gro ((Gro.refl _).drew.trans hw)) _ _ rfl rfl q rfl hqt)
      case o6x1 => exact fun _ _ hw _ => opE_value (v := .pointer (pK knt bo q 0)) rfl (run_fdK (((HN.gro GG)).gro ((Gro.refl _).drew.trans hw)) 79 _ 0 0 (fdnt_0 _) rfl q rfl hqt)
      case o7x1 => exact fun _ _ hw _ => opE_value (v := .agg (idA (Nl.getD q zN).id)) rfl (rldNti (((HN.gro GG)).gro ((Gro.refl _).drew.trans hw)) _ rfl q rfl hqt)
      case o8x1 => exact fun _ _ hw _ => opE_value (v := .agg (idA i)) rfl (ldI0 _ rfl g1 rfl (hw.has kg1))
      case o9x1 => exact fun _ _ _ _ => opE_value (v := .bool true) rfl (run_neI _ _ _ rfl _ _ rfl rfl (atNt HN hqt).id hi true k1)
      case o10x1 => exact fun _ _ _ _ => opE_move (v := .bool true) _ rfl rfl rfl
      case o11x1 => exact fun _ _ _ _ => opE_skip rfl
      case o12x1 => exact fun _ _ _ _ => opE_skip rfl
      case o13x1 => exact fun _ _ _ _ => opE_skip rfl
      case o14x1 => exact fun _ _ _ _ => opE_skip rfl
      case o15x1 => exact fun _ _ _ _ => opE_skip rfl
      case o16x1 => exact fun _ _ _ _ => opE_skip rfl
      case o17x1 => exact fun _ _ _ _ => opE_skip rfl
      case o18x1 => exact fun _ _ _ _ => opE_skip rfl
      case o19x1 => exact fun _ _ _ _ => opE_skip rfl
      case o20x1 => exact fun _ _ _ _ => opE_skip rfl
      intro ptrs w4 GD hxE
      simp only [List.drop_succ_cons, List.drop_zero]
      replace kg := GD.has kg
      replace kg1 := GD.has kg1
      replace kg2 := GD.has kg2
      replace kg3 := GD.has kg3
      replace HO := HO.gro ((Gro.refl _).drew.trans GD)
      replace GG := GG.drew.trans GD
      clear GD
      refine s_val 40 rfl rfl (.bool true) (rfl) ?_
      refine nr ?_; intro U h; simp only [z0, z1] at h; subst h
      refine wpList_nil ?_
      refine then_n ?_
      refine wp_cond_true rfl ?_
      refine wp_region_lit ?_
      refine s_val 41 rfl rfl (.slice oo ((Nl.take q).filter (fun y : NM => !y.isN i k)).length oc) (rfl) ?_
      refine nr ?_; intro U h; simp only [z0, z1] at h; subst h
      refine s_val 42 rfl rfl (.pointer (some ⟨g, 0, none⟩)) (rfl) ?_
      refine nr ?_; intro U h; simp only [z0, z1] at h; subst h
      refine s_val 43 rfl rfl (.pointer (some ⟨g, 0, none⟩)) (run_nc _ rfl _ rfl) ?_
      refine nr ?_; intro U h; simp only [z0, z1] at h; subst h
      refine s_val 44 rfl rfl (.pointer (some ⟨g, 0, none⟩)) (run_fld 37 _ 0 rfl g 0 rfl 0 (by kernel_rfl)) ?_
      refine nr ?_; intro U h; simp only [z0, z1] at h; subst h
      refine s_val 45 rfl rfl (.slice bo Nl.length bc) (ldRb _ rfl g rfl (kg)) ?_
      refine nr ?_; intro U h; simp only [z0, z1] at h; subst h
      refine s_val 46 rfl rfl (.int .i64 ((q : Nat) : Int)) (rfl) ?_
      refine nr ?_; intro U h; simp only [z0, z1] at h; subst h
      refine s_val 47 rfl rfl (.pointer (pK knt bo q 0)) (run_ixK rnt35 ((HN.gro GG)) _ _ rfl rfl q rfl hqt) ?_
      refine nr ?_; intro U h; simp only [z0, z1] at h; subst h
      refine s_val 48 rfl rfl (.agg (ntA (Nl.getD q zN))) (rldNt0 ((HN.gro GG)) _ rfl q rfl hqt) ?_
      refine nr ?_; intro U h; simp only [z0, z1] at h; subst h
      refine s_bsl 49 rfl rfl 35 1 _ rfl [(0, .agg (ntA (Nl.getD q zN)))] rfl ([((Nl.getD q zN) : NM)].flatMap knt.E).toArray 79 (bsnt35 _ _) ?_
      intro w5 qHB G eqHB kqHB
      replace kg := G.has kg
      replace kg1 := G.has kg1
      replace kg2 := G.has kg2
      replace kg3 := G.has kg3
      replace HO := HO.gro G
      replace GG := GG.trans G
      clear G
      have HB : RK knt w5 (some ⟨qHB, 0, none⟩) 1 [(Nl.getD q zN)] := RK.blk kqHB (one_all (atNt HN hqt)) (Nat.le_refl _)
      clear eqHB kqHB
      refine nr ?_; intro U h; simp only [z0, z1] at h; subst h
      have hbd : (((Nl.take q).filter (fun y : NM => !y.isN i k)).length + 1) * 56 ≤ 140737488355328 := by have := flt_len (fun y : NM => !y.isN i k) Nl q; omega
      refine s_appK rnt35 (by decide) 50 rfl rfl _ _ rfl rfl HO rfl HB hbd GG.size ?_
      intro oo2 oc2 w6 HO2 G KP
      replace kg := G.has kg (HO.own.ne kg (by decide))
      replace kg1 := G.has kg1 (HO.own.ne kg1 (by decide))
      replace kg2 := G.has kg2 (HO.own.ne kg2 (by decide))
      replace kg3 := G.has kg3 (HO.own.ne kg3 (by decide))
      replace GG := G.gro GG HO.own.base
      clear HO
      have HO := HO2
      clear HO2 KP G HB
      refine nr ?_; intro U h; simp only [z0, z1] at h; subst h
      refine s_val 8 rfl rfl (.slice oo2 (((Nl.take q).filter (fun y : NM => !y.isN i k)) ++ [(Nl.getD q zN)]).length oc2) (rfl) ?_
      refine nr ?_; intro U h; simp only [z0, z1] at h; subst h
      refine wpList_nil ?_
      refine blk_n ?_
      refine then_n ?_
      refine wp_region_lit ?_
      refine s_val 17 rfl rfl (.int .i64 ((q : Nat) : Int)) (rfl) ?_
      refine nr ?_; intro U h; simp only [z0, z1] at h; subst h
      refine s_val 18 rfl rfl (.int .i64 ((q + 1 : Nat) : Int)) (run_addI 3 _ _ _ rfl ((q : Nat) : Int) 1 ((q + 1 : Nat) : Int) rfl rfl (by omega) (by omega) (by omega) _) ?_
      refine nr ?_; intro U h; simp only [z0, z1] at h; subst h
      refine s_val 9 rfl rfl (.int .i64 ((q + 1 : Nat) : Int)) (rfl) ?_
      refine nr ?_; intro U h; simp only [z0, z1] at h; subst h
      refine wpList_nil ?_
      refine then_n ?_
      exact ⟨_, by omega, q + 1, oo2, oc2, (fun kz => ([.int .i64 ((q : Nat) : Int), .pointer (some ⟨g, 0, none⟩), .pointer (some ⟨g, 0, none⟩), .pointer (some ⟨g, 0, none⟩), .slice bo Nl.length bc, .int .i64 ((Nl.length : Nat) : Int), .bool true, .int .i64 ((q : Nat) : Int), .int .i64 ((q + 1 : Nat) : Int), .pointer (some ⟨g, 0, none⟩), .pointer (some ⟨g, 0, none⟩), .pointer (some ⟨g, 0, none⟩), .slice bo Nl.length bc, .int .i64 ((q : Nat) : Int), .pointer (pK knt bo q 0), .pointer (pK knt bo q 0), .agg (idA (Nl.getD q zN).id), .agg (idA i), .bool true, .bool true, undef, undef, undef, undef, undef, undef, undef, undef, undef, undef, .bool true, .slice oo ((Nl.take q).filter (fun y : NM => !y.isN i k)).length oc, .pointer (some ⟨g, 0, none⟩), .pointer (some ⟨g, 0, none⟩), .pointer (some ⟨g, 0, none⟩), .slice bo Nl.length bc, .int .i64 ((q : Nat) : Int), .pointer (pK knt bo q 0), .agg (ntA (Nl.getD q zN)), .slice (some ⟨qHB, 0, none⟩) 1 1, .slice oo2 (((Nl.take q).filter (fun y : NM => !y.isN i k)) ++ [(Nl.getD q zN)]).length oc2] : List Value).getD kz undef), rfl, (by rw [flt_yes hqt hp]; first | done | rfl), GG, kg, kg1, kg2, kg3, (by rw [flt_yes hqt hp]; exact HO), by omega⟩
    · cases k2 : decide ((Nl.getD q zN).key = k)
      · have hp : (fun y : NM => !y.isN i k) (Nl.getD q zN) = true := by show (!(decide _ && decide _)) = _; rw [k1, k2]; rfl
        refine wp_region_exA (A := ?Ax2) 21 [(0, 19), (1, 20), (2, 21), (3, 22), (4, 23), (5, 24), (6, 25), (7, 26), (8, 27), (9, 28), (10, 29), (11, 30), (12, 31), (13, 32), (14, 33), (15, 34), (16, 35), (17, 36), (18, 37), (19, 38), (20, 39)] [.val (.pointer (some ⟨g, 0, none⟩)), .val (.pointer (some ⟨g, 0, none⟩)), .val (.pointer (some ⟨g, 0, none⟩)), .val (.slice bo Nl.length bc), .val (.int .i64 ((q : Nat) : Int)), .val (.pointer (pK knt bo q 0)), .val (.pointer (pK knt bo q 0)), .val (.agg (idA (Nl.getD q zN).id)), .val (.agg (idA i)), .val (.bool false), .val (.bool false), .val (.pointer (some ⟨g, 0, none⟩)), .val (.pointer (some ⟨g, 0, none⟩)), .val (.pointer (some ⟨g, 0, none⟩)), .val (.slice bo Nl.length bc), .val (.int .i64 ((q : Nat) : Int)), .val (.pointer (pK knt bo q 0)), .val (.pointer (pK knt bo q 16)), .val (.agg (idA (Nl.getD q zN).key)), .val (.agg (idA k)), .val (.bool true)] follows (by kernel_rfl) rfl ?hAx2 (opsA_cons ?o0x2 (opsA_cons ?o1x2 (opsA_cons ?o2x2 (opsA_cons ?o3x2 (opsA_cons ?o4x2 (opsA_cons ?o5x2 (opsA_cons ?o6x2 (opsA_cons ?o7x2 (opsA_cons ?o8x2 (opsA_cons ?o9x2 (opsA_cons ?o10x2 (opsA_cons ?o11x2 (opsA_cons ?o12x2 (opsA_cons ?o13x2 (opsA_cons ?o14x2 (opsA_cons ?o15x2 (opsA_cons ?o16x2 (opsA_cons ?o17x2 (opsA_cons ?o18x2 (opsA_cons ?o19x2 (opsA_cons ?o20x2 opsA_nil))))))))))))))))))))) ?restx2
        case hAx2 =>
          intro ptrs
          simp only [full, foldSlots, filledE, postE, List.foldl_cons, List.foldl_nil, List.getD_cons_zero, List.getD_cons_succ, fill_val, List.set_cons_zero, List.set_cons_succ]
          exact rfl
        case o0x2 => exact fun _ _ _ _ => opE_move (v := .pointer (some ⟨g, 0, none⟩)) _ rfl rfl rfl
        case o1x2 => exact fun _ _ _ _ => opE_value (v := .pointer (some ⟨g, 0, none⟩)) rfl (run_nc _ rfl _ rfl)
        case o2x2 => exact fun _ _ _ _ => opE_value (v := .pointer (some ⟨g, 0, none⟩)) rfl (run_fld 37 _ 0 rfl g 0 rfl 0 (by kernel_rfl))
        case o3x2 => exact fun _ _ hw _ => opE_value (v := .slice bo Nl.length bc) rfl (ldRb _ rfl g rfl (hw.has kg))
        case o4x2 => exact fun _ _ _ _ => opE_move (v := .int .i64 ((q : Nat) : Int)) _ rfl rfl rfl
        case o5x2 => exact fun _ _ hw _ => opE_value (v := .pointer (pK knt bo q 0)) rfl (run_ixK rnt35 (((HN.gro GG)).gro ((Gro.refl _).drew.trans hw)) _ _ rfl rfl q rfl hqt)
        case o6x2 => exact fun _ _ hw _ => opE_value (v := .pointer (pK knt bo q 0)) rfl (run_fdK (((HN.gro GG)).gro ((Gro.refl _).drew.trans hw)) 79 _ 0 0 (fdnt_0 _) rfl q rfl hqt)
        case o7x2 => exact fun _ _ hw _ => opE_value (v := .agg (idA (Nl.getD q zN).id)) rfl (rldNti (((HN.gro GG)).gro ((Gro.refl _).drew.trans hw)) _ rfl q rfl hqt)
        case o8x2 => exact fun _ _ hw _ => opE_value (v := .agg (idA i)) rfl (ldI0 _ rfl g1 rfl (hw.has kg1))
        case o9x2 => exact fun _ _ _ _ => opE_value (v := .bool false) rfl (run_neI _ _ _ rfl _ _ rfl rfl (atNt HN hqt).id hi false k1)
        case o10x2 => exact fun _ _ _ _ => opE_move (v := .bool false) _ rfl rfl rfl
        case o11x2 => exact fun _ _ _ _ => opE_move (v := .pointer (some ⟨g, 0, none⟩)) _ rfl rfl rfl
        case o12x2 => exact fun _ _ _ _ => opE_value (v := .pointer (some ⟨g, 0, none⟩)) rfl (run_nc _ rfl _ rfl)
        case o13x2 => exact fun _ _ _ _ => opE_value (v := .pointer (some ⟨g, 0, none⟩)) rfl (run_fld 37 _ 0 rfl g 0 rfl 0 (by kernel_rfl))
        case o14x2 => exact fun _ _ hw _ => opE_value (v := .slice bo Nl.length bc) rfl (ldRb _ rfl g rfl (hw.has kg))
        case o15x2 => exact fun _ _ _ _ => opE_move (v := .int .i64 ((q : Nat) : Int)) _ rfl rfl rfl
        case o16x2 => exact fun _ _ hw _ => opE_value (v := .pointer (pK knt bo q 0)) rfl (run_ixK rnt35 (((HN.gro GG)).gro ((Gro.refl _).drew.trans hw)) _ _ rfl rfl q rfl hqt)
        case o17x2 => exact fun _ _ hw _ => opE_value (v := .pointer (pK knt bo q 16)) rfl (run_fdK (((HN.gro GG)).gro ((Gro.refl _).drew.trans hw)) 79 _ 1 16 (fdnt_1 _) rfl q rfl hqt)
        case o18x2 => exact fun _ _ hw _ => opE_value (v := .agg (idA (Nl.getD q zN).key)) rfl (rldNtk (((HN.gro GG)).gro ((Gro.refl _).drew.trans hw)) _ rfl q rfl hqt)
        case o19x2 => exact fun _ _ hw _ => opE_value (v := .agg (idA k)) rfl (ldI0 _ rfl g2 rfl (hw.has kg2))
        case o20x2 => exact fun _ _ _ _ => opE_value (v := .bool true) rfl (run_neI _ _ _ rfl _ _ rfl rfl (atNt HN hqt).key hk true k2)
        intro ptrs w4 GD hxE
        simp only [List.drop_succ_cons, List.drop_zero]
        replace kg := GD.has kg
        replace kg1 := GD.has kg1
        replace kg2 := GD.has kg2
        replace kg3 := GD.has kg3
        replace HO := HO.gro ((Gro.refl _).drew.trans GD)
        replace GG := GG.drew.trans GD
        clear GD
        refine s_val 40 rfl rfl (.bool true) (rfl) ?_
        refine nr ?_; intro U h; simp only [z0, z1] at h; subst h
        refine wpList_nil ?_
        refine then_n ?_
        refine wp_cond_true rfl ?_
        refine wp_region_lit ?_
        refine s_val 41 rfl rfl (.slice oo ((Nl.take q).filter (fun y : NM => !y.isN i k)).length oc) (rfl) ?_
        refine nr ?_; intro U h; simp only [z0, z1] at h; subst h
        refine s_val 42 rfl rfl (.pointer (some ⟨g, 0, none⟩)) (rfl) ?_
        refine nr ?_; intro U h; simp only [z0, z1] at h; subst h
        refine s_val 43 rfl rfl (.pointer (some ⟨g, 0, none⟩)) (run_nc _ rfl _ rfl) ?_
        refine nr ?_; intro U h; simp only [z0, z1] at h; subst h
        refine s_val 44 rfl rfl (.pointer (some ⟨g, 0, none⟩)) (run_fld 37 _ 0 rfl g 0 rfl 0 (by kernel_rfl)) ?_
        refine nr ?_; intro U h; simp only [z0, z1] at h; subst h
        refine s_val 45 rfl rfl (.slice bo Nl.length bc) (ldRb _ rfl g rfl (kg)) ?_
        refine nr ?_; intro U h; simp only [z0, z1] at h; subst h
        refine s_val 46 rfl rfl (.int .i64 ((q : Nat) : Int)) (rfl) ?_
        refine nr ?_; intro U h; simp only [z0, z1] at h; subst h
        refine s_val 47 rfl rfl (.pointer (pK knt bo q 0)) (run_ixK rnt35 ((HN.gro GG)) _ _ rfl rfl q rfl hqt) ?_
        refine nr ?_; intro U h; simp only [z0, z1] at h; subst h
        refine s_val 48 rfl rfl (.agg (ntA (Nl.getD q zN))) (rldNt0 ((HN.gro GG)) _ rfl q rfl hqt) ?_
        refine nr ?_; intro U h; simp only [z0, z1] at h; subst h
        refine s_bsl 49 rfl rfl 35 1 _ rfl [(0, .agg (ntA (Nl.getD q zN)))] rfl ([((Nl.getD q zN) : NM)].flatMap knt.E).toArray 79 (bsnt35 _ _) ?_
        intro w5 qHB G eqHB kqHB
        replace kg := G.has kg
        replace kg1 := G.has kg1
        replace kg2 := G.has kg2
        replace kg3 := G.has kg3
        replace HO := HO.gro G
        replace GG := GG.trans G
        clear G
        have HB : RK knt w5 (some ⟨qHB, 0, none⟩) 1 [(Nl.getD q zN)] := RK.blk kqHB (one_all (atNt HN hqt)) (Nat.le_refl _)
        clear eqHB kqHB
        refine nr ?_; intro U h; simp only [z0, z1] at h; subst h
        have hbd : (((Nl.take q).filter (fun y : NM => !y.isN i k)).length + 1) * 56 ≤ 140737488355328 := by have := flt_len (fun y : NM => !y.isN i k) Nl q; omega
        refine s_appK rnt35 (by decide) 50 rfl rfl _ _ rfl rfl HO rfl HB hbd GG.size ?_
        intro oo2 oc2 w6 HO2 G KP
        replace kg := G.has kg (HO.own.ne kg (by decide))
        replace kg1 := G.has kg1 (HO.own.ne kg1 (by decide))
        replace kg2 := G.has kg2 (HO.own.ne kg2 (by decide))
        replace kg3 := G.has kg3 (HO.own.ne kg3 (by decide))
        replace GG := G.gro GG HO.own.base
        clear HO
        have HO := HO2
        clear HO2 KP G HB
        refine nr ?_; intro U h; simp only [z0, z1] at h; subst h
        refine s_val 8 rfl rfl (.slice oo2 (((Nl.take q).filter (fun y : NM => !y.isN i k)) ++ [(Nl.getD q zN)]).length oc2) (rfl) ?_
        refine nr ?_; intro U h; simp only [z0, z1] at h; subst h
        refine wpList_nil ?_
        refine blk_n ?_
        refine then_n ?_
        refine wp_region_lit ?_
        refine s_val 17 rfl rfl (.int .i64 ((q : Nat) : Int)) (rfl) ?_
        refine nr ?_; intro U h; simp only [z0, z1] at h; subst h
        refine s_val 18 rfl rfl (.int .i64 ((q + 1 : Nat) : Int)) (run_addI 3 _ _ _ rfl ((q : Nat) : Int) 1 ((q + 1 : Nat) : Int) rfl rfl (by omega) (by omega) (by omega) _) ?_
        refine nr ?_; intro U h; simp only [z0, z1] at h; subst h
        refine s_val 9 rfl rfl (.int .i64 ((q + 1 : Nat) : Int)) (rfl) ?_
        refine nr ?_; intro U h; simp only [z0, z1] at h; subst h
        refine wpList_nil ?_
        refine then_n ?_
        exact ⟨_, by omega, q + 1, oo2, oc2, (fun kz => ([.int .i64 ((q : Nat) : Int), .pointer (some ⟨g, 0, none⟩), .pointer (some ⟨g, 0, none⟩), .pointer (some ⟨g, 0, none⟩), .slice bo Nl.length bc, .int .i64 ((Nl.length : Nat) : Int), .bool true, .int .i64 ((q : Nat) : Int), .int .i64 ((q + 1 : Nat) : Int), .pointer (some ⟨g, 0, none⟩), .pointer (some ⟨g, 0, none⟩), .pointer (some ⟨g, 0, none⟩), .slice bo Nl.length bc, .int .i64 ((q : Nat) : Int), .pointer (pK knt bo q 0), .pointer (pK knt bo q 0), .agg (idA (Nl.getD q zN).id), .agg (idA i), .bool false, .bool false, .pointer (some ⟨g, 0, none⟩), .pointer (some ⟨g, 0, none⟩), .pointer (some ⟨g, 0, none⟩), .slice bo Nl.length bc, .int .i64 ((q : Nat) : Int), .pointer (pK knt bo q 0), .pointer (pK knt bo q 16), .agg (idA (Nl.getD q zN).key), .agg (idA k), .bool true, .bool true, .slice oo ((Nl.take q).filter (fun y : NM => !y.isN i k)).length oc, .pointer (some ⟨g, 0, none⟩), .pointer (some ⟨g, 0, none⟩), .pointer (some ⟨g, 0, none⟩), .slice bo Nl.length bc, .int .i64 ((q : Nat) : Int), .pointer (pK knt bo q 0), .agg (ntA (Nl.getD q zN)), .slice (some ⟨qHB, 0, none⟩) 1 1, .slice oo2 (((Nl.take q).filter (fun y : NM => !y.isN i k)) ++ [(Nl.getD q zN)]).length oc2] : List Value).getD kz undef), rfl, (by rw [flt_yes hqt hp]; first | done | rfl), GG, kg, kg1, kg2, kg3, (by rw [flt_yes hqt hp]; exact HO), by omega⟩
      · have hp : (fun y : NM => !y.isN i k) (Nl.getD q zN) = false := by show (!(decide _ && decide _)) = _; rw [k1, k2]; rfl
        refine wp_region_exA (A := ?Ax3) 21 [(0, 19), (1, 20), (2, 21), (3, 22), (4, 23), (5, 24), (6, 25), (7, 26), (8, 27), (9, 28), (10, 29), (11, 30), (12, 31), (13, 32), (14, 33), (15, 34), (16, 35), (17, 36), (18, 37), (19, 38), (20, 39)] [.val (.pointer (some ⟨g, 0, none⟩)), .val (.pointer (some ⟨g, 0, none⟩)), .val (.pointer (some ⟨g, 0, none⟩)), .val (.slice bo Nl.length bc), .val (.int .i64 ((q : Nat) : Int)), .val (.pointer (pK knt bo q 0)), .val (.pointer (pK knt bo q 0)), .val (.agg (idA (Nl.getD q zN).id)), .val (.agg (idA i)), .val (.bool false), .val (.bool false), .val (.pointer (some ⟨g, 0, none⟩)), .val (.pointer (some ⟨g, 0, none⟩)), .val (.pointer (some ⟨g, 0, none⟩)), .val (.slice bo Nl.length bc), .val (.int .i64 ((q : Nat) : Int)), .val (.pointer (pK knt bo q 0)), .val (.pointer (pK knt bo q 16)), .val (.agg (idA (Nl.getD q zN).key)), .val (.agg (idA k)), .val (.bool false)] follows (by kernel_rfl) rfl ?hAx3 (opsA_cons ?o0x3 (opsA_cons ?o1x3 (opsA_cons ?o2x3 (opsA_cons ?o3x3 (opsA_cons ?o4x3 (opsA_cons ?o5x3 (opsA_cons ?o6x3 (opsA_cons ?o7x3 (opsA_cons ?o8x3 (opsA_cons ?o9x3 (opsA_cons ?o10x3 (opsA_cons ?o11x3 (opsA_cons ?o12x3 (opsA_cons ?o13x3 (opsA_cons ?o14x3 (opsA_cons ?o15x3 (opsA_cons ?o16x3 (opsA_cons ?o17x3 (opsA_cons ?o18x3 (opsA_cons ?o19x3 (opsA_cons ?o20x3 opsA_nil))))))))))))))))))))) ?restx3
        case hAx3 =>
          intro ptrs
          simp only [full, foldSlots, filledE, postE, List.foldl_cons, List.foldl_nil, List.getD_cons_zero, List.getD_cons_succ, fill_val, List.set_cons_zero, List.set_cons_succ]
          exact rfl
        case o0x3 => exact fun _ _ _ _ => opE_move (v := .pointer (some ⟨g, 0, none⟩)) _ rfl rfl rfl
        case o1x3 => exact fun _ _ _ _ => opE_value (v := .pointer (some ⟨g, 0, none⟩)) rfl (run_nc _ rfl _ rfl)
        case o2x3 => exact fun _ _ _ _ => opE_value (v := .pointer (some ⟨g, 0, none⟩)) rfl (run_fld 37 _ 0 rfl g 0 rfl 0 (by kernel_rfl))
        case o3x3 => exact fun _ _ hw _ => opE_value (v := .slice bo Nl.length bc) rfl (ldRb _ rfl g rfl (hw.has kg))
        case o4x3 => exact fun _ _ _ _ => opE_move (v := .int .i64 ((q : Nat) : Int)) _ rfl rfl rfl
        case o5x3 => exact fun _ _ hw _ => opE_value (v := .pointer (pK knt bo q 0)) rfl (run_ixK rnt35 (((HN.gro GG)).gro ((Gro.refl _).drew.trans hw)) _ _ rfl rfl q rfl hqt)
        case o6x3 => exact fun _ _ hw _ => opE_value (v := .pointer (pK knt bo q 0)) rfl (run_fdK (((HN.gro GG)).gro ((Gro.refl _).drew.trans hw)) 79 _ 0 0 (fdnt_0 _) rfl q rfl hqt)
        case o7x3 => exact fun _ _ hw _ => opE_value (v := .agg (idA (Nl.getD q zN).id)) rfl (rldNti (((HN.gro GG)).gro ((Gro.refl _).drew.trans hw)) _ rfl q rfl hqt)
        case o8x3 => exact fun _ _ hw _ => opE_value (v := .agg (idA i)) rfl (ldI0 _ rfl g1 rfl (hw.has kg1))
        case o9x3 => exact fun _ _ _ _ => opE_value (v := .bool false) rfl (run_neI _ _ _ rfl _ _ rfl rfl (atNt HN hqt).id hi false k1)
        case o10x3 => exact fun _ _ _ _ => opE_move (v := .bool false) _ rfl rfl rfl
        case o11x3 => exact fun _ _ _ _ => opE_move (v := .pointer (some ⟨g, 0, none⟩)) _ rfl rfl rfl
        case o12x3 => exact fun _ _ _ _ => opE_value (v := .pointer (some ⟨g, 0, none⟩)) rfl (run_nc _ rfl _ rfl)
        case o13x3 => exact fun _ _ _ _ => opE_value (v := .pointer (some ⟨g, 0, none⟩)) rfl (run_fld 37 _ 0 rfl g 0 rfl 0 (by kernel_rfl))
        case o14x3 => exact fun _ _ hw _ => opE_value (v := .slice bo Nl.length bc) rfl (ldRb _ rfl g rfl (hw.has kg))
        case o15x3 => exact fun _ _ _ _ => opE_move (v := .int .i64 ((q : Nat) : Int)) _ rfl rfl rfl
        case o16x3 => exact fun _ _ hw _ => opE_value (v := .pointer (pK knt bo q 0)) rfl (run_ixK rnt35 (((HN.gro GG)).gro ((Gro.refl _).drew.trans hw)) _ _ rfl rfl q rfl hqt)
        case o17x3 => exact fun _ _ hw _ => opE_value (v := .pointer (pK knt bo q 16)) rfl (run_fdK (((HN.gro GG)).gro ((Gro.refl _).drew.trans hw)) 79 _ 1 16 (fdnt_1 _) rfl q rfl hqt)
        case o18x3 => exact fun _ _ hw _ => opE_value (v := .agg (idA (Nl.getD q zN).key)) rfl (rldNtk (((HN.gro GG)).gro ((Gro.refl _).drew.trans hw)) _ rfl q rfl hqt)
        case o19x3 => exact fun _ _ hw _ => opE_value (v := .agg (idA k)) rfl (ldI0 _ rfl g2 rfl (hw.has kg2))
        case o20x3 => exact fun _ _ _ _ => opE_value (v := .bool false) rfl (run_neI _ _ _ rfl _ _ rfl rfl (atNt HN hqt).key hk false k2)
        intro ptrs w4 GD hxE
        simp only [List.drop_succ_cons, List.drop_zero]
        replace kg := GD.has kg
        replace kg1 := GD.has kg1
        replace kg2 := GD.has kg2
        replace kg3 := GD.has kg3
        replace HO := HO.gro ((Gro.refl _).drew.trans GD)
        replace GG := GG.drew.trans GD
        clear GD
        refine s_val 40 rfl rfl (.bool false) (rfl) ?_
        refine nr ?_; intro U h; simp only [z0, z1] at h; subst h
        refine wpList_nil ?_
        refine then_n ?_
        refine wp_cond_false rfl ?_
        refine wp_skip ?_
        refine blk_n ?_
        refine then_n ?_
        refine wp_region_lit ?_
        refine s_val 17 rfl rfl (.int .i64 ((q : Nat) : Int)) (rfl) ?_
        refine nr ?_; intro U h; simp only [z0, z1] at h; subst h
        refine s_val 18 rfl rfl (.int .i64 ((q + 1 : Nat) : Int)) (run_addI 3 _ _ _ rfl ((q : Nat) : Int) 1 ((q + 1 : Nat) : Int) rfl rfl (by omega) (by omega) (by omega) _) ?_
        refine nr ?_; intro U h; simp only [z0, z1] at h; subst h
        refine s_val 9 rfl rfl (.int .i64 ((q + 1 : Nat) : Int)) (rfl) ?_
        refine nr ?_; intro U h; simp only [z0, z1] at h; subst h
        refine wpList_nil ?_
        refine then_n ?_
        exact ⟨_, by omega, q + 1, oo, oc, (fun kz => ([.int .i64 ((q : Nat) : Int), .pointer (some ⟨g, 0, none⟩), .pointer (some ⟨g, 0, none⟩), .pointer (some ⟨g, 0, none⟩), .slice bo Nl.length bc, .int .i64 ((Nl.length : Nat) : Int), .bool true, .int .i64 ((q : Nat) : Int), .int .i64 ((q + 1 : Nat) : Int), .pointer (some ⟨g, 0, none⟩), .pointer (some ⟨g, 0, none⟩), .pointer (some ⟨g, 0, none⟩), .slice bo Nl.length bc, .int .i64 ((q : Nat) : Int), .pointer (pK knt bo q 0), .pointer (pK knt bo q 0), .agg (idA (Nl.getD q zN).id), .agg (idA i), .bool false, .bool false, .pointer (some ⟨g, 0, none⟩), .pointer (some ⟨g, 0, none⟩), .pointer (some ⟨g, 0, none⟩), .slice bo Nl.length bc, .int .i64 ((q : Nat) : Int), .pointer (pK knt bo q 0), .pointer (pK knt bo q 16), .agg (idA (Nl.getD q zN).key), .agg (idA k), .bool false, .bool false, us1 31, us1 32, us1 33, us1 34, us1 35, us1 36, us1 37, us1 38, us1 39, us1 40] : List Value).getD kz undef), rfl, (by rw [flt_no hqt hp]; first | done | rfl), GG, kg, kg1, kg2, kg3, (by rw [flt_no hqt hp]; exact HO), by omega⟩
set_option maxRecDepth 100000 in
set_option maxHeartbeats 4000000 in
theorem rretain_any0 (g C : Nat) (ao : Option Addr) (cap : Nat) (l : List Nat) (bo : Option Addr) (bc : Nat) (Nl : List NM) (w : World) (hC : C ≤ w.heap.size) (hnl : Nl.length ≤ 1000000) (kg : w.heap[g]? = some (.cells (rbA bo Nl.length bc) 37 (0, 0))) (HN : RK knt w bo bc Nl) (HL : RK kI w ao cap l) (hll : l.length ≤ 1000000) : Calls Try.prog 22 #[.pointer (some ⟨g, 0, none⟩), .slice ao l.length cap] w (fun e w' => e = .returned (.tuple #[]) ∧ GroS [g] w w' ∧ RBk w' C g (retN Nl l)) := by
  refine s_enter Try.func22 rfl Try.ntmps22 [.pointer (some ⟨g, 0, none⟩), .slice ao l.length cap] [.pointer (some ⟨g, 0, none⟩), .slice ao l.length cap, undef, undef, undef, undef, undef, undef, undef, undef, undef, undef, undef, undef, undef, undef, undef, undef, undef, undef, undef, undef, undef, undef, undef, undef, undef, undef, undef, undef, undef, undef, undef, undef, undef, undef, undef, undef, undef] rfl ?_
  have GG := Gro.refl w
  refine wp_seq ?_
  refine wp_region_lit ?_
  refine s_val 4 rfl rfl (.slice none 0 0) (rfl) ?_
  refine nr ?_; intro U h; simp only [z0, z1] at h; subst h
  refine wpList_nil ?_
  refine then_n ?_
  refine wp_seq ?_
  refine wp_seq ?_
  refine wp_region_lit ?_
  refine s_val 5 rfl rfl (.int .i64 0) (rfl) ?_
  refine nr ?_; intro U h; simp only [z0, z1] at h; subst h
  refine wpList_nil ?_
  refine then_n ?_
  refine wp_block ?_
  refine wp_loopN (fun mz az wv => ∃ (q : Nat) (oo : Option Addr) (oc : Nat) (us1 : Nat → Value), mz = Nl.length - q ∧ az = ⟨[.pointer (some ⟨g, 0, none⟩), .slice ao l.length cap, undef, undef, .slice oo ((Nl.take q).filter (fun y : NM => decide (y.id ∈ l))).length oc, .int .i64 ((q : Nat) : Int), us1 0, us1 1, us1 2, us1 3, us1 4, us1 5, us1 6, us1 7, us1 8, us1 9, us1 10, us1 11, us1 12, us1 13, us1 14, us1 15, us1 16, us1 17, us1 18, us1 19, us1 20, us1 21, us1 22, us1 23, us1 24, us1 25, us1 26, us1 27, us1 28, undef, undef, undef, undef].toArray, []⟩ ∧ Gro w wv ∧ wv.heap[g]? = some (.cells (rbA bo Nl.length bc) 37 (0, 0)) ∧ (OW knt 79 wv w.heap.size oo oc ((Nl.take q).filter (fun y : NM => decide (y.id ∈ l)))) ∧ q ≤ Nl.length) ?_ _ ⟨0, none, 0, (fun kz => ([undef, undef, undef, undef, undef, undef, undef, undef, undef, undef, undef, undef, undef, undef, undef, undef, undef, undef, undef, undef, undef, undef, undef, undef, undef, undef, undef, undef, undef] : List Value).getD kz undef), rfl, rfl, GG, kg, OW.nil _ _, Nat.zero_le _⟩
  clear GG kg
  rintro mz az wv ⟨q, oo, oc, us1, rfl, rfl, GG, kg, HO, hq⟩
  refine wp_seq ?_
  refine wp_seq ?_
  cases t1 : decide (((q : Nat) : Int) < ((Nl.length : Nat) : Int))
  · have hql : q = Nl.length := by have := of_decide_eq_false t1; omega
    refine wp_region_lit ?_
    refine s_val 6 rfl rfl (.int .i64 ((q : Nat) : Int)) (rfl) ?_
    refine nr ?_; intro U h; simp only [z0, z1] at h; subst h
    refine s_val 7 rfl rfl (.pointer (some ⟨g, 0, none⟩)) (rfl) ?_
    refine nr ?_; intro U h; simp only [z0, z1] at h; subst h
    refine s_val 8 rfl rfl (.pointer (some ⟨g, 0, none⟩)) (run_nc _ rfl _ rfl) ?_
    refine nr ?_; intro U h; simp only [z0, z1] at h; subst h
    refine s_val 9 rfl rfl (.pointer (some ⟨g, 0, none⟩)) (run_fld 37 _ 0 rfl g 0 rfl 0 (by kernel_rfl)) ?_
    refine nr ?_; intro U h; simp only [z0, z1] at h; subst h
    refine s_val 10 rfl rfl (.slice bo Nl.length bc) (ldRb _ rfl g rfl (kg)) ?_
    refine nr ?_; intro U h; simp only [z0, z1] at h; subst h
    refine s_val 11 rfl rfl (.int .i64 ((Nl.length : Nat) : Int)) (run_len Try.underlying35 _ rfl _ _ _ rfl _) ?_
    refine nr ?_; intro U h; simp only [z0, z1] at h; subst h
    refine s_val 12 rfl rfl (.bool false) (run_lssT 3 _ _ _ rfl ((q : Nat) : Int) ((Nl.length : Nat) : Int) rfl rfl false t1 _) ?_
    refine nr ?_; intro U h; simp only [z0, z1] at h; subst h
    refine wpList_nil ?_
    refine then_n ?_
    refine wp_cond_false rfl ?_
    refine wp_exit ?_
    refine then_x ?_
    refine then_x ?_
    refine blk_x ?_
    refine then_n ?_
    refine wp_region_lit ?_
    refine s_val 35 rfl rfl (.pointer (some ⟨g, 0, none⟩)) (rfl) ?_
    refine nr ?_; intro U h; simp only [z0, z1] at h; subst h
    refine s_val 36 rfl rfl (.slice oo ((Nl.take q).filter (fun y : NM => decide (y.id ∈ l))).length oc) (rfl) ?_
    refine nr ?_; intro U h; simp only [z0, z1] at h; subst h
    refine s_val 37 rfl rfl (.pointer (some ⟨g, 0, none⟩)) (run_nc _ rfl _ rfl) ?_
    refine nr ?_; intro U h; simp only [z0, z1] at h; subst h
    refine s_val 38 rfl rfl (.pointer (some ⟨g, 0, none⟩)) (run_fld 37 _ 0 rfl g 0 rfl 0 (by kernel_rfl)) ?_
    refine nr ?_; intro U h; simp only [z0, z1] at h; subst h
    have hgo := HO.own.ne kg (by decide)
    refine s_store rfl rfl 35 _ _ rfl g 0 rfl (.slice oo ((Nl.take q).filter (fun y : NM => decide (y.id ∈ l))).length oc) rfl 37 _ kg #[.slice oo ((Nl.take q).filter (fun y : NM => decide (y.id ∈ l))).length oc] rfl siNts (Nat.le_refl _) (sl_one _ _ _) (rbA oo ((Nl.take q).filter (fun y : NM => decide (y.id ∈ l))).length oc) rfl ?_
    intro w1 St
    replace HO := HO.st St hgo
    have GS := (GroS.of (S := [g]) GG).st St (.inr (by simp))
    have kg2 := St.new
    clear St
    refine wpList_nil ?_
    refine post_n (results_none Try.results22 _ _ _) rfl ?_
    rw [hql, List.take_length] at HO kg2
    exact ⟨rfl, GS, _, _, kg2, HO.mono hC⟩
  · have hqt : q < Nl.length := by have := of_decide_eq_true t1; omega
    refine wp_region_lit ?_
    refine s_val 6 rfl rfl (.int .i64 ((q : Nat) : Int)) (rfl) ?_
    refine nr ?_; intro U h; simp only [z0, z1] at h; subst h
    refine s_val 7 rfl rfl (.pointer (some ⟨g, 0, none⟩)) (rfl) ?_
    refine nr ?_; intro U h; simp only [z0, z1] at h; subst h
    refine s_val 8 rfl rfl (.pointer (some ⟨g, 0, none⟩)) (run_nc _ rfl _ rfl) ?_
    refine nr ?_; intro U h; simp only [z0, z1] at h; subst h
    refine s_val 9 rfl rfl (.pointer (some ⟨g, 0, none⟩)) (run_fld 37 _ 0 rfl g 0 rfl 0 (by kernel_rfl)) ?_
    refine nr ?_; intro U h; simp only [z0, z1] at h; subst h
    refine s_val 10 rfl rfl (.slice bo Nl.length bc) (ldRb _ rfl g rfl (kg)) ?_
    refine nr ?_; intro U h; simp only [z0, z1] at h; subst h
    refine s_val 11 rfl rfl (.int .i64 ((Nl.length : Nat) : Int)) (run_len Try.underlying35 _ rfl _ _ _ rfl _) ?_
    refine nr ?_; intro U h; simp only [z0, z1] at h; subst h
    refine s_val 12 rfl rfl (.bool true) (run_lssT 3 _ _ _ rfl ((q : Nat) : Int) ((Nl.length : Nat) : Int) rfl rfl true t1 _) ?_
    refine nr ?_; intro U h; simp only [z0, z1] at h; subst h
    refine wpList_nil ?_
    refine then_n ?_
    refine wp_cond_true rfl ?_
    refine wp_skip ?_
    refine then_n ?_
    refine wp_seq ?_
    refine wp_block ?_
    refine wp_seq ?_
    cases k1 : decide ((Nl.getD q zN).id ∈ l)
    · refine wp_region_lit ?_
      refine s_val 15 rfl rfl (.slice ao l.length cap) (rfl) ?_
      refine nr ?_; intro U h; simp only [z0, z1] at h; subst h
      refine s_val 16 rfl rfl (.pointer (some ⟨g, 0, none⟩)) (rfl) ?_
      refine nr ?_; intro U h; simp only [z0, z1] at h; subst h
      refine s_val 17 rfl rfl (.pointer (some ⟨g, 0, none⟩)) (run_nc _ rfl _ rfl) ?_
      refine nr ?_; intro U h; simp only [z0, z1] at h; subst h
      refine s_val 18 rfl rfl (.pointer (some ⟨g, 0, none⟩)) (run_fld 37 _ 0 rfl g 0 rfl 0 (by kernel_rfl)) ?_
      refine nr ?_; intro U h; simp only [z0, z1] at h; subst h
      refine s_val 19 rfl rfl (.slice bo Nl.length bc) (ldRb _ rfl g rfl (kg)) ?_
      refine nr ?_; intro U h; simp only [z0, z1] at h; subst h
      refine s_val 20 rfl rfl (.int .i64 ((q : Nat) : Int)) (rfl) ?_
      refine nr ?_; intro U h; simp only [z0, z1] at h; subst h
      refine s_val 21 rfl rfl (.pointer (pK knt bo q 0)) (run_ixK rnt35 ((HN.gro GG)) _ _ rfl rfl q rfl hqt) ?_
      refine nr ?_; intro U h; simp only [z0, z1] at h; subst h
      refine s_val 22 rfl rfl (.pointer (pK knt bo q 0)) (run_fdK ((HN.gro GG)) 79 _ 0 0 (fdnt_0 _) rfl q rfl hqt) ?_
      refine nr ?_; intro U h; simp only [z0, z1] at h; subst h
      refine s_val 23 rfl rfl (.agg (idA (Nl.getD q zN).id)) (rldNti ((HN.gro GG)) _ rfl q rfl hqt) ?_
      refine nr ?_; intro U h; simp only [z0, z1] at h; subst h
      refine s_callv 24 rfl rfl _ 40 Try.call40 rfl rfl _ rfl [.slice ao l.length cap, .agg (idA (Nl.getD q zN).id)] rfl (Calls.bool (rhasK _ ao cap l (HL.gro GG) hll (Nl.getD q zN).id (atNt HN hqt).id) k1) ?_
      intro w1 G
      replace kg := G.has kg
      replace HO := HO.gro G
      replace GG := GG.trans G
      clear G
      refine nr ?_; intro U h; simp only [z0, z1] at h; subst h
      refine wpList_nil ?_
      refine then_n ?_
      refine wp_cond_false rfl ?_
      refine wp_skip ?_
      refine blk_n ?_
      refine then_n ?_
      refine wp_region_lit ?_
      refine s_val 13 rfl rfl (.int .i64 ((q : Nat) : Int)) (rfl) ?_
      refine nr ?_; intro U h; simp only [z0, z1] at h; subst h
      refine s_val 14 rfl rfl (.int .i64 ((q + 1 : Nat) : Int)) (run_addI 3 _ _ _ rfl ((q : Nat) : Int) 1 ((q + 1 : Nat) : Int) rfl rfl (by omega) (by omega) (by omega) _) ?_
      refine nr ?_; intro U h; simp only [z0, z1] at h; subst h
      refine s_val 5 rfl rfl (.int .i64 ((q + 1 : Nat) : Int)) (rfl) ?_
      refine nr ?_; intro U h; simp only [z0, z1] at h; subst h
      refine wpList_nil ?_
      refine then_n ?_
      exact ⟨_, by omega, q + 1, oo, oc, (fun kz => ([.int .i64 ((q : Nat) : Int), .pointer (some ⟨g, 0, none⟩), .pointer (some ⟨g, 0, none⟩), .pointer (some ⟨g, 0, none⟩), .slice bo Nl.length bc, .int .i64 ((Nl.length : Nat) : Int), .bool true, .int .i64 ((q : Nat) : Int), .int .i64 ((q + 1 : Nat) : Int), .slice ao l.length cap, .pointer (some ⟨g, 0, none⟩), .pointer (some ⟨g, 0, none⟩), .pointer (some ⟨g, 0, none⟩), .slice bo Nl.length bc, .int .i64 ((q : Nat) : Int), .pointer (pK knt bo q 0), .pointer (pK knt bo q 0), .agg (idA (Nl.getD q zN).id), .bool false, us1 19, us1 20, us1 21, us1 22, us1 23, us1 24, us1 25, us1 26, us1 27, us1 28] : List Value).getD kz undef), rfl, (by rw [flt_no (p := (fun y : NM => decide (y.id ∈ l))) hqt k1]; first | done | rfl), GG, kg, (by rw [flt_no (p := (fun y : NM => decide (y.id ∈ l))) hqt k1]; exact HO), by omega⟩
    · refine wp_region_lit ?_
      refine s_val 15 rfl rfl (.slice ao l.length cap) (rfl) ?_
      refine nr ?_; intro U h; simp only [z0, z1] at h; subst h
      refine s_val 16 rfl rfl (.pointer (some ⟨g, 0, none⟩)) (rfl) ?_
      refine nr ?_; intro U h; simp only [z0, z1] at h; subst h
      refine s_val 17 rfl rfl (.pointer (some ⟨g, 0, none⟩)) (run_nc _ rfl _ rfl) ?_
      refine nr ?_; intro U h; simp only [z0, z1] at h; subst h
      refine s_val 18 rfl rfl (.pointer (some ⟨g, 0, none⟩)) (run_fld 37 _ 0 rfl g 0 rfl 0 (by kernel_rfl)) ?_
      refine nr ?_; intro U h; simp only [z0, z1] at h; subst h
      refine s_val 19 rfl rfl (.slice bo Nl.length bc) (ldRb _ rfl g rfl (kg)) ?_
      refine nr ?_; intro U h; simp only [z0, z1] at h; subst h
      refine s_val 20 rfl rfl (.int .i64 ((q : Nat) : Int)) (rfl) ?_
      refine nr ?_; intro U h; simp only [z0, z1] at h; subst h
      refine s_val 21 rfl rfl (.pointer (pK knt bo q 0)) (run_ixK rnt35 ((HN.gro GG)) _ _ rfl rfl q rfl hqt) ?_
      refine nr ?_; intro U h; simp only [z0, z1] at h; subst h
      refine s_val 22 rfl rfl (.pointer (pK knt bo q 0)) (run_fdK ((HN.gro GG)) 79 _ 0 0 (fdnt_0 _) rfl q rfl hqt) ?_
      refine nr ?_; intro U h; simp only [z0, z1] at h; subst h
      refine s_val 23 rfl rfl (.agg (idA (Nl.getD q zN).id)) (rldNti ((HN.gro GG)) _ rfl q rfl hqt) ?_
      refine nr ?_; intro U h; simp only [z0, z1] at h; subst h
      refine s_callv 24 rfl rfl _ 40 Try.call40 rfl rfl _ rfl [.slice ao l.length cap, .agg (idA (Nl.getD q zN).id)] rfl (Calls.bool (rhasK _ ao cap l (HL.gro GG) hll (Nl.getD q zN).id (atNt HN hqt).id) k1) ?_
      intro w1 G
      replace kg := G.has kg
      replace HO := HO.gro G
      replace GG := GG.trans G
      clear G
      refine nr ?_; intro U h; simp only [z0, z1] at h; subst h
      refine wpList_nil ?_
      refine then_n ?_
      refine wp_cond_true rfl ?_
      refine wp_region_lit ?_
      refine s_val 25 rfl rfl (.slice oo ((Nl.take q).filter (fun y : NM => decide (y.id ∈ l))).length oc) (rfl) ?_
      refine nr ?_; intro U h; simp only [z0, z1] at h; subst h
      refine s_val 26 rfl rfl (.pointer (some ⟨g, 0, none⟩)) (rfl) ?_
      refine nr ?_; intro U h; simp only [z0, z1] at h; subst h
      refine s_val 27 rfl rfl (.pointer (some ⟨g, 0, none⟩)) (run_nc _ rfl _ rfl) ?_
      refine nr ?_; intro U h; simp only [z0, z1] at h; subst h
      refine s_val 28 rfl rfl (.pointer (some ⟨g, 0, none⟩)) (run_fld 37 _ 0 rfl g 0 rfl 0 (by kernel_rfl)) ?_
      refine nr ?_; intro U h; simp only [z0, z1] at h; subst h
      refine s_val 29 rfl rfl (.slice bo Nl.length bc) (ldRb _ rfl g rfl (kg)) ?_
      refine nr ?_; intro U h; simp only [z0, z1] at h; subst h
      refine s_val 30 rfl rfl (.int .i64 ((q : Nat) : Int)) (rfl) ?_
      refine nr ?_; intro U h; simp only [z0, z1] at h; subst h
      refine s_val 31 rfl rfl (.pointer (pK knt bo q 0)) (run_ixK rnt35 ((HN.gro GG)) _ _ rfl rfl q rfl hqt) ?_
      refine nr ?_; intro U h; simp only [z0, z1] at h; subst h
      refine s_val 32 rfl rfl (.agg (ntA (Nl.getD q zN))) (rldNt0 ((HN.gro GG)) _ rfl q rfl hqt) ?_
      refine nr ?_; intro U h; simp only [z0, z1] at h; subst h
      refine s_bsl 33 rfl rfl 35 1 _ rfl [(0, .agg (ntA (Nl.getD q zN)))] rfl ([((Nl.getD q zN) : NM)].flatMap knt.E).toArray 79 (bsnt35 _ _) ?_
      intro w2 qHB G eqHB kqHB
      replace kg := G.has kg
      replace HO := HO.gro G
      replace GG := GG.trans G
      clear G
      have HB : RK knt w2 (some ⟨qHB, 0, none⟩) 1 [(Nl.getD q zN)] := RK.blk kqHB (one_all (atNt HN hqt)) (Nat.le_refl _)
      clear eqHB kqHB
      refine nr ?_; intro U h; simp only [z0, z1] at h; subst h
      have hbd : (((Nl.take q).filter (fun y : NM => decide (y.id ∈ l))).length + 1) * 56 ≤ 140737488355328 := by have := flt_len (fun y : NM => decide (y.id ∈ l)) Nl q; omega
      refine s_appK rnt35 (by decide) 34 rfl rfl _ _ rfl rfl HO rfl HB hbd GG.size ?_
      intro oo2 oc2 w3 HO2 G KP
      replace kg := G.has kg (HO.own.ne kg (by decide))
      replace GG := G.gro GG HO.own.base
      clear HO
      have HO := HO2
      clear HO2 KP G HB
      refine nr ?_; intro U h; simp only [z0, z1] at h; subst h
      refine s_val 4 rfl rfl (.slice oo2 (((Nl.take q).filter (fun y : NM => decide (y.id ∈ l))) ++ [(Nl.getD q zN)]).length oc2) (rfl) ?_
      refine nr ?_; intro U h; simp only [z0, z1] at h; subst h
      refine wpList_nil ?_
      refine blk_n ?_
      refine then_n ?_
      refine wp_region_lit ?_
      refine s_val 13 rfl rfl (.int .i64 ((q : Nat) : Int)) (rfl) ?_
      refine nr ?_; intro U h; simp only [z0, z1] at h; subst h
      refine s_val 14 rfl rfl (.int .i64 ((q + 1 : Nat) : Int)) (run_addI 3 _ _ _ rfl ((q : Nat) : Int) 1 ((q + 1 : Nat) : Int) rfl rfl (by omega) (by omega) (by omega) _) ?_
      refine nr ?_; intro U h; simp only [z0, z1] at h; subst h
      refine s_val 5 rfl rfl (.int .i64 ((q + 1 : Nat) : Int)) (rfl) ?_
      refine nr ?_; intro U h; simp only [z0, z1] at h; subst h
      refine wpList_nil ?_
      refine then_n ?_
      exact ⟨_, by omega, q + 1, oo2, oc2, (fun kz => ([.int .i64 ((q : Nat) : Int), .pointer (some ⟨g, 0, none⟩), .pointer (some ⟨g, 0, none⟩), .pointer (some ⟨g, 0, none⟩), .slice bo Nl.length bc, .int .i64 ((Nl.length : Nat) : Int), .bool true, .int .i64 ((q : Nat) : Int), .int .i64 ((q + 1 : Nat) : Int), .slice ao l.length cap, .pointer (some ⟨g, 0, none⟩), .pointer (some ⟨g, 0, none⟩), .pointer (some ⟨g, 0, none⟩), .slice bo Nl.length bc, .int .i64 ((q : Nat) : Int), .pointer (pK knt bo q 0), .pointer (pK knt bo q 0), .agg (idA (Nl.getD q zN).id), .bool true, .slice oo ((Nl.take q).filter (fun y : NM => decide (y.id ∈ l))).length oc, .pointer (some ⟨g, 0, none⟩), .pointer (some ⟨g, 0, none⟩), .pointer (some ⟨g, 0, none⟩), .slice bo Nl.length bc, .int .i64 ((q : Nat) : Int), .pointer (pK knt bo q 0), .agg (ntA (Nl.getD q zN)), .slice (some ⟨qHB, 0, none⟩) 1 1, .slice oo2 (((Nl.take q).filter (fun y : NM => decide (y.id ∈ l))) ++ [(Nl.getD q zN)]).length oc2] : List Value).getD kz undef), rfl, (by rw [flt_yes (p := (fun y : NM => decide (y.id ∈ l))) hqt k1]; first | done | rfl), GG, kg, (by rw [flt_yes (p := (fun y : NM => decide (y.id ∈ l))) hqt k1]; exact HO), by omega⟩
theorem rmark_any (g C i k : Nat) (v : VM) (Nl : List NM) (w : World) (hi : i < top) (hk : k < top) (hv : v.ok) (hC : C ≤ w.heap.size) (hnl : Nl.length ≤ 1000000) (H : RBk w C g Nl) : Calls Try.prog 20 #[.pointer (some ⟨g, 0, none⟩), .agg (idA i), .agg (idA k), .agg (veA v)] w (fun e w' => e = .returned (.tuple #[]) ∧ GroS [g] w w' ∧ RBk w' C g (markN Nl ⟨i, k, v⟩)) := by
  obtain ⟨bo, bc, kg, HN⟩ := H
  exact rmark_any0 g C i k v bo bc Nl w hi hk hv hC hnl kg HN.re
theorem rretain_any (g C : Nat) (ao : Option Addr) (cap : Nat) (l : List Nat) (Nl : List NM) (w : World) (hC : C ≤ w.heap.size) (hnl : Nl.length ≤ 1000000) (H : RBk w C g Nl) (HL : RK kI w ao cap l) (hll : l.length ≤ 1000000) : Calls Try.prog 22 #[.pointer (some ⟨g, 0, none⟩), .slice ao l.length cap] w (fun e w' => e = .returned (.tuple #[]) ∧ GroS [g] w w' ∧ RBk w' C g (retN Nl l)) := by
  obtain ⟨bo, bc, kg, HN⟩ := H
  exact rretain_any0 g C ao cap l bo bc Nl w hC hnl kg HN.re HL hll
end Go.Proofs.Ytjahegiopigblaa
