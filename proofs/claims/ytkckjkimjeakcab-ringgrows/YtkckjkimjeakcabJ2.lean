/- The law on whoever comes. -/
import Derived.Test.YtkckjkimjeakcabJ1
import Derived.Test.YtkckjkimjeakcabLaw2
namespace Go.Proofs.Ytkckjkimjeakcab
open Go.RowKit
def twoA (a b : Nat) : Array Value := idA a ++ idA b
def twoV (a b : Nat) : Value := .agg (twoA a b)
theorem twoA_size (a b : Nat) : (twoA a b).size = 32 := by simp [twoA, idA_size]
theorem half_0 (x y : Array Value) (hx : x.size = 16) : (x ++ y).extract 0 (0 + 16) = x := by
  simp [hx]
theorem half_1 (x y : Array Value) (hx : x.size = 16) (hy : y.size = 16) : (x ++ y).extract 16 (16 + 16) = y := by
  simp [hx]
  have h1 : x.extract 16 16 = #[] := by simp; omega
  have : 16 = y.size := hy.symm
  rw [h1, Array.empty_append, this, Array.extract_size]
theorem two_0 (a b : Nat) : (twoA a b).extract 0 (0 + 16) = idA a := half_0 _ _ (idA_size a)
theorem two_1 (a b : Nat) : (twoA a b).extract 16 (16 + 16) = idA b := half_1 _ _ (idA_size a) (idA_size b)
theorem ok_part25 {ops : Array Oper} {o : Oper} {A : Act} {w : World} (hgd : o.guard = none) (x : Operand) (j : Nat) (hj : j < 2) (ho : o.op = .indexAddr 25 x (.const (.int .i64 j))) (g : Nat) (hx : A.eval x = .pointer (some ⟨g, 0, none⟩)) :
    OpOK Try.prog ops (.val (.pointer (some ⟨g, 16 * j, none⟩))) o A w := by
  refine ok_value hgd ?_
  unfold execOp
  match j, hj with
  | 0, _ =>
    have hi : (Instr.indexAt 25 (.pointer (some ⟨g, 0, none⟩)) (.int .i64 ((0 : Nat) : Int))).run Try.prog w = .ok (.pointer (some ⟨g, 16 * 0, none⟩)) w := by kernel_rfl
    simp only [ho, hx, BigFrame.eval_const, Sem.run_bind, hi, Result.andThen_ok, Sem.run_pure]
  | 1, _ =>
    have hi : (Instr.indexAt 25 (.pointer (some ⟨g, 0, none⟩)) (.int .i64 ((1 : Nat) : Int))).run Try.prog w = .ok (.pointer (some ⟨g, 16 * 1, none⟩)) w := by kernel_rfl
    simp only [ho, hx, BigFrame.eval_const, Sem.run_bind, hi, Result.andThen_ok, Sem.run_pure]

theorem gone_step {was now : List Nat} {i : Nat} (hi : i < was.length) : (was.take (i + 1)).countP (fun x => !decide (x ∈ now)) = (was.take i).countP (fun x => !decide (x ∈ now)) + if was.getD i 0 ∈ now then 0 else 1 := by
  rw [take_snoc was i hi, List.countP_append, List.countP_singleton]
  by_cases h : was.getD i 0 ∈ now
  · rw [if_pos h, decide_eq_true h]; rfl
  · rw [if_neg h, decide_eq_false h]; rfl
set_option maxRecDepth 100000 in
set_option maxHeartbeats 4000000 in
theorem ringGrows_any (w : World) (ao : Option Addr) (cap : Nat) (l : List Nat) (H : RC w ao cap l) (a b : Nat) (ha : a < top) (hb : b < top) (half : Int) : Calls Try.prog 3 #[.slice ao l.length cap, .agg (twoA a b), .int .i64 half] w (fun e w' => e = .returned (.bool true) ∧ Gro w w') := by
  refine s_enter Try.func3 rfl Try.ntmps3 [.slice ao l.length cap, .agg (twoA a b), .int .i64 half] [.slice ao l.length cap, .agg (twoA a b), .int .i64 half, undef, undef, undef, undef, undef, undef, undef, undef, undef, undef, undef, undef, undef, undef, undef, undef, undef, undef, undef, undef, undef, undef, undef, undef, undef, undef, undef, undef, undef, undef, undef, undef, undef, undef, undef, undef, undef, undef, undef, undef, undef, undef, undef, undef, undef, undef, undef, undef, undef, undef, undef, undef, undef, undef, undef, undef, undef, undef, undef, undef, undef, undef, undef, undef, undef] rfl ?_
  have GG := Gro.refl w
  obtain ⟨t, ht⟩ : ∃ t, l.take 40 = t := ⟨_, rfl⟩
  have HT : RC w ao t.length t := ht ▸ H.takeN 40
  have htl : t.length ≤ 40 := by rw [← ht, List.length_take]; omega
  have hgg := grow_gone ha HT.all hb half
  have hwl := want_len a t half
  have hnl : (want a (t ++ [b]) half).length ≤ t.length + 1 := by have h1 := want_len a (t ++ [b]) half; rw [List.length_append] at h1; exact h1
  refine wp_seq ?_
  refine wp_region_lit ?_
  refine s_box 4 rfl rfl 25 _ rfl _ rfl (twoA a b) rfl ?_
  intro w1 g1 G eg1 kg1
  have bg1 := size_base GG eg1
  replace GG := GG.trans G
  clear G
  clear eg1
  refine nr ?_; intro U h; simp only [z0, z1] at h; subst h
  refine s_val 6 rfl rfl (.bool false) (rfl) ?_
  refine nr ?_; intro U h; simp only [z0, z1] at h; subst h
  refine wpList_nil ?_
  refine then_n ?_
  refine wp_seq ?_
  refine wp_region_grow2 8 [(0, 16), (1, 17), (2, 18), (3, 19), (4, 7), (5, 8)] [.val (.pointer (some ⟨g1, 0, none⟩)), .val (.agg (idA a)), .val (.pointer (some ⟨g1, 16, none⟩)), .val (.agg (idA b)), .new 24 (idA 0) (idA a) 6, .new 24 (idA 0) (idA b) 7, .put 4, .put 5] follows (by kernel_rfl) (by kernel_rfl) rfl
    (opsOK2_cons ?o0 (opsOK2_cons ?o1 (opsOK2_cons ?o2 (opsOK2_cons ?o3 (opsOK2_cons ?o4 (opsOK2_cons ?o5 (opsOK2_cons ?o6 (opsOK2_cons ?o7 (opsOK2_nil))))))))) ?rest
  case o0 => exact fun _ _ _ _ _ _ => OpOK2.of_val (ok_part25 rfl _ 0 (by omega) rfl g1 rfl)
  case o1 => exact fun _ _ _ hw _ _ => OpOK2.of_val (ok_load rfl 24 _ rfl g1 0 16 rfl 25 (twoA a b) (0, 0) _ (hw.has kg1) Try.underlying24 rfl size23 (by rw [twoA_size]; omega) _ (two_0 a b))
  case o2 => exact fun _ _ _ _ _ _ => OpOK2.of_val (ok_part25 rfl _ 1 (by omega) rfl g1 rfl)
  case o3 => exact fun _ _ _ hw _ _ => OpOK2.of_val (ok_load rfl 24 _ rfl g1 16 16 rfl 25 (twoA a b) (0, 0) _ (hw.has kg1) Try.underlying24 rfl size23 (by rw [twoA_size]; omega) _ (two_1 a b))
  case o4 => exact fun _ _ _ _ _ _ => OpOK2.of_new (ok_alloc_id rfl rfl)
  case o5 => exact fun _ _ _ _ _ _ => OpOK2.of_new (ok_alloc_id rfl rfl)
  case o6 =>
    intro ptrs L w hw hn hL
    obtain ⟨⟨g, p, k, cz⟩, hz⟩ := hn
    have hL' : L 6 = false := hL
    have p' : ptrs 4 = .pointer (some ⟨g, 0, none⟩) := p
    have k' : w.heap[g]? = some (.cells (if L 6 = true then (idA a) else (idA 0)) 24 (0, 0)) := k
    rw [hL'] at k'
    refine ok2_store rfl 24 _ _ rfl g ?_ (idA a) rfl (idA 0) k' (size23' _) (by rw [idA_size, idA_size]) (idA_one _) rfl p' _
    show ptrs 4 = _
    exact p'
  case o7 =>
    intro ptrs L w hw hn hL
    obtain ⟨⟨g, p, k, cz⟩, hz⟩ := hn
    have hL' : L 7 = false := hL
    have p' : ptrs 5 = .pointer (some ⟨g, 0, none⟩) := p
    have k' : w.heap[g]? = some (.cells (if L 7 = true then (idA b) else (idA 0)) 24 (0, 0)) := k
    rw [hL'] at k'
    refine ok2_store rfl 24 _ _ rfl g ?_ (idA b) rfl (idA 0) k' (size23' _) (by rw [idA_size, idA_size]) (idA_one _) rfl p' _
    show ptrs 5 = _
    exact p'
  intro ptrs L w2 G3 hL hn hap
  obtain ⟨⟨g4, p4, k4, c4⟩, ⟨g5, p5, k5, c5⟩, hz⟩ := hn
  have hap2 : List.Pairwise (fun i j => ptrs i ≠ ptrs j) [4, 5] := hap
  simp [p4, p5] at hap2
  simp only [full, foldSlots, filled2, postAt2, List.foldl_cons, List.foldl_nil, List.getD_cons_zero, List.getD_cons_succ, PostS.fill, PostS.val, PostS.new, PostS.put, List.set_cons_zero, List.set_cons_succ, List.drop_succ_cons, List.drop_zero, p4, p5]
  have kg4 : w2.heap[g4]? = some (.cells (idA a) 24 (0, 0)) := by
    have hL' : L 6 = true := by rw [hL]; rfl
    have kk : w2.heap[g4]? = some (.cells (if L 6 = true then (idA a) else (idA 0)) 24 (0, 0)) := k4
    rw [hL'] at kk
    exact kk
  have bg4 : w.heap.size ≤ g4 := Nat.le_trans GG.size c4
  have kg5 : w2.heap[g5]? = some (.cells (idA b) 24 (0, 0)) := by
    have hL' : L 7 = true := by rw [hL]; rfl
    have kk : w2.heap[g5]? = some (.cells (if L 7 = true then (idA b) else (idA 0)) 24 (0, 0)) := k5
    rw [hL'] at kk
    exact kk
  have bg5 : w.heap.size ≤ g5 := Nat.le_trans GG.size c5
  have GG2 := GG.drew.trans G3
  clear GG
  have GG := GG2
  clear GG2 G3 k4 k5 hap hL
  show wpList Try.prog _ _ _ ⟨[.slice ao l.length cap, .agg (twoA a b), .int .i64 half, undef, .pointer (some ⟨g1, 0, none⟩), undef, .bool false, .pointer (some ⟨g4, 0, none⟩), .pointer (some ⟨g5, 0, none⟩), undef, undef, undef, undef, undef, undef, undef, .pointer (some ⟨g1, 0, none⟩), .agg (idA a), .pointer (some ⟨g1, 16, none⟩), .agg (idA b), undef, undef, undef, undef, undef, undef, undef, undef, undef, undef, undef, undef, undef, undef, undef, undef, undef, undef, undef, undef, undef, undef, undef, undef, undef, undef, undef, undef, undef, undef, undef, undef, undef, undef, undef, undef, undef, undef, undef, undef, undef, undef, undef, undef, undef, undef, undef, undef].toArray, []⟩ _
  refine wpList_nil ?_
  refine then_n ?_
  refine wp_seq ?_
  refine wp_region_lit ?_
  refine s_val 20 rfl rfl (.slice ao l.length cap) (rfl) ?_
  refine nr ?_; intro U h; simp only [z0, z1] at h; subst h
  refine s_callv 21 rfl rfl _ 4 Try.call4 rfl rfl _ rfl [.slice ao l.length cap, .int .i64 40] rfl (Calls.valV (cut_any _ ao cap l (H.gro GG) 40) (by rw [ht])) ?_
  intro w3 G
  replace kg4 := G.has kg4
  replace kg5 := G.has kg5
  replace GG := GG.trans G
  clear G
  refine nr ?_; intro U h; simp only [z0, z1] at h; subst h
  refine s_val 0 rfl rfl (.slice ao t.length t.length) (rfl) ?_
  refine nr ?_; intro U h; simp only [z0] at h; subst h
  refine wpList_nil ?_
  refine then_n ?_
  refine wp_seq ?_
  refine wp_region_lit ?_
  refine s_val 22 rfl rfl (.agg (idA a)) (run_ldB _ rfl g4 _ rfl (kg4)) ?_
  refine nr ?_; intro U h; simp only [z0, z1] at h; subst h
  refine s_val 23 rfl rfl (.slice ao t.length t.length) (rfl) ?_
  refine nr ?_; intro U h; simp only [z0, z1] at h; subst h
  refine s_val 24 rfl rfl (.int .i64 half) (rfl) ?_
  refine nr ?_; intro U h; simp only [z0, z1] at h; subst h
  refine s_callx 25 rfl rfl _ 5 Try.call5 rfl rfl _ rfl [.agg (idA a), .slice ao t.length t.length, .int .i64 half] rfl (want_any _ ao t.length t (HT.gro GG) (by omega) a ha half) (by rintro _ _ ⟨_, _, he, _⟩; exact ⟨_, he⟩) ?_
  rintro v w4 ⟨ao1, cap1, he, G, HR1⟩
  cases he
  replace kg4 := G.has kg4
  replace kg5 := G.has kg5
  replace GG := GG.trans G
  clear G
  refine nr ?_; intro U h; simp only [z0, z1] at h; subst h
  refine s_val 9 rfl rfl (.slice ao1 ((want a t half).length) cap1) (rfl) ?_
  refine nr ?_; intro U h; simp only [z0, z1] at h; subst h
  refine wpList_nil ?_
  refine then_n ?_
  refine wp_seq ?_
  obtain ⟨B, hB⟩ : ∃ B, w4.heap.size = B := ⟨_, rfl⟩
  have hwB : w.heap.size ≤ B := hB ▸ GG.size
  refine wp_region_pm (A := ?A4) (fun _ x => Gro w4.drew x) 7 [(0, 26), (1, 27), (2, 28), (3, 29), (4, 30), (5, 31), (6, 32)] [.val (.agg (idA a)), .val (.slice ao t.length t.length), ownI B t, .val (.agg (idA b)), rowI [b], rowI (t ++ [b]), .val (.int .i64 half)] [(5, 2), (5, 4)] [5] follows (by kernel_rfl) rfl (by kernel_rfl) (by decide) (Gro.refl _) ?hA4 (opsM_g (fun _ _ _ h _ g => h.trans g) ?p0 (opsM_g (fun _ _ _ h _ g => h.trans g) ?p1 (opsM_g (fun _ _ _ h _ g => h.trans g) ?p2 (opsM_g (fun _ _ _ h _ g => h.trans g) ?p3 (opsM_g (fun _ _ _ h _ g => h.trans g) ?p4 (opsM_w ?p5 (opsM_g (fun _ _ _ h _ g => h.trans g) ?p6 opsM_nil))))))) ?rest4
  case hA4 =>
    intro ptrs
    simp only [full, foldSlots, filledE, postE, List.foldl_cons, List.foldl_nil, List.getD_cons_zero, List.getD_cons_succ, fill_val, fill_rowI, fill_ownI, List.set_cons_zero, List.set_cons_succ]
    exact rfl
  case p0 => exact fun _ _ _ hw _ _ _ _ => opE_value (v := .agg (idA a)) rfl (run_ldB _ rfl g4 _ rfl (hw.has kg4))
  case p1 => exact fun _ _ _ _ _ _ _ _ => opE_move (v := .slice ao t.length t.length) _ rfl rfl rfl
  case p2 => exact fun _ _ _ hw _ _ _ _ => opE_call (ownI B t) rfl _ 6 Try.call6 rfl rfl _ rfl [.slice ao t.length t.length] rfl ((copy_own _ ao t.length t (HT.gro (GG.drew.trans hw)) (by omega)).mono fun e w' ⟨ao, cap, he, hg, hr⟩ => ⟨_, he, hg, ao, cap, rfl, hr.mono (Nat.le_trans (Nat.le_of_eq hB.symm) hw.size)⟩)
  case p3 => exact fun _ _ _ hw _ _ _ _ => opE_value (v := .agg (idA b)) rfl (run_ldB _ rfl g5 _ rfl (hw.has kg5))
  case p4 => exact fun _ _ _ _ _ _ _ _ => opE_new (rowI [b]) rfl (run_bsl 22 1 _ rfl [(0, .agg (idA b))] rfl (bs1 b _)) (gro_alloc _ _) ⟨_, _, rfl, RC.all_blk (heap_alloc_new _ _) (all_of [b] ⟨hb, trivial⟩) (Nat.le_refl _)⟩
  case p5 =>
    intro L ptrs x hw _ _ _ hE
    obtain ⟨⟨ao2, cap2, h2, o2⟩, ⟨ao4, cap4, h4, o4⟩, _⟩ := hE
    refine opX_apI (rowI (t ++ [b])) rfl _ _ rfl (ao := ao2) (cap := cap2) (l := t) h2 o2 (ao' := ao4) (cap' := cap4) (l' := [b]) h4 o4 (by have : [b].length = 1 := rfl; omega) (Nat.le_trans (Nat.le_of_eq hB.symm) hw.size) ?_
    intro ao9 cap9 w' HO9 GS hbl
    refine ⟨⟨?_, StM.vals [0, 1, 3, 6] (by kernel_rfl) ⟨⟨_, rfl⟩, ⟨_, rfl⟩, ⟨_, rfl⟩, ⟨_, rfl⟩, trivial⟩⟩, ao9, cap9, rfl, HO9⟩
    exact GS.gro hw (fun k hk => by have := hbl k hk; exact Nat.le_trans (Nat.le_of_eq hB) this)
  case p6 => exact fun _ _ _ _ _ _ _ _ => opE_move (v := .int .i64 half) _ rfl rfl rfl
  intro ptrs w5 GD hxE
  simp only [List.drop_succ_cons, List.drop_zero]
  replace kg4 := GD.has kg4
  replace kg5 := GD.has kg5
  replace HR1 := HR1.gro ((Gro.refl _).drew.trans GD)
  replace GG := GG.drew.trans GD
  obtain ⟨⟨ao9, cap9, hx9, HL⟩, _⟩ := hxE
  simp only [hx9]
  clear hx9 GD
  refine s_callx 33 rfl rfl _ 5 Try.call5 rfl rfl _ rfl [.agg (idA a), .slice ao9 ((t ++ [b]).length) cap9, .int .i64 half] rfl (want_any _ ao9 cap9 (t ++ [b]) (HL) (by rw [List.length_append]; simp only [List.length_cons, List.length_nil]; omega) a ha half) (by rintro _ _ ⟨_, _, he, _⟩; exact ⟨_, he⟩) ?_
  rintro v w6 ⟨ao2, cap2, he, G, HR2⟩
  cases he
  replace kg4 := G.has kg4
  replace kg5 := G.has kg5
  replace HR1 := HR1.gro G
  replace HL := HL.gro G
  replace GG := GG.trans G
  clear G
  refine nr ?_; intro U h; simp only [z0, z1] at h; subst h
  refine s_val 10 rfl rfl (.slice ao2 ((want a (t ++ [b]) half).length) cap2) (rfl) ?_
  refine nr ?_; intro U h; simp only [z0, z1] at h; subst h
  refine wpList_nil ?_
  refine then_n ?_
  refine wp_seq ?_
  refine wp_region_lit ?_
  refine s_val 11 rfl rfl (.int .i64 0) (rfl) ?_
  refine nr ?_; intro U h; simp only [z0, z1] at h; subst h
  refine wpList_nil ?_
  refine then_n ?_
  refine wp_seq ?_
  refine wp_seq ?_
  refine wp_region_lit ?_
  refine s_val 34 rfl rfl (.slice ao1 ((want a t half).length) cap1) (rfl) ?_
  refine nr ?_; intro U h; simp only [z0, z1] at h; subst h
  refine s_val 35 rfl rfl (.int .i64 (((want a t half).length : Nat) : Int)) (run_len Try.underlying22 _ rfl _ _ _ rfl _) ?_
  refine nr ?_; intro U h; simp only [z0, z1] at h; subst h
  refine s_val 36 rfl rfl (.int .i64 0) (rfl) ?_
  refine nr ?_; intro U h; simp only [z0, z1] at h; subst h
  refine wpList_nil ?_
  refine then_n ?_
  refine wp_block ?_
  refine wp_loopN (fun mz az wv => ∃ (i : Nat) (g : Nat) (us1 : Nat → Value), mz = (want a t half).length - i ∧ az = ⟨[.slice ao t.length t.length, .agg (twoA a b), .int .i64 half, undef, .pointer (some ⟨g1, 0, none⟩), undef, .bool false, .pointer (some ⟨g4, 0, none⟩), .pointer (some ⟨g5, 0, none⟩), .slice ao1 ((want a t half).length) cap1, .slice ao2 ((want a (t ++ [b]) half).length) cap2, .int .i64 ((g : Nat) : Int), undef, us1 0, undef, undef, .pointer (some ⟨g1, 0, none⟩), .agg (idA a), .pointer (some ⟨g1, 16, none⟩), .agg (idA b), .slice ao l.length cap, .slice ao t.length t.length, .agg (idA a), .slice ao t.length t.length, .int .i64 half, .slice ao1 ((want a t half).length) cap1, .agg (idA a), .slice ao t.length t.length, ptrs 2, .agg (idA b), ptrs 4, .slice ao9 ((t ++ [b]).length) cap9, .int .i64 half, .slice ao2 ((want a (t ++ [b]) half).length) cap2, .slice ao1 ((want a t half).length) cap1, .int .i64 (((want a t half).length : Nat) : Int), .int .i64 ((i : Nat) : Int), us1 1, us1 2, us1 3, us1 4, us1 5, us1 6, us1 7, us1 8, us1 9, us1 10, undef, undef, undef, undef, undef, undef, undef, undef, undef, undef, undef, undef, undef, undef, undef, undef, undef, undef, undef, undef, undef].toArray, []⟩ ∧ i ≤ (want a t half).length ∧ g = ((want a t half).take i).countP (fun x => !decide (x ∈ (want a (t ++ [b]) half))) ∧ g ≤ i ∧ Gro w wv ∧ wv.heap[g5]? = some (.cells (idA b) 24 (0, 0)) ∧ RC wv ao1 cap1 (want a t half) ∧ RC wv ao2 cap2 (want a (t ++ [b]) half)) ?_ _ ⟨0, 0, (fun kz => ([undef, undef, undef, undef, undef, undef, undef, undef, undef, undef, undef] : List Value).getD kz undef), rfl, rfl, Nat.zero_le _, rfl, Nat.le_refl _, GG, kg5, HR1, HR2⟩
  clear GG kg5 HR1 HR2
  rintro mz az wv ⟨i, g, us1, rfl, rfl, hi, hg, hgi, GG, kg5, HR1, HR2⟩
  refine wp_seq ?_
  refine wp_region_lit ?_
  cases hi1 : decide (((i : Nat) : Int) < (((want a t half).length : Nat) : Int))
  · have hie : i = (want a t half).length := by have := of_decide_eq_false hi1; omega
    refine s_val 37 rfl rfl (.bool false) (run_lssT 3 _ _ _ rfl ((i : Nat) : Int) (((want a t half).length : Nat) : Int) rfl rfl false hi1 _) ?_
    refine nr ?_; intro U h; simp only [z0, z1] at h; subst h
    refine wpList_nil ?_
    refine then_n ?_
    refine wp_seq ?_
    refine wp_cond_false rfl ?_
    refine wp_exit ?_
    refine then_x ?_
    refine then_x ?_
    refine blk_x ?_
    refine then_n ?_
    refine wp_seq ?_
    refine wp_seq ?_
    refine wp_region_lit ?_
    refine s_val 47 rfl rfl (.slice ao2 ((want a (t ++ [b]) half).length) cap2) (rfl) ?_
    refine nr ?_; intro U h; simp only [z0, z1] at h; subst h
    refine s_val 48 rfl rfl (.int .i64 (((want a (t ++ [b]) half).length : Nat) : Int)) (run_len Try.underlying22 _ rfl _ _ _ rfl _) ?_
    refine nr ?_; intro U h; simp only [z0, z1] at h; subst h
    refine s_val 49 rfl rfl (.int .i64 0) (rfl) ?_
    refine nr ?_; intro U h; simp only [z0, z1] at h; subst h
    refine wpList_nil ?_
    refine then_n ?_
    refine wp_block ?_
    rw [hie, List.take_length] at hg
    rw [← hg] at hgg
    refine wp_loopN (fun mz az wv => ∃ (j : Nat) (us2 : Nat → Value), mz = (want a (t ++ [b]) half).length - j ∧ az = ⟨[.slice ao t.length t.length, .agg (twoA a b), .int .i64 half, undef, .pointer (some ⟨g1, 0, none⟩), undef, us2 0, .pointer (some ⟨g4, 0, none⟩), .pointer (some ⟨g5, 0, none⟩), .slice ao1 ((want a t half).length) cap1, .slice ao2 ((want a (t ++ [b]) half).length) cap2, .int .i64 ((g : Nat) : Int), undef, us1 0, undef, us2 1, .pointer (some ⟨g1, 0, none⟩), .agg (idA a), .pointer (some ⟨g1, 16, none⟩), .agg (idA b), .slice ao l.length cap, .slice ao t.length t.length, .agg (idA a), .slice ao t.length t.length, .int .i64 half, .slice ao1 ((want a t half).length) cap1, .agg (idA a), .slice ao t.length t.length, ptrs 2, .agg (idA b), ptrs 4, .slice ao9 ((t ++ [b]).length) cap9, .int .i64 half, .slice ao2 ((want a (t ++ [b]) half).length) cap2, .slice ao1 ((want a t half).length) cap1, .int .i64 (((want a t half).length : Nat) : Int), .int .i64 ((i : Nat) : Int), .bool false, us1 2, us1 3, us1 4, us1 5, us1 6, us1 7, us1 8, us1 9, us1 10, .slice ao2 ((want a (t ++ [b]) half).length) cap2, .int .i64 (((want a (t ++ [b]) half).length : Nat) : Int), .int .i64 ((j : Nat) : Int), us2 2, us2 3, us2 4, us2 5, us2 6, us2 7, us2 8, us2 9, us2 10, us2 11, us2 12, us2 13, us2 14, undef, undef, undef, undef, undef].toArray, []⟩ ∧ j ≤ (want a (t ++ [b]) half).length ∧ Gro w wv ∧ wv.heap[g5]? = some (.cells (idA b) 24 (0, 0)) ∧ RC wv ao1 cap1 (want a t half) ∧ RC wv ao2 cap2 (want a (t ++ [b]) half)) ?_ _ ⟨0, (fun kz => ([.bool false, undef, undef, undef, undef, undef, undef, undef, undef, undef, undef, undef, undef, undef, undef] : List Value).getD kz undef), rfl, rfl, Nat.zero_le _, GG, kg5, HR1, HR2⟩
    clear GG kg5 HR1 HR2
    rintro mz az wv ⟨j, us2, rfl, rfl, hj, GG, kg5, HR1, HR2⟩
    refine wp_seq ?_
    refine wp_region_lit ?_
    cases hj1 : decide (((j : Nat) : Int) < (((want a (t ++ [b]) half).length : Nat) : Int))
    · refine s_val 50 rfl rfl (.bool false) (run_lssT 3 _ _ _ rfl ((j : Nat) : Int) (((want a (t ++ [b]) half).length : Nat) : Int) rfl rfl false hj1 _) ?_
      refine nr ?_; intro U h; simp only [z0, z1] at h; subst h
      refine wpList_nil ?_
      refine then_n ?_
      refine wp_seq ?_
      refine wp_cond_false rfl ?_
      refine wp_exit ?_
      refine then_x ?_
      refine then_x ?_
      refine blk_x ?_
      refine then_n ?_
      refine wp_seq ?_
      refine wp_region_opq ?_
      intro OPS hY
      have y1 := hY 1 64 rfl
      clear hY
      refine s_callv 63 rfl rfl _ 8 Try.call8 rfl rfl _ rfl [] rfl (fixed_any _) ?_
      intro w7 G
      replace kg5 := G.has kg5
      replace HR1 := HR1.gro G
      replace HR2 := HR2.gro G
      replace GG := GG.trans G
      clear G
      refine nr ?_; intro U h; simp only [z0, z1] at h; subst h
      refine s_val 64 rfl rfl (.bool true) (rfl) ?_
      refine nr ?_; intro U h; simp only [z0, z1] at h; subst h
      refine s_gvalY 65 rfl rfl y1 rfl (.int .i64 ((g : Nat) : Int)) (rfl) ?_
      refine nr ?_; intro U h; simp only [z0, z1] at h; subst h
      refine s_gvalY 66 rfl rfl y1 rfl (.bool true) (run_leqT 3 _ _ _ rfl ((g : Nat) : Int) 2 rfl rfl true (decide_eq_true (by omega)) _) ?_
      refine nr ?_; intro U h; simp only [z0, z1] at h; subst h
      refine s_val 67 rfl rfl (.bool true) (rfl) ?_
      refine nr ?_; intro U h; simp only [z0, z1] at h; subst h
      refine s_val 6 rfl rfl (.bool true) (rfl) ?_
      refine nr ?_; intro U h; simp only [z0, z1] at h; subst h
      refine wpList_nil ?_
      refine then_n ?_
      refine wp_ret ?_
      refine bodyPost_ret (results_tmp Try.results3 _ _ _) rfl ?_
      exact ⟨rfl, GG⟩
    · have hjl : j < (want a (t ++ [b]) half).length := by have := of_decide_eq_true hj1; omega
      refine s_val 50 rfl rfl (.bool true) (run_lssT 3 _ _ _ rfl ((j : Nat) : Int) (((want a (t ++ [b]) half).length : Nat) : Int) rfl rfl true hj1 _) ?_
      refine nr ?_; intro U h; simp only [z0, z1] at h; subst h
      refine wpList_nil ?_
      refine then_n ?_
      refine wp_seq ?_
      refine wp_cond_true rfl ?_
      refine wp_skip ?_
      refine then_n ?_
      refine wp_seq ?_
      refine wp_block ?_
      refine wp_seq ?_
      refine wp_region_lit ?_
      refine s_val 51 rfl rfl (.pointer (pA ao2 j)) (run_ixI (HR2) _ _ rfl rfl j rfl hjl) ?_
      refine nr ?_; intro U h; simp only [z0, z1] at h; subst h
      refine s_val 52 rfl rfl (.agg (idA ((want a (t ++ [b]) half).getD j 0))) (run_ldI (HR2) _ rfl j rfl hjl) ?_
      refine nr ?_; intro U h; simp only [z0, z1] at h; subst h
      refine s_alloc 15 rfl rfl 24 rfl _ zero23 (idA 0) rfl ?_
      intro w7 g7 G eg7 kg7
      have bg7 := size_base GG eg7
      have dg5g7 := lt_new kg5 eg7
      have dHR1g7 := HR1.ne eg7
      have dHR2g7 := HR2.ne eg7
      replace kg5 := G.has kg5
      replace HR1 := HR1.gro G
      replace HR2 := HR2.gro G
      replace GG := GG.trans G
      clear G
      clear eg7
      refine nr ?_; intro U h; simp only [z0, z1] at h; subst h
      refine s_store rfl rfl 24 _ _ rfl g7 0 rfl (.agg (idA ((want a (t ++ [b]) half).getD j 0))) rfl 24 _ kg7 (idA ((want a (t ++ [b]) half).getD j 0)) rfl (size23' _) (idA_fit _ _) (idA_one _) (idA ((want a (t ++ [b]) half).getD j 0)) (splice_whole _ _ (idA_sz _ _)) ?_
      intro w8 St
      replace kg5 := St.has (by omega) kg5
      replace HR1 := HR1.st St dHR1g7
      replace HR2 := HR2.st St dHR2g7
      replace GG := GG.store St bg7
      replace kg7 := St.new
      clear St
      refine wpList_nil ?_
      refine then_n ?_
      refine wp_seq ?_
      cases hne : decide (((want a (t ++ [b]) half).getD j 0) = b)
      · have hm : decide (((want a (t ++ [b]) half).getD j 0) ∈ (want a t half)) = true := decide_eq_true (grow_old HT.all hb (getD_mem hjl) (of_decide_eq_false hne))
        refine wp_region_opq ?_
        intro OPS hY
        have y3 := hY 3 56 rfl
        clear hY
        refine s_val 53 rfl rfl (.agg (idA ((want a (t ++ [b]) half).getD j 0))) (run_ldB _ rfl g7 _ rfl (kg7)) ?_
        refine nr ?_; intro U h; simp only [z0, z1] at h; subst h
        refine s_val 54 rfl rfl (.agg (idA b)) (run_ldB _ rfl g5 _ rfl (kg5)) ?_
        refine nr ?_; intro U h; simp only [z0, z1] at h; subst h
        refine s_val 55 rfl rfl (.bool true) (run_neI _ _ _ rfl _ _ rfl rfl (HR2.at hjl) hb true hne) ?_
        refine nr ?_; intro U h; simp only [z0, z1] at h; subst h
        refine s_val 56 rfl rfl (.bool true) (rfl) ?_
        refine nr ?_; intro U h; simp only [z0, z1] at h; subst h
        refine s_gvalY 57 rfl rfl y3 rfl (.slice ao1 ((want a t half).length) cap1) (rfl) ?_
        refine nr ?_; intro U h; simp only [z0, z1] at h; subst h
        refine s_gvalY 58 rfl rfl y3 rfl (.agg (idA ((want a (t ++ [b]) half).getD j 0))) (run_ldB _ rfl g7 _ rfl (kg7)) ?_
        refine nr ?_; intro U h; simp only [z0, z1] at h; subst h
        refine s_gcallvY 59 rfl rfl y3 rfl _ 7 Try.call7 rfl rfl _ rfl [.slice ao1 ((want a t half).length) cap1, .agg (idA ((want a (t ++ [b]) half).getD j 0))] rfl (Calls.bool (has_any _ ao1 cap1 (want a t half) (HR1) (by have := want_len a t half; omega) ((want a (t ++ [b]) half).getD j 0) (HR2.at hjl)) hm) ?_
        intro w9 G
        replace kg5 := G.has kg5
        replace kg7 := G.has kg7
        replace HR1 := HR1.gro G
        replace HR2 := HR2.gro G
        replace GG := GG.trans G
        clear G
        refine nr ?_; intro U h; simp only [z0, z1] at h; subst h
        refine s_gvalY 60 rfl rfl y3 rfl (.bool false) (run_nt _ _ rfl true rfl) ?_
        refine nr ?_; intro U h; simp only [z0, z1] at h; subst h
        refine s_val 61 rfl rfl (.bool false) (rfl) ?_
        refine nr ?_; intro U h; simp only [z0, z1] at h; subst h
        refine wpList_nil ?_
        refine then_n ?_
        refine wp_cond_false rfl ?_
        refine wp_skip ?_
        refine blk_n ?_
        refine then_n ?_
        refine wp_region_lit ?_
        refine s_val 62 rfl rfl (.int .i64 ((j + 1 : Nat) : Int)) (run_addI 3 _ _ _ rfl ((j : Nat) : Int) 1 ((j + 1 : Nat) : Int) rfl rfl (by omega) (by omega) (by omega) _) ?_
        refine nr ?_; intro U h; simp only [z0, z1] at h; subst h
        refine s_val 49 rfl rfl (.int .i64 ((j + 1 : Nat) : Int)) (rfl) ?_
        refine nr ?_; intro U h; simp only [z0, z1] at h; subst h
        refine wpList_nil ?_
        refine then_n ?_
        exact ⟨_, (by omega : (want a (t ++ [b]) half).length - (j + 1) < (want a (t ++ [b]) half).length - j), j + 1, (fun kz => ([us2 0, .pointer (some ⟨g7, 0, none⟩), .bool true, .pointer (pA ao2 j), .agg (idA ((want a (t ++ [b]) half).getD j 0)), .agg (idA ((want a (t ++ [b]) half).getD j 0)), .agg (idA b), .bool true, .bool true, .slice ao1 ((want a t half).length) cap1, .agg (idA ((want a (t ++ [b]) half).getD j 0)), .bool true, .bool false, .bool false, .int .i64 ((j + 1 : Nat) : Int)] : List Value).getD kz undef), rfl, rfl, hjl, GG, kg5, HR1, HR2⟩
      · refine wp_region_opq ?_
        intro OPS hY
        have y3 := hY 3 56 rfl
        clear hY
        refine s_val 53 rfl rfl (.agg (idA ((want a (t ++ [b]) half).getD j 0))) (run_ldB _ rfl g7 _ rfl (kg7)) ?_
        refine nr ?_; intro U h; simp only [z0, z1] at h; subst h
        refine s_val 54 rfl rfl (.agg (idA b)) (run_ldB _ rfl g5 _ rfl (kg5)) ?_
        refine nr ?_; intro U h; simp only [z0, z1] at h; subst h
        refine s_val 55 rfl rfl (.bool false) (run_neI _ _ _ rfl _ _ rfl rfl (HR2.at hjl) hb false hne) ?_
        refine nr ?_; intro U h; simp only [z0, z1] at h; subst h
        refine s_val 56 rfl rfl (.bool false) (rfl) ?_
        refine nr ?_; intro U h; simp only [z0, z1] at h; subst h
        refine s_skipY 57 rfl rfl y3 rfl ?_
        refine nr ?_; intro U h; simp only [z0, z1] at h; subst h
        refine s_skipY 58 rfl rfl y3 rfl ?_
        refine nr ?_; intro U h; simp only [z0, z1] at h; subst h
        refine s_skipY 59 rfl rfl y3 rfl ?_
        refine nr ?_; intro U h; simp only [z0, z1] at h; subst h
        refine s_skipY 60 rfl rfl y3 rfl ?_
        refine nr ?_; intro U h; simp only [z0, z1] at h; subst h
        refine s_val 61 rfl rfl (.bool false) (rfl) ?_
        refine nr ?_; intro U h; simp only [z0, z1] at h; subst h
        refine wpList_nil ?_
        refine then_n ?_
        refine wp_cond_false rfl ?_
        refine wp_skip ?_
        refine blk_n ?_
        refine then_n ?_
        refine wp_region_lit ?_
        refine s_val 62 rfl rfl (.int .i64 ((j + 1 : Nat) : Int)) (run_addI 3 _ _ _ rfl ((j : Nat) : Int) 1 ((j + 1 : Nat) : Int) rfl rfl (by omega) (by omega) (by omega) _) ?_
        refine nr ?_; intro U h; simp only [z0, z1] at h; subst h
        refine s_val 49 rfl rfl (.int .i64 ((j + 1 : Nat) : Int)) (rfl) ?_
        refine nr ?_; intro U h; simp only [z0, z1] at h; subst h
        refine wpList_nil ?_
        refine then_n ?_
        exact ⟨_, (by omega : (want a (t ++ [b]) half).length - (j + 1) < (want a (t ++ [b]) half).length - j), j + 1, (fun kz => ([us2 0, .pointer (some ⟨g7, 0, none⟩), .bool true, .pointer (pA ao2 j), .agg (idA ((want a (t ++ [b]) half).getD j 0)), .agg (idA ((want a (t ++ [b]) half).getD j 0)), .agg (idA b), .bool false, .bool false, undef, undef, undef, undef, .bool false, .int .i64 ((j + 1 : Nat) : Int)] : List Value).getD kz undef), rfl, rfl, hjl, GG, kg5, HR1, HR2⟩
  · have hil : i < (want a t half).length := by have := of_decide_eq_true hi1; omega
    refine s_val 37 rfl rfl (.bool true) (run_lssT 3 _ _ _ rfl ((i : Nat) : Int) (((want a t half).length : Nat) : Int) rfl rfl true hi1 _) ?_
    refine nr ?_; intro U h; simp only [z0, z1] at h; subst h
    refine wpList_nil ?_
    refine then_n ?_
    refine wp_seq ?_
    refine wp_cond_true rfl ?_
    refine wp_skip ?_
    refine then_n ?_
    refine wp_seq ?_
    refine wp_block ?_
    refine wp_seq ?_
    refine wp_region_lit ?_
    refine s_val 38 rfl rfl (.pointer (pA ao1 i)) (run_ixI (HR1) _ _ rfl rfl i rfl hil) ?_
    refine nr ?_; intro U h; simp only [z0, z1] at h; subst h
    refine s_val 39 rfl rfl (.agg (idA ((want a t half).getD i 0))) (run_ldI (HR1) _ rfl i rfl hil) ?_
    refine nr ?_; intro U h; simp only [z0, z1] at h; subst h
    refine s_alloc 13 rfl rfl 24 rfl _ zero23 (idA 0) rfl ?_
    intro w7 g6 G eg6 kg6
    have bg6 := size_base GG eg6
    have dg5g6 := lt_new kg5 eg6
    have dHR1g6 := HR1.ne eg6
    have dHR2g6 := HR2.ne eg6
    replace kg5 := G.has kg5
    replace HR1 := HR1.gro G
    replace HR2 := HR2.gro G
    replace GG := GG.trans G
    clear G
    clear eg6
    refine nr ?_; intro U h; simp only [z0, z1] at h; subst h
    refine s_store rfl rfl 24 _ _ rfl g6 0 rfl (.agg (idA ((want a t half).getD i 0))) rfl 24 _ kg6 (idA ((want a t half).getD i 0)) rfl (size23' _) (idA_fit _ _) (idA_one _) (idA ((want a t half).getD i 0)) (splice_whole _ _ (idA_sz _ _)) ?_
    intro w8 St
    replace kg5 := St.has (by omega) kg5
    replace HR1 := HR1.st St dHR1g6
    replace HR2 := HR2.st St dHR2g6
    replace GG := GG.store St bg6
    replace kg6 := St.new
    clear St
    refine wpList_nil ?_
    refine then_n ?_
    refine wp_seq ?_
    cases hm : decide (((want a t half).getD i 0) ∈ (want a (t ++ [b]) half))
    · refine wp_region_lit ?_
      refine s_val 40 rfl rfl (.slice ao2 ((want a (t ++ [b]) half).length) cap2) (rfl) ?_
      refine nr ?_; intro U h; simp only [z0, z1] at h; subst h
      refine s_val 41 rfl rfl (.agg (idA ((want a t half).getD i 0))) (run_ldB _ rfl g6 _ rfl (kg6)) ?_
      refine nr ?_; intro U h; simp only [z0, z1] at h; subst h
      refine s_callv 42 rfl rfl _ 7 Try.call7 rfl rfl _ rfl [.slice ao2 ((want a (t ++ [b]) half).length) cap2, .agg (idA ((want a t half).getD i 0))] rfl (Calls.bool (has_any _ ao2 cap2 (want a (t ++ [b]) half) (HR2) (by have h1 := want_len a (t ++ [b]) half; rw [List.length_append] at h1; simp only [List.length_cons, List.length_nil] at h1; omega) ((want a t half).getD i 0) (HR1.at hil)) hm) ?_
      intro w9 G
      replace kg5 := G.has kg5
      replace kg6 := G.has kg6
      replace HR1 := HR1.gro G
      replace HR2 := HR2.gro G
      replace GG := GG.trans G
      clear G
      refine nr ?_; intro U h; simp only [z0, z1] at h; subst h
      refine s_val 43 rfl rfl (.bool true) (run_nt _ _ rfl false rfl) ?_
      refine nr ?_; intro U h; simp only [z0, z1] at h; subst h
      refine wpList_nil ?_
      refine then_n ?_
      refine wp_cond_true rfl ?_
      refine wp_region_lit ?_
      refine s_val 44 rfl rfl (.int .i64 ((g : Nat) : Int)) (rfl) ?_
      refine nr ?_; intro U h; simp only [z0, z1] at h; subst h
      refine s_val 45 rfl rfl (.int .i64 ((g + 1 : Nat) : Int)) (run_addI 3 _ _ _ rfl ((g : Nat) : Int) 1 ((g + 1 : Nat) : Int) rfl rfl (by omega) (by omega) (by omega) _) ?_
      refine nr ?_; intro U h; simp only [z0, z1] at h; subst h
      refine s_val 11 rfl rfl (.int .i64 ((g + 1 : Nat) : Int)) (rfl) ?_
      refine nr ?_; intro U h; simp only [z0, z1] at h; subst h
      refine wpList_nil ?_
      refine blk_n ?_
      refine then_n ?_
      refine wp_region_lit ?_
      refine s_val 46 rfl rfl (.int .i64 ((i + 1 : Nat) : Int)) (run_addI 3 _ _ _ rfl ((i : Nat) : Int) 1 ((i + 1 : Nat) : Int) rfl rfl (by omega) (by omega) (by omega) _) ?_
      refine nr ?_; intro U h; simp only [z0, z1] at h; subst h
      refine s_val 36 rfl rfl (.int .i64 ((i + 1 : Nat) : Int)) (rfl) ?_
      refine nr ?_; intro U h; simp only [z0, z1] at h; subst h
      refine wpList_nil ?_
      refine then_n ?_
      have hst := gone_step (was := (want a t half)) (now := (want a (t ++ [b]) half)) hil
      rw [if_neg (of_decide_eq_false hm)] at hst
      exact ⟨_, (by omega : (want a t half).length - (i + 1) < (want a t half).length - i), i + 1, g + 1, (fun kz => ([.pointer (some ⟨g6, 0, none⟩), .bool true, .pointer (pA ao1 i), .agg (idA ((want a t half).getD i 0)), .slice ao2 ((want a (t ++ [b]) half).length) cap2, .agg (idA ((want a t half).getD i 0)), .bool false, .bool true, .int .i64 ((g : Nat) : Int), .int .i64 ((g + 1 : Nat) : Int), .int .i64 ((i + 1 : Nat) : Int)] : List Value).getD kz undef), rfl, rfl, hil, (by omega), (by omega), GG, kg5, HR1, HR2⟩
    · refine wp_region_lit ?_
      refine s_val 40 rfl rfl (.slice ao2 ((want a (t ++ [b]) half).length) cap2) (rfl) ?_
      refine nr ?_; intro U h; simp only [z0, z1] at h; subst h
      refine s_val 41 rfl rfl (.agg (idA ((want a t half).getD i 0))) (run_ldB _ rfl g6 _ rfl (kg6)) ?_
      refine nr ?_; intro U h; simp only [z0, z1] at h; subst h
      refine s_callv 42 rfl rfl _ 7 Try.call7 rfl rfl _ rfl [.slice ao2 ((want a (t ++ [b]) half).length) cap2, .agg (idA ((want a t half).getD i 0))] rfl (Calls.bool (has_any _ ao2 cap2 (want a (t ++ [b]) half) (HR2) (by have h1 := want_len a (t ++ [b]) half; rw [List.length_append] at h1; simp only [List.length_cons, List.length_nil] at h1; omega) ((want a t half).getD i 0) (HR1.at hil)) hm) ?_
      intro w9 G
      replace kg5 := G.has kg5
      replace kg6 := G.has kg6
      replace HR1 := HR1.gro G
      replace HR2 := HR2.gro G
      replace GG := GG.trans G
      clear G
      refine nr ?_; intro U h; simp only [z0, z1] at h; subst h
      refine s_val 43 rfl rfl (.bool false) (run_nt _ _ rfl true rfl) ?_
      refine nr ?_; intro U h; simp only [z0, z1] at h; subst h
      refine wpList_nil ?_
      refine then_n ?_
      refine wp_cond_false rfl ?_
      refine wp_skip ?_
      refine blk_n ?_
      refine then_n ?_
      refine wp_region_lit ?_
      refine s_val 46 rfl rfl (.int .i64 ((i + 1 : Nat) : Int)) (run_addI 3 _ _ _ rfl ((i : Nat) : Int) 1 ((i + 1 : Nat) : Int) rfl rfl (by omega) (by omega) (by omega) _) ?_
      refine nr ?_; intro U h; simp only [z0, z1] at h; subst h
      refine s_val 36 rfl rfl (.int .i64 ((i + 1 : Nat) : Int)) (rfl) ?_
      refine nr ?_; intro U h; simp only [z0, z1] at h; subst h
      refine wpList_nil ?_
      refine then_n ?_
      have hst := gone_step (was := (want a t half)) (now := (want a (t ++ [b]) half)) hil
      rw [if_pos (of_decide_eq_true hm)] at hst
      exact ⟨_, (by omega : (want a t half).length - (i + 1) < (want a t half).length - i), i + 1, g, (fun kz => ([.pointer (some ⟨g6, 0, none⟩), .bool true, .pointer (pA ao1 i), .agg (idA ((want a t half).getD i 0)), .slice ao2 ((want a (t ++ [b]) half).length) cap2, .agg (idA ((want a t half).getD i 0)), .bool true, .bool false, us1 8, us1 9, .int .i64 ((i + 1 : Nat) : Int)] : List Value).getD kz undef), rfl, rfl, hil, (by omega), (by omega), GG, kg5, HR1, HR2⟩
end Go.Proofs.Ytkckjkimjeakcab
