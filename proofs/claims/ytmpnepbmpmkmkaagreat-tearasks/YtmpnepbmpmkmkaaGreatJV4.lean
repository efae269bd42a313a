/- Friends, spare paths, twins and first paths are the document's. -/
import Derived.Test.YtmpnepbmpmkmkaaGreatJV2
import Derived.Test.YtmpnepbmpmkmkaaGreatJX7
import Derived.Test.YtmpnepbmpmkmkaaGreatJE1
namespace Go.Proofs.YtmpnepbmpmkmkaaGreat
open Classical
open Go.RowKit Go.Maps
/-- A region in whatever order with new blocks, the frame written out by the caller. -/
def opsA2 (P : Program) (ops : Array Oper) (posts : List PostS) (A : (Nat → Value) → Act) (w0 : World) : Nat → List Oper → Prop
  | _, [] => True
  | i, o :: r => (∀ ptrs L w, Gro w0 w → newsHold2 L w0.heap.size posts ptrs w (edges o) → L i = false → OpOK2 P ops (postAt2 posts i) (postAt2 posts (postAt2 posts i).other) (ptrs (postAt2 posts i).other) o (A ptrs) w) ∧ opsA2 P ops posts A w0 (i + 1) r
theorem opsA2_nil {P : Program} {ops : Array Oper} {posts : List PostS} {A : (Nat → Value) → Act} {w0 : World} {i : Nat} : opsA2 P ops posts A w0 i [] := trivial
theorem opsA2_cons {P : Program} {ops : Array Oper} {posts : List PostS} {A : (Nat → Value) → Act} {w0 : World} {i : Nat} {o : Oper} {r : List Oper}
    (h : ∀ ptrs L w, Gro w0 w → newsHold2 L w0.heap.size posts ptrs w (edges o) → L i = false → OpOK2 P ops (postAt2 posts i) (postAt2 posts (postAt2 posts i).other) (ptrs (postAt2 posts i).other) o (A ptrs) w) (hr : opsA2 P ops posts A w0 (i + 1) r) : opsA2 P ops posts A w0 i (o :: r) := ⟨h, hr⟩
theorem ops2_of_A {P : Program} {ops : Array Oper} {posts : List PostS} {a0 : Act} {D : List (Nat × Nat)} {w0 : World} : ∀ (l : List Oper) (i : Nat), opsA2 P ops posts (fun ptrs => full a0 D (filled2 posts ptrs)) w0 i l → opsOK2 P ops posts a0 D w0 i l
  | [], _, _ => trivial
  | _ :: r, i, h => ⟨h.1, ops2_of_A r (i + 1) h.2⟩
theorem wp_region_g2A {P : Program} {id : Nat} {l : List Oper} {Q : Exit → Act → World → Prop} {a0 : Act} {w : World} {A : (Nat → Value) → Act} (n : Nat) (D : List (Nat × Nat)) (posts : List PostS) (hm : P.follows .mixedOrders = true)
    (hB : growB l.toArray n D = true) (hP : postsB l.toArray n (postAt2 posts) = true) (hsz : (D.all fun p => decide (p.2 < a0.tmps.size)) = true)
    (hA : ∀ ptrs, full a0 D (filled2 posts ptrs) = A ptrs)
    (hop : opsA2 P l.toArray posts A w.drew 0 (l.take n))
    (hrest : ∀ ptrs L w', Gro w.drew w' → (∀ i, L i = decide (i < n)) → newsHold2 L w.heap.size posts ptrs w' (List.range n) → newsApart2 posts ptrs n → wpList P l.toArray Q (l.drop n) (A ptrs) w') :
    (Code.region id l.toArray true).wp P Q a0 w := by
  have e : A = fun ptrs => full a0 D (filled2 posts ptrs) := funext fun ptrs => (hA ptrs).symm
  subst e
  exact wp_region_grow2 n D posts hm hB hP hsz (ops2_of_A _ _ hop) hrest
theorem apart_two {posts : List PostS} {ptrs : Nat → Value} {n i j : Nat} (h : newsApart2 posts ptrs n) (hf : ((List.range n).filter fun i => (postAt2 posts i).kind == 1) = [i, j]) : ptrs i ≠ ptrs j := by
  unfold newsApart2 at h
  rw [hf] at h
  exact (List.pairwise_cons.1 h).1 j (by simp)
section
variable {w : World} {ao : Option Addr} {cap B b g : Nat} {l L : List En}
theorem RE.neG (h : RE w ao cap l) (c : w.heap.size ≤ g) : NE ao (flE l).length g := fun ad ha h0 => by
  have := h.lt ad ha h0
  omega
theorem OE.neG (h : OE w B ao cap l) (c : w.heap.size ≤ g) : g ∉ Go.Proofs.YtmpnepbmpmkmkaaGreat.blk ao := fun hm => by
  have := h.own.lt g hm
  omega
theorem TM.neG (h : TM w b L) (c : w.heap.size ≤ g) : b ≠ g := by have := h.lt; omega
theorem RK.neG {α : Type} {K : Kd α} {l : List α} (h : RK K w ao cap l) (c : w.heap.size ≤ g) : NE ao (l.flatMap K.E).length g := fun ad ha h0 => by
  have := h.lt ad ha h0
  omega
theorem OW.neG {α : Type} {K : Kd α} {e : TypeId} {l : List α} (h : OW K e w B ao cap l) (c : w.heap.size ≤ g) : g ∉ Go.Proofs.YtmpnepbmpmkmkaaGreat.blk ao := fun hm => by
  have := h.own.lt g hm
  omega
end
def id2A (a b : Nat) : Array Value := ((idA a).toList ++ (idA b).toList).toArray
theorem sz2 (a b : Nat) : (id2A a b).size = 32 := by kernel_rfl
theorem ldW_0 {o : Oper} {A : Act} {w : World} {a b : Nat} (y_ : Operand) (ho : o.op = .load 24 y_) (g_ : Nat) (hx : A.eval y_ = .pointer (some ⟨g_, 0, none⟩)) (hg : w.heap[g_]? = some (.cells (id2A a b) 25 (0, 0))) : (execOp A.eval o).run Tryz.prog w = .ok (.value (.agg (idA a))) w :=
  run_lda 24 y_ ho g_ 0 16 hx 25 _ hg _ Tryz.underlying24 rfl size23 (by rw [sz2]; decide) _ (by kernel_rfl)
theorem ldW_1 {o : Oper} {A : Act} {w : World} {a b : Nat} (y_ : Operand) (ho : o.op = .load 24 y_) (g_ : Nat) (hx : A.eval y_ = .pointer (some ⟨g_, 16, none⟩)) (hg : w.heap[g_]? = some (.cells (id2A a b) 25 (0, 0))) : (execOp A.eval o).run Tryz.prog w = .ok (.value (.agg (idA b))) w :=
  run_lda 24 y_ ho g_ 16 16 hx 25 _ hg _ Tryz.underlying24 rfl size23 (by rw [sz2]; decide) _ (by kernel_rfl)
theorem run_ia2 {o : Oper} {A : Act} (x y : Operand) (ho : o.op = .indexAddr 25 x y) (g j : Nat) (hj : j < 2) (hx : A.eval x = .pointer (some ⟨g, 0, none⟩)) (hy : A.eval y = .int .i64 (j : Int)) (w : World) : (execOp A.eval o).run Tryz.prog w = .ok (.value (.pointer (some ⟨g, j * 16, none⟩))) w := by
  have hs : (sizeOf 24).run Tryz.prog w = .ok 16 w := by kernel_rfl
  have h : (Instr.indexAt 25 (.pointer (some ⟨g, 0, none⟩)) (.int .i64 (j : Int))).run Tryz.prog w = .ok (.pointer (some ⟨g, j * 16, none⟩)) w := by
    have hjj : (j : Int) < 2 := by omega
    simp only [Instr.indexAt, Sem.run_bind, run_underlying Tryz.underlying25, Result.andThen_ok]
    simp [Instr.sureAddr, asIntOf, hjj, add_at]
  unfold execOp
  simp only [ho, hx, hy, Sem.run_bind, h, Result.andThen_ok, Sem.run_pure]
theorem fst_ok {L : List En} (h : AllE L) (d : Nat) : ((fstE L d).getD zE).ok := by
  cases e : fstE L d with
  | none => exact zE_ok
  | some x => exact h x (ownL_mem.1 (List.mem_of_find?_eq_some e)).1
theorem spr_len (L : List En) (s : Nat) (half : Int) : (sprL L s half).length ≤ L.length := by
  rw [← spF_all]
  exact Nat.le_trans (spF_len _ _ _) (own_len L)
theorem twn_len (L : List En) : (twnL L).length ≤ L.length := Nat.le_trans (twT_len _ _) (own_len L)
set_option maxRecDepth 100000 in
set_option maxHeartbeats 4000000 in
theorem tearAsks_any (w : World) (ae : Option Addr) (ce : Nat) (E : List En) (HE : RE w ae ce E) (hEl : E.length ≤ maxLen) (i1_ i2_ : Nat) (hi1_ : i1_ < top) (hi2_ : i2_ < top) (half : Int) : Calls Tryz.prog 3 #[.slice ae E.length ce, .agg (id2A i1_ i2_), .int .i64 half] w (fun e w' => e = .returned (.bool true) ∧ Gro w w') := by
  refine s_enter Tryz.func3 rfl Tryz.ntmps3 [.slice ae E.length ce, .agg (id2A i1_ i2_), .int .i64 half] [.slice ae E.length ce, .agg (id2A i1_ i2_), .int .i64 half, undef, undef, undef, undef, undef, undef, undef, undef, undef, undef, undef, undef, undef, undef, undef, undef, undef, undef, undef, undef, undef, undef, undef, undef, undef, undef, undef, undef, undef, undef, undef, undef, undef, undef, undef, undef, undef, undef, undef, undef, undef, undef, undef, undef, undef, undef, undef, undef, undef, undef, undef, undef, undef, undef, undef, undef, undef, undef, undef, undef, undef, undef, undef, undef, undef, undef, undef, undef, undef, undef, undef, undef, undef, undef, undef, undef, undef, undef, undef, undef] rfl ?_
  have GG := Gro.refl w
  obtain ⟨L, hL⟩ : ∃ L, layR 128 E = L := ⟨_, rfl⟩
  have hTI : TI 128 L := hL ▸ layR_ti HE.all
  have hRg : Rg L := hTI.rgt
  have hLb : L.length ≤ 1000 := Nat.le_trans hTI.fit (by decide)
  have hL8 := hTI.fit
  have hfl := frd_len L i1_
  have hspl := spr_len L i1_ half
  have htwl := twn_len L
  refine wp_seq ?_
  refine wp_region_lit ?_
  refine s_box 4 rfl rfl 25 _ rfl _ rfl (id2A i1_ i2_) rfl ?_
  intro w1 g1 G eg1 kg1
  have bg1 := size_base GG eg1
  have dHEg1 := HE.ne eg1
  replace HE := HE.gro G
  replace GG := GG.trans G
  clear G
  clear eg1
  refine nr ?_; intro U h; simp only [z0, z1] at h; subst h
  refine s_val 6 rfl rfl (.bool false) (rfl) ?_
  refine nr ?_; intro U h; simp only [z0, z1] at h; subst h
  refine wpList_nil ?_
  refine then_n ?_
  refine wp_seq ?_
  refine wp_region_g2A (A := ?Ax2) 7 [(0, 15), (1, 16), (2, 17), (3, 18), (4, 7), (5, 8)] [.val (.pointer (some ⟨g1, 0, none⟩)), .val (.agg (idA i1_)), .val (.pointer (some ⟨g1, 16, none⟩)), .val (.agg (idA i2_)), .new 24 (idA 0) (idA i1_) 6, .new 24 (idA 0) (idA 0) 999, .put 4] follows (by kernel_rfl) (by kernel_rfl) rfl ?hAx2 (opsA2_cons ?o0x2 (opsA2_cons ?o1x2 (opsA2_cons ?o2x2 (opsA2_cons ?o3x2 (opsA2_cons ?o4x2 (opsA2_cons ?o5x2 (opsA2_cons ?o6x2 opsA2_nil))))))) ?restx2
  case hAx2 =>
    intro ptrs
    simp only [full, foldSlots, filled2, postAt2, List.foldl_cons, List.foldl_nil, List.getD_cons_zero, List.getD_cons_succ, PostS.fill, PostS.val, PostS.new, PostS.put, List.set_cons_zero, List.set_cons_succ]
    exact rfl
  case o0x2 => exact fun _ _ _ _ _ _ => OpOK2.of_val (ok_value (v := .pointer (some ⟨g1, 0, none⟩)) rfl (run_ia2 _ _ rfl g1 0 (by decide) rfl rfl _))
  case o1x2 => exact fun _ _ _ hw _ _ => OpOK2.of_val (ok_value (v := .agg (idA i1_)) rfl (ldW_0 _ rfl g1 rfl (hw.has kg1)))
  case o2x2 => exact fun _ _ _ _ _ _ => OpOK2.of_val (ok_value (v := .pointer (some ⟨g1, 16, none⟩)) rfl (run_ia2 _ _ rfl g1 1 (by decide) rfl rfl _))
  case o3x2 => exact fun _ _ _ hw _ _ => OpOK2.of_val (ok_value (v := .agg (idA i2_)) rfl (ldW_1 _ rfl g1 rfl (hw.has kg1)))
  case o4x2 => exact fun _ _ _ _ _ _ => OpOK2.of_new (ok_alloc rfl 24 rfl _ zero23)
  case o5x2 => exact fun _ _ _ _ _ _ => OpOK2.of_new (ok_alloc rfl 24 rfl _ zero23)
  case o6x2 =>
    intro ptrs Lq wq hw hn hL
    obtain ⟨⟨gq, pq, kq, cq⟩, hz⟩ := hn
    have hL' : Lq 6 = false := hL
    have p' : ptrs 4 = .pointer (some ⟨gq, 0, none⟩) := pq
    have k' : wq.heap[gq]? = some (.cells (if Lq 6 = true then (idA i1_) else (idA 0)) 24 (0, 0)) := kq
    rw [hL'] at k'
    refine ok2_store rfl 24 _ _ rfl gq ?_ (idA i1_) rfl (idA 0) k' (size23' _) (idA_sz _ _) (idA_one _) rfl p' _
    show ptrs 4 = _
    exact p'
  intro ptrs Lz w2 GD hLz hnz hapz
  obtain ⟨⟨gS, pzgS, kgS, czgS⟩, ⟨⟨gI, pzgI, kgI, czgI⟩, hzz⟩⟩ := hnz
  simp only [List.drop_succ_cons, List.drop_zero, pzgS, pzgI]
  replace kgS : w2.heap[gS]? = some (.cells (idA i1_) 24 (0, 0)) := by
    have hL' : Lz 6 = true := by rw [hLz]; rfl
    have kk : w2.heap[gS]? = some (.cells (if Lz 6 = true then (idA i1_) else (idA 0)) 24 (0, 0)) := kgS
    rw [hL'] at kk
    exact kk
  replace kgI : w2.heap[gI]? = some (.cells (idA 0) 24 (0, 0)) := by
    have kk : w2.heap[gI]? = some (.cells (if Lz 999 = true then (idA 0) else (idA 0)) 24 (0, 0)) := kgI
    rwa [ite_self] at kk
  have ngSgI : gS ≠ gI := fun e => apart_two (i := 4) (j := 5) hapz (by kernel_rfl) (by rw [pzgS, pzgI, e])
  clear hzz hapz hLz
  have dg1gS : g1 < gS := Nat.lt_of_lt_of_le (lt_of_heap kg1) czgS
  have dHEgS := HE.neG czgS
  have dg1gI : g1 < gI := Nat.lt_of_lt_of_le (lt_of_heap kg1) czgI
  have dHEgI := HE.neG czgI
  replace kg1 := GD.has kg1
  replace HE := HE.gro ((Gro.refl _).drew.trans GD)
  have bgS := Nat.le_trans GG.size czgS
  have bgI := Nat.le_trans GG.size czgI
  replace GG := GG.drew.trans GD
  clear GD pzgS czgS pzgI czgI
  refine s_store rfl rfl 24 _ _ rfl gI 0 rfl (.agg (idA i2_)) rfl 24 _ kgI (idA i2_) rfl (size23' _) (idA_fit _ _) (idA_one _) (idA i2_) (splice_whole _ _ (idA_sz _ _)) ?_
  intro w3 St
  have kS := kgI
  replace kg1 := St.has (by omega) kg1
  replace kgS := St.has (by omega) kgS
  replace HE := HE.st St dHEgI
  replace GG := GG.store St bgI
  replace kgI := St.new
  clear St
  refine wpList_nil ?_
  refine then_n ?_
  refine wp_seq ?_
  refine wp_region_lit ?_
  refine s_val 20 rfl rfl (.slice ae E.length ce) (rfl) ?_
  refine nr ?_; intro U h; simp only [z0, z1] at h; subst h
  refine s_callx 21 rfl rfl _ 5 Tryz.call5 rfl rfl _ rfl [.slice ae E.length ce] rfl (laid_eq _ ae ce E L HE hEl hL) (by rintro _ _ ⟨_, _, _, _, _, he, _⟩; exact ⟨_, he⟩) ?_
  rintro v w4 ⟨t, b, r, ra, rc, he, G, kt, HTt, kr, HL, h1t, h1b, h1r⟩
  cases he
  have dg1t : g1 < t := Nat.lt_of_lt_of_le (lt_of_heap kg1) h1t
  have dg1r : g1 < r := Nat.lt_of_lt_of_le (lt_of_heap kg1) h1r
  have dgSt : gS < t := Nat.lt_of_lt_of_le (lt_of_heap kgS) h1t
  have dgSr : gS < r := Nat.lt_of_lt_of_le (lt_of_heap kgS) h1r
  have dgIt : gI < t := Nat.lt_of_lt_of_le (lt_of_heap kgI) h1t
  have dgIr : gI < r := Nat.lt_of_lt_of_le (lt_of_heap kgI) h1r
  have bt := Nat.le_trans GG.size h1t
  have bb := Nat.le_trans GG.size h1b
  have br := Nat.le_trans GG.size h1r
  clear h1t h1b h1r
  replace kg1 := G.has kg1
  replace kgS := G.has kgS
  replace kgI := G.has kgI
  replace GG := GG.trans G
  clear G
  refine nr ?_; intro U h; simp only [z0, z1] at h; subst h
  have ntr : t ≠ r := fun e => ne_cells kt kr (by decide) (by simp [e])
  have dHTtg1 := (HTt.nec kg1).symm
  have dHLg1 := HL.own.ne kg1 (by decide)
  have dHTtgS := (HTt.nec kgS).symm
  have dHLgS := HL.own.ne kgS (by decide)
  have dHTtgI := (HTt.nec kgI).symm
  have dHLgI := HL.own.ne kgI (by decide)
  refine s_val 19 rfl rfl (.tuple #[.pointer (some ⟨t, 0, none⟩), .pointer (some ⟨r, 0, none⟩)]) (rfl) ?_
  refine nr ?_; intro U h; simp only [z0, z1] at h; subst h
  refine s_val 22 rfl rfl (.pointer (some ⟨t, 0, none⟩)) (rfl) ?_
  refine nr ?_; intro U h; simp only [z0, z1] at h; subst h
  refine s_val 23 rfl rfl (.pointer (some ⟨r, 0, none⟩)) (rfl) ?_
  refine nr ?_; intro U h; simp only [z0, z1] at h; subst h
  refine s_val 9 rfl rfl (.pointer (some ⟨t, 0, none⟩)) (rfl) ?_
  refine nr ?_; intro U h; simp only [z0, z1] at h; subst h
  refine s_val 10 rfl rfl (.pointer (some ⟨r, 0, none⟩)) (rfl) ?_
  refine nr ?_; intro U h; simp only [z0, z1] at h; subst h
  refine wpList_nil ?_
  refine then_n ?_
  refine wp_seq ?_
  refine wp_region_lit ?_
  refine s_val 25 rfl rfl (.pointer (some ⟨t, 0, none⟩)) (rfl) ?_
  refine nr ?_; intro U h; simp only [z0, z1] at h; subst h
  refine s_val 26 rfl rfl (.agg (idA i2_)) (ldI0 _ rfl gI rfl (kgI)) ?_
  refine nr ?_; intro U h; simp only [z0, z1] at h; subst h
  refine s_callv 27 rfl rfl _ 6 Tryz.call6 rfl rfl _ rfl [.pointer (some ⟨t, 0, none⟩), .agg (idA i2_)] rfl (fir_any _ t b 128 L (kt) (HTt) hTI.ris hLb i2_ hi2_) ?_
  intro w5 G
  replace kg1 := G.has kg1
  replace kgS := G.has kgS
  replace kgI := G.has kgI
  replace kt := G.has kt
  replace kr := G.has kr
  replace HTt := HTt.gro G
  replace HL := HL.gro G
  replace GG := GG.trans G
  clear G
  refine nr ?_; intro U h; simp only [z0, z1] at h; subst h
  refine s_val 24 rfl rfl (.tuple #[.agg (enA ((fstE L i2_).getD zE)), .bool ((fstE L i2_).isSome)]) (rfl) ?_
  refine nr ?_; intro U h; simp only [z0, z1] at h; subst h
  refine s_val 28 rfl rfl (.agg (enA ((fstE L i2_).getD zE))) (rfl) ?_
  refine nr ?_; intro U h; simp only [z0, z1] at h; subst h
  refine s_val 29 rfl rfl (.bool ((fstE L i2_).isSome)) (rfl) ?_
  refine nr ?_; intro U h; simp only [z0, z1] at h; subst h
  refine s_alloc 11 rfl rfl 33 rfl _ zero33 (enA zE) rfl ?_
  intro w6 g2 G eg2 kg2
  have bg2 := size_base GG eg2
  have dg1g2 := lt_new kg1 eg2
  have dgSg2 := lt_new kgS eg2
  have dgIg2 := lt_new kgI eg2
  have dtg2 := lt_new kt eg2
  have drg2 := lt_new kr eg2
  have dHTtg2 := HTt.ne eg2
  have dHLg2 := HL.ne eg2
  replace kg1 := G.has kg1
  replace kgS := G.has kgS
  replace kgI := G.has kgI
  replace kt := G.has kt
  replace kr := G.has kr
  replace HTt := HTt.gro G
  replace HL := HL.gro G
  replace GG := GG.trans G
  clear G
  clear eg2
  refine nr ?_; intro U h; simp only [z0, z1] at h; subst h
  refine s_store rfl rfl 33 _ _ rfl g2 0 rfl (.agg (enA ((fstE L i2_).getD zE))) rfl 33 _ kg2 (enA ((fstE L i2_).getD zE)) rfl (si33' _) (enA_fit _ _) (enA_one _) (enA ((fstE L i2_).getD zE)) (splice_whole _ _ (enA_sz _ _)) ?_
  intro w7 St
  have kS := kg2
  replace kg1 := St.has (by omega) kg1
  replace kgS := St.has (by omega) kgS
  replace kgI := St.has (by omega) kgI
  replace kt := St.has (by omega) kt
  replace kr := St.has (by omega) kr
  replace HTt := HTt.st St dHTtg2
  replace HL := HL.st St dHLg2
  replace GG := GG.store St bg2
  replace kg2 := St.new
  clear St
  refine s_val 12 rfl rfl (.bool ((fstE L i2_).isSome)) (rfl) ?_
  refine nr ?_; intro U h; simp only [z0, z1] at h; subst h
  refine wpList_nil ?_
  refine then_n ?_
  refine wp_seq ?_
  refine wp_region_lit ?_
  refine s_val 31 rfl rfl (.pointer (some ⟨r, 0, none⟩)) (rfl) ?_
  refine nr ?_; intro U h; simp only [z0, z1] at h; subst h
  refine s_val 32 rfl rfl (.agg (idA i2_)) (ldI0 _ rfl gI rfl (kgI)) ?_
  refine nr ?_; intro U h; simp only [z0, z1] at h; subst h
  refine s_callv 33 rfl rfl _ 7 Tryz.call7 rfl rfl _ rfl [.pointer (some ⟨r, 0, none⟩), .agg (idA i2_)] rfl (rfir_any _ r 128 ra rc L (kr) (HL) hLb i2_ hi2_) ?_
  intro w8 G
  replace kg1 := G.has kg1
  replace kgS := G.has kgS
  replace kgI := G.has kgI
  replace kt := G.has kt
  replace kr := G.has kr
  replace kg2 := G.has kg2
  replace HTt := HTt.gro G
  replace HL := HL.gro G
  replace GG := GG.trans G
  clear G
  refine nr ?_; intro U h; simp only [z0, z1] at h; subst h
  refine s_val 30 rfl rfl (.tuple #[.agg (enA ((fstE L i2_).getD zE)), .bool ((fstE L i2_).isSome)]) (rfl) ?_
  refine nr ?_; intro U h; simp only [z0, z1] at h; subst h
  refine s_val 34 rfl rfl (.agg (enA ((fstE L i2_).getD zE))) (rfl) ?_
  refine nr ?_; intro U h; simp only [z0, z1] at h; subst h
  refine s_val 35 rfl rfl (.bool ((fstE L i2_).isSome)) (rfl) ?_
  refine nr ?_; intro U h; simp only [z0, z1] at h; subst h
  refine s_alloc 13 rfl rfl 33 rfl _ zero33 (enA zE) rfl ?_
  intro w9 g3 G eg3 kg3
  have bg3 := size_base GG eg3
  have dg1g3 := lt_new kg1 eg3
  have dgSg3 := lt_new kgS eg3
  have dgIg3 := lt_new kgI eg3
  have dtg3 := lt_new kt eg3
  have drg3 := lt_new kr eg3
  have dg2g3 := lt_new kg2 eg3
  have dHTtg3 := HTt.ne eg3
  have dHLg3 := HL.ne eg3
  replace kg1 := G.has kg1
  replace kgS := G.has kgS
  replace kgI := G.has kgI
  replace kt := G.has kt
  replace kr := G.has kr
  replace kg2 := G.has kg2
  replace HTt := HTt.gro G
  replace HL := HL.gro G
  replace GG := GG.trans G
  clear G
  clear eg3
  refine nr ?_; intro U h; simp only [z0, z1] at h; subst h
  refine s_store rfl rfl 33 _ _ rfl g3 0 rfl (.agg (enA ((fstE L i2_).getD zE))) rfl 33 _ kg3 (enA ((fstE L i2_).getD zE)) rfl (si33' _) (enA_fit _ _) (enA_one _) (enA ((fstE L i2_).getD zE)) (splice_whole _ _ (enA_sz _ _)) ?_
  intro w10 St
  have kS := kg3
  replace kg1 := St.has (by omega) kg1
  replace kgS := St.has (by omega) kgS
  replace kgI := St.has (by omega) kgI
  replace kt := St.has (by omega) kt
  replace kr := St.has (by omega) kr
  replace kg2 := St.has (by omega) kg2
  replace HTt := HTt.st St dHTtg3
  replace HL := HL.st St dHLg3
  replace GG := GG.store St bg3
  replace kg3 := St.new
  clear St
  refine s_val 14 rfl rfl (.bool ((fstE L i2_).isSome)) (rfl) ?_
  refine nr ?_; intro U h; simp only [z0, z1] at h; subst h
  refine wpList_nil ?_
  refine then_n ?_
  refine wp_seq ?_
  refine wp_region_exA (A := ?Ax3) 46 [(0, 36), (1, 37), (2, 38), (3, 39), (4, 40), (5, 41), (6, 42), (7, 43), (8, 44), (9, 45), (10, 46), (11, 47), (12, 48), (13, 49), (14, 50), (15, 51), (16, 52), (17, 53), (18, 54), (19, 55), (20, 56), (21, 57), (22, 58), (23, 59), (24, 60), (25, 61), (26, 62), (27, 63), (28, 64), (29, 65), (30, 66), (31, 67), (32, 68), (33, 69), (34, 70), (35, 71), (36, 72), (37, 73), (38, 74), (39, 75), (40, 76), (41, 77), (42, 78), (43, 79), (44, 80), (45, 81)] [.val (.bool true), .val (.bool true), .val (.pointer (some ⟨t, 0, none⟩)), .val (.agg (idA i1_)), rowC (frdL L i1_), .val (.pointer (some ⟨r, 0, none⟩)), .val (.agg (idA i1_)), rowC (frdL L i1_), .val (.bool true), .val (.bool true), .val (.bool true), .val (.pointer (some ⟨t, 0, none⟩)), .val (.agg (idA i1_)), .val (.int .i64 half), rowK kP (sprL L i1_ half), .val (.pointer (some ⟨r, 0, none⟩)), .val (.agg (idA i1_)), .val (.int .i64 half), rowK kP (sprL L i1_ half), .val (.bool true), .val (.bool true), .val (.bool true), .val (.pointer (some ⟨t, 0, none⟩)), rowK kP (twnL L), .val (.pointer (some ⟨r, 0, none⟩)), rowK kP (twnL L), .val (.bool true), .val (.bool true), .val (.bool true), .val (.agg (enA ((fstE L i2_).getD zE))), .val (.agg (enA ((fstE L i2_).getD zE))), .val (.bool true), .val (.bool true), .val (.bool true), .val (.bool ((fstE L i2_).isSome)), .val (.bool ((fstE L i2_).isSome)), .val (.bool true), .val (.bool true), .val (.bool true), .val (.pointer (some ⟨t, 0, none⟩)), rowE L, .val (.pointer (some ⟨r, 0, none⟩)), .val (.pointer (some ⟨r, 0, none⟩)), .val (.pointer (some ⟨r, 0, none⟩)), .val (.slice ra L.length rc), .val (.bool true)] follows (by kernel_rfl) rfl ?hAx3 (opsA_cons ?o0x3 (opsA_cons ?o1x3 (opsA_cons ?o2x3 (opsA_cons ?o3x3 (opsA_cons ?o4x3 (opsA_cons ?o5x3 (opsA_cons ?o6x3 (opsA_cons ?o7x3 (opsA_cons ?o8x3 (opsA_cons ?o9x3 (opsA_cons ?o10x3 (opsA_cons ?o11x3 (opsA_cons ?o12x3 (opsA_cons ?o13x3 (opsA_cons ?o14x3 (opsA_cons ?o15x3 (opsA_cons ?o16x3 (opsA_cons ?o17x3 (opsA_cons ?o18x3 (opsA_cons ?o19x3 (opsA_cons ?o20x3 (opsA_cons ?o21x3 (opsA_cons ?o22x3 (opsA_cons ?o23x3 (opsA_cons ?o24x3 (opsA_cons ?o25x3 (opsA_cons ?o26x3 (opsA_cons ?o27x3 (opsA_cons ?o28x3 (opsA_cons ?o29x3 (opsA_cons ?o30x3 (opsA_cons ?o31x3 (opsA_cons ?o32x3 (opsA_cons ?o33x3 (opsA_cons ?o34x3 (opsA_cons ?o35x3 (opsA_cons ?o36x3 (opsA_cons ?o37x3 (opsA_cons ?o38x3 (opsA_cons ?o39x3 (opsA_cons ?o40x3 (opsA_cons ?o41x3 (opsA_cons ?o42x3 (opsA_cons ?o43x3 (opsA_cons ?o44x3 (opsA_cons ?o45x3 opsA_nil)))))))))))))))))))))))))))))))))))))))))))))) ?restx3
  case hAx3 =>
    intro ptrs
    simp only [full, foldSlots, filledE, postE, List.foldl_cons, List.foldl_nil, List.getD_cons_zero, List.getD_cons_succ, fill_val, fill_rowE, fill_rowK, fill_rowC, List.set_cons_zero, List.set_cons_succ]
    exact rfl
  case o0x3 => exact fun _ _ _ _ => opE_call (.val (.bool true)) rfl _ 8 Tryz.call8 rfl rfl _ rfl [] rfl ((fixed_any _).mono fun e w' ⟨he, hg⟩ => ⟨_, he, hg, rfl⟩)
  case o1x3 => exact fun _ _ _ _ => opE_move (v := .bool true) _ rfl rfl rfl
  case o2x3 => exact fun _ _ _ _ => opE_move (v := .pointer (some ⟨t, 0, none⟩)) _ rfl rfl rfl
  case o3x3 => exact fun _ _ hw _ => opE_value (v := .agg (idA i1_)) rfl (ldI0 _ rfl gS rfl (hw.has kgS))
  case o4x3 => exact fun _ _ hw _ => opE_call (rowC (frdL L i1_)) rfl _ 10 Tryz.call10 rfl rfl _ rfl [.pointer (some ⟨t, 0, none⟩), .agg (idA i1_)] rfl ((fri_any _ t b 128 L (hw.has kt) (HTt.gro ((Gro.refl _).drew.trans hw)) hTI.ris hLb i1_ hi1_).mono fun e w' ⟨ao, cap, he, hg, hr⟩ => ⟨_, he, hg, ao, cap, rfl, hr⟩)
  case o5x3 => exact fun _ _ _ _ => opE_move (v := .pointer (some ⟨r, 0, none⟩)) _ rfl rfl rfl
  case o6x3 => exact fun _ _ hw _ => opE_value (v := .agg (idA i1_)) rfl (ldI0 _ rfl gS rfl (hw.has kgS))
  case o7x3 => exact fun _ _ hw _ => opE_call (rowC (frdL L i1_)) rfl _ 11 Tryz.call11 rfl rfl _ rfl [.pointer (some ⟨r, 0, none⟩), .agg (idA i1_)] rfl ((rfri_any _ r 128 ra rc L (hw.has kr) (HL.gro ((Gro.refl _).drew.trans hw)) hLb i1_ hi1_).mono fun e w' ⟨ao, cap, he, hg, hr⟩ => ⟨_, he, hg, ao, cap, rfl, hr⟩)
  case o8x3 =>
    intro ptrs x _ hE
    obtain ⟨⟨a4, c4, h4, o4⟩, ⟨a7, c7, h7, o7⟩, _, _⟩ := hE
    exact opE_call (.val (.bool true)) rfl _ 9 Tryz.call9 rfl rfl _ rfl [.slice a4 (frdL L i1_).length c4, .slice a7 (frdL L i1_).length c7] (by show [ptrs 4, ptrs 7] = _; rw [h4, h7]) ((Calls.bool (same_ids _ a4 c4 (frdL L i1_) o4.rc (by omega) a7 c7 (frdL L i1_) o7.rc (by omega)) (decide_eq_true rfl)).mono fun e w' ⟨he, hg⟩ => ⟨_, he, hg, rfl⟩)
  case o9x3 => exact fun _ _ _ _ => opE_pick (v := .bool true) _ _ _ rfl rfl true rfl rfl
  case o10x3 => exact fun _ _ _ _ => opE_move (v := .bool true) _ rfl rfl rfl
  case o11x3 => exact fun _ _ _ _ => opE_move (v := .pointer (some ⟨t, 0, none⟩)) _ rfl rfl rfl
  case o12x3 => exact fun _ _ hw _ => opE_value (v := .agg (idA i1_)) rfl (ldI0 _ rfl gS rfl (hw.has kgS))
  case o13x3 => exact fun _ _ _ _ => opE_move (v := .int .i64 half) _ rfl rfl rfl
  case o14x3 => exact fun _ _ hw _ => opE_call (rowK kP (sprL L i1_ half)) rfl _ 13 Tryz.call13 rfl rfl _ rfl [.pointer (some ⟨t, 0, none⟩), .agg (idA i1_), .int .i64 half] rfl ((spa_any _ t b 128 L (hw.has kt) (HTt.gro ((Gro.refl _).drew.trans hw)) hTI.ris hLb i1_ hi1_ half).mono fun e w' ⟨ao, cap, he, hg, hr⟩ => ⟨_, he, hg, ao, cap, rfl, hr.re⟩)
  case o15x3 => exact fun _ _ _ _ => opE_move (v := .pointer (some ⟨r, 0, none⟩)) _ rfl rfl rfl
  case o16x3 => exact fun _ _ hw _ => opE_value (v := .agg (idA i1_)) rfl (ldI0 _ rfl gS rfl (hw.has kgS))
  case o17x3 => exact fun _ _ _ _ => opE_move (v := .int .i64 half) _ rfl rfl rfl
  case o18x3 => exact fun _ _ hw _ => opE_call (rowK kP (sprL L i1_ half)) rfl _ 14 Tryz.call14 rfl rfl _ rfl [.pointer (some ⟨r, 0, none⟩), .agg (idA i1_), .int .i64 half] rfl ((rspa_any _ r 128 ra rc L (hw.has kr) (HL.gro ((Gro.refl _).drew.trans hw)) hLb i1_ hi1_ half).mono fun e w' ⟨ao, cap, he, hg, hr⟩ => ⟨_, he, hg, ao, cap, rfl, hr.re⟩)
  case o19x3 =>
    intro ptrs x _ hE
    obtain ⟨⟨a14, c14, h14, o14⟩, ⟨a18, c18, h18, o18⟩, _, _⟩ := hE
    exact opE_call (.val (.bool true)) rfl _ 12 Tryz.call12 rfl rfl _ rfl [.slice a14 (sprL L i1_ half).length c14, .slice a18 (sprL L i1_ half).length c18] (by show [ptrs 14, ptrs 18] = _; rw [h14, h18]) ((sameP_any _ a14 a18 c14 c18 (sprL L i1_ half) o14 o18 (by omega)).mono fun e w' ⟨he, hg⟩ => ⟨_, he, hg, rfl⟩)
  case o20x3 => exact fun _ _ _ _ => opE_pick (v := .bool true) _ _ _ rfl rfl true rfl rfl
  case o21x3 => exact fun _ _ _ _ => opE_move (v := .bool true) _ rfl rfl rfl
  case o22x3 => exact fun _ _ _ _ => opE_move (v := .pointer (some ⟨t, 0, none⟩)) _ rfl rfl rfl
  case o23x3 => exact fun _ _ hw _ => opE_call (rowK kP (twnL L)) rfl _ 15 Tryz.call15 rfl rfl _ rfl [.pointer (some ⟨t, 0, none⟩)] rfl ((twi_any _ t b 128 L (hw.has kt) (HTt.gro ((Gro.refl _).drew.trans hw)) hTI.ris hLb).mono fun e w' ⟨ao, cap, he, hg, hr⟩ => ⟨_, he, hg, ao, cap, rfl, hr.re⟩)
  case o24x3 => exact fun _ _ _ _ => opE_move (v := .pointer (some ⟨r, 0, none⟩)) _ rfl rfl rfl
  case o25x3 => exact fun _ _ hw _ => opE_call (rowK kP (twnL L)) rfl _ 16 Tryz.call16 rfl rfl _ rfl [.pointer (some ⟨r, 0, none⟩)] rfl ((rtwi_any _ r 128 ra rc L (hw.has kr) (HL.gro ((Gro.refl _).drew.trans hw)) hLb).mono fun e w' ⟨ao, cap, he, hg, hr⟩ => ⟨_, he, hg, ao, cap, rfl, hr.re⟩)
  case o26x3 =>
    intro ptrs x _ hE
    obtain ⟨⟨a23, c23, h23, o23⟩, ⟨a25, c25, h25, o25⟩, _, _⟩ := hE
    exact opE_call (.val (.bool true)) rfl _ 12 Tryz.call12 rfl rfl _ rfl [.slice a23 (twnL L).length c23, .slice a25 (twnL L).length c25] (by show [ptrs 23, ptrs 25] = _; rw [h23, h25]) ((sameP_any _ a23 a25 c23 c25 (twnL L) o23 o25 (by omega)).mono fun e w' ⟨he, hg⟩ => ⟨_, he, hg, rfl⟩)
  case o27x3 => exact fun _ _ _ _ => opE_pick (v := .bool true) _ _ _ rfl rfl true rfl rfl
  case o28x3 => exact fun _ _ _ _ => opE_move (v := .bool true) _ rfl rfl rfl
  case o29x3 => exact fun _ _ hw _ => opE_value (v := .agg (enA ((fstE L i2_).getD zE))) rfl (ldE0 _ rfl g2 rfl (hw.has kg2))
  case o30x3 => exact fun _ _ hw _ => opE_value (v := .agg (enA ((fstE L i2_).getD zE))) rfl (ldE0 _ rfl g3 rfl (hw.has kg3))
  case o31x3 => exact fun _ _ _ _ => opE_value (v := .bool true) rfl (run_eqE _ _ _ rfl _ _ rfl rfl (fst_ok hTI.all i2_) (fst_ok hTI.all i2_) true (decide_eq_true rfl))
  case o32x3 => exact fun _ _ _ _ => opE_pick (v := .bool true) _ _ _ rfl rfl true rfl rfl
  case o33x3 => exact fun _ _ _ _ => opE_move (v := .bool true) _ rfl rfl rfl
  case o34x3 => exact fun _ _ _ _ => opE_move (v := .bool ((fstE L i2_).isSome)) _ rfl rfl rfl
  case o35x3 => exact fun _ _ _ _ => opE_move (v := .bool ((fstE L i2_).isSome)) _ rfl rfl rfl
  case o36x3 => exact fun _ _ _ _ => opE_value (v := .bool true) rfl (run_eqB 4 _ _ _ rfl ((fstE L i2_).isSome) ((fstE L i2_).isSome) rfl rfl Tryz.underlying4 true (decide_eq_true rfl) _)
  case o37x3 => exact fun _ _ _ _ => opE_pick (v := .bool true) _ _ _ rfl rfl true rfl rfl
  case o38x3 => exact fun _ _ _ _ => opE_move (v := .bool true) _ rfl rfl rfl
  case o39x3 => exact fun _ _ _ _ => opE_move (v := .pointer (some ⟨t, 0, none⟩)) _ rfl rfl rfl
  case o40x3 => exact fun _ _ hw _ => opE_call (rowE L) rfl _ 18 Tryz.call18 rfl rfl _ rfl [.pointer (some ⟨t, 0, none⟩)] rfl ((all_any _ t b 128 L (hw.has kt) (HTt.gro ((Gro.refl _).drew.trans hw)) hTI.ris hLb).mono fun e w' ⟨ao, cap, he, hg, hr⟩ => ⟨_, he, hg, ao, cap, rfl, hr.mono (Nat.zero_le _)⟩)
  case o41x3 => exact fun _ _ _ _ => opE_move (v := .pointer (some ⟨r, 0, none⟩)) _ rfl rfl rfl
  case o42x3 => exact fun _ _ _ _ => opE_value (v := .pointer (some ⟨r, 0, none⟩)) rfl (run_nc _ rfl _ rfl)
  case o43x3 => exact fun _ _ _ _ => opE_value (v := .pointer (some ⟨r, 0, none⟩)) rfl (run_fld 51 _ 0 rfl r 0 rfl 0 (by kernel_rfl))
  case o44x3 => exact fun _ _ hw _ => opE_value (v := .slice ra L.length rc) rfl (ldRl _ rfl r rfl (hw.has kr))
  case o45x3 =>
    intro ptrs x hw hE
    obtain ⟨⟨a40, c40, h40, o40⟩, _, _⟩ := hE
    exact opE_call (.val (.bool true)) rfl _ 17 Tryz.call17 rfl rfl _ rfl [.slice a40 L.length c40, .slice ra L.length rc] (by show [ptrs 40, .slice ra L.length rc] = _; rw [h40]) ((Calls.bool (sameE_any _ a40 c40 L o40.re (le_maxL hTI.fit) ra rc L ((HL.gro ((Gro.refl _).drew.trans hw)).re)) (decide_eq_true rfl)).mono fun e w' ⟨he, hg⟩ => ⟨_, he, hg, rfl⟩)
  intro ptrs w11 GD hxE
  simp only [List.drop_succ_cons, List.drop_zero]
  replace GG := GG.drew.trans GD
  clear GD hxE
  refine s_val 82 rfl rfl (.bool true) (rfl) ?_
  refine nr ?_; intro U h; simp only [z0, z1] at h; subst h
  refine s_val 6 rfl rfl (.bool true) (rfl) ?_
  refine nr ?_; intro U h; simp only [z0, z1] at h; subst h
  refine wpList_nil ?_
  refine then_n ?_
  refine wp_ret ?_
  refine bodyPost_ret (results_tmp Tryz.results3 _ _ _) rfl ?_
  exact ⟨rfl, GG⟩
end Go.Proofs.YtmpnepbmpmkmkaaGreat
