/- The examples; no one that is known is nearer than the choice. -/
import Derived.Test.YtipfllalfifheaaR5
namespace Go.Proofs.Ytipfllalfifheaa
open Classical
open Go.RowKit Go.Maps

/-- A region in whatever order with new blocks, the frame written out by the caller. -/
def opsA2 (P : Program) (ops : Array Oper) (posts : List PostS) (A : (Nat → Value) → Act) (w0 : World) : Nat → List Oper → Prop
  | _, [] => True
  | i, o :: r => (∀ ptrs L w, Gro w0 w → newsHold2 L w0.heap.size posts ptrs w (edges o) → L i = false → OpOK2 P ops (postAt2 posts i) (postAt2 posts (postAt2 posts i).other) (ptrs (postAt2 posts i).other) o (A ptrs) w) ∧ opsA2 P ops posts A w0 (i + 1) r
theorem opsA2_nil {P : Program} {ops : Array Oper} {posts : List PostS} {A : (Nat → Value) → Act} {w0 : World} {i : Nat} : opsA2 P ops posts A w0 i [] := trivial
theorem opsA2_cons {P : Program} {ops : Array Oper} {posts : List PostS} {A : (Nat → Value) → Act} {w0 : World} {i : Nat} {o : Oper} {r : List Oper}
    (h : ∀ ptrs L w, Gro w0 w → newsHold2 L w0.heap.size posts ptrs w (edges o) → L i = false → OpOK2 P ops (postAt2 posts i) (postAt2 posts (postAt2 posts i).other) (ptrs (postAt2 posts i).other) o (A ptrs) w) (hr : opsA2 P ops posts A w0 (i + 1) r) : opsA2 P ops posts A w0 i (o :: r) := ⟨h, hr⟩
theorem ops2_of_A {P : Program} {ops : Array Oper} {posts : List PostS} {a0 : Act} {D : List (Nat × Nat)} {w0 : World} : ∀ (l : List Oper) (i : Nat), opsA2 P ops posts (fun ptrs => full a0 D (filled2 posts ptrs)) w0 i l → opsOK2 P ops posts a0 D w0 i l
  | [], _, _ => trivial
  | _ :: r, i, h => ⟨h.1, ops2_of_A r (i + 1) h.2⟩
theorem wp_region_g2A {P : Program} {id : Nat} {l : List Oper} {Q : Exit → Act → World → Prop} {a0 : Act} {w : World} {A : (Nat → Value) → Act} (n : Nat) (D : List (Nat × Nat)) (posts : List PostS) (hm : P.follows .mixedOrders = true)
    (hB : growB l.toArray n D = true) (hP : postsB l.toArray n (postAt2 posts) = true) (hsz : (D.all fun p => decide (p.2 < a0.tmps.size)) = true)
    (hA : ∀ ptrs, full a0 D (filled2 posts ptrs) = A ptrs)
    (hop : opsA2 P l.toArray posts A w.drew 0 (l.take n))
    (hrest : ∀ ptrs L w', Gro w.drew w' → (∀ i, L i = decide (i < n)) → newsHold2 L w.heap.size posts ptrs w' (List.range n) → newsApart2 posts ptrs n → wpList P l.toArray Q (l.drop n) (A ptrs) w') :
    (Code.region id l.toArray true).wp P Q a0 w := by
  have e : A = fun ptrs => full a0 D (filled2 posts ptrs) := funext fun ptrs => (hA ptrs).symm
  subst e
  exact wp_region_grow2 n D posts hm hB hP hsz (ops2_of_A _ _ hop) hrest
theorem apart_two {posts : List PostS} {ptrs : Nat → Value} {n i j : Nat} (h : newsApart2 posts ptrs n) (hf : ((List.range n).filter fun i => (postAt2 posts i).kind == 1) = [i, j]) : ptrs i ≠ ptrs j := by
  unfold newsApart2 at h
  rw [hf] at h
  exact (List.pairwise_cons.1 h).1 j (by simp)
section
variable {w : World} {ao : Option Addr} {cap B b g : Nat} {l L : List En}
theorem RE.neG (h : RE w ao cap l) (c : w.heap.size ≤ g) : NE ao (flE l).length g := fun ad ha h0 => by
  have := h.lt ad ha h0
  omega
theorem OE.neG (h : OE w B ao cap l) (c : w.heap.size ≤ g) : g ∉ Go.Proofs.Ytipfllalfifheaa.blk ao := fun hm => by
  have := h.own.lt g hm
  omega
theorem TM.neG (h : TM w b L) (c : w.heap.size ≤ g) : b ≠ g := by have := h.lt; omega
theorem RK.neG {α : Type} {K : Kd α} {l : List α} (h : RK K w ao cap l) (c : w.heap.size ≤ g) : NE ao (l.flatMap K.E).length g := fun ad ha h0 => by
  have := h.lt ad ha h0
  omega
theorem OW.neG {α : Type} {K : Kd α} {e : TypeId} {l : List α} (h : OW K e w B ao cap l) (c : w.heap.size ≤ g) : g ∉ Go.Proofs.Ytipfllalfifheaa.blk ao := fun hm => by
  have := h.own.lt g hm
  omega
end

theorem le_big {n : Nat} (h : n ≤ 600000) : n ≤ maxLen := by rw [maxL]; omega
theorem inC {l : List Ch} {j : Nat} (hj : j < l.length) : l.getD j zC ∈ l := by
  have hg : l.getD j zC = l[j] := by simp [List.getD_eq_getElem?_getD, hj]
  rw [hg]
  exact List.getElem_mem hj
/-- The chapter's example. -/
def p1 : Pa := ⟨0, 1⟩
def x0 : En := ⟨p1, 5, 20, -1, 2⟩
theorem p1_ok : p1.ok := ⟨top_0, by decide, by decide⟩
theorem x0_ok : x0.ok := ⟨p1_ok, by decide, by decide, ⟨by decide, by decide⟩, ⟨by decide, by decide⟩⟩
theorem lay_x0 : layL [] [x0] = [x0] := rfl
theorem ris_x0 : Ris [x0] := by simp [Ris]
theorem fx1 : cho 21 5 [mkN 1 9] [x0] = mkC 20 false p1 2 := of_decide_eq_true ((eqC_eq _ _).symm.trans (by decide +kernel))
theorem fx2 : cho 7 5 [mkN 1 9] [x0] = mkC 9 true zP 1 := of_decide_eq_true ((eqC_eq _ _).symm.trans (by decide +kernel))
theorem laid_x0 (w : World) (ao0 : Option Addr) (cap0 : Nat) (H : RE w ao0 cap0 [x0]) : Calls Try.prog 9 #[.slice ao0 [x0].length cap0] w (LaidP w [x0]) := by
  have h := laid_any w ao0 cap0 [x0] H (le_maxL (Nat.le_of_ble_eq_true rfl))
  rwa [lay_x0] at h
set_option maxRecDepth 100000 in
set_option maxHeartbeats 4000000 in
theorem fixed_any (w : World) : Calls Try.prog 10 #[] w (fun e w' => e = .returned (.bool true) ∧ Gro w w') := by
  refine s_enter Try.func10 rfl Try.ntmps10 [] [undef, undef, undef, undef, undef, undef, undef, undef, undef, undef, undef, undef, undef, undef, undef, undef, undef, undef, undef, undef, undef, undef, undef, undef, undef, undef, undef, undef, undef, undef, undef, undef, undef, undef, undef, undef, undef, undef, undef, undef] rfl ?_
  have GG := Gro.refl w
  refine wp_seq ?_
  refine wp_region_lit ?_
  refine s_val 0 rfl rfl (.bool false) (rfl) ?_
  refine nr ?_; intro U h; simp only [z0] at h; subst h
  refine wpList_nil ?_
  refine then_n ?_
  refine wp_seq ?_
  refine wp_region_lit ?_
  refine s_val 5 rfl rfl (.agg (paA p1)) (run_bd 38 _ rfl [(1, .int .i64 1)] rfl _ (by kernel_rfl)) ?_
  refine nr ?_; intro U h; simp only [z0, z1] at h; subst h
  refine s_callv 6 rfl rfl _ 27 Try.call27 rfl rfl _ rfl [.int .u8 5] rfl (n_any 5 (by decide) _) ?_
  intro w1 G
  replace GG := GG.trans G
  clear G
  refine nr ?_; intro U h; simp only [z0, z1] at h; subst h
  refine s_callv 7 rfl rfl _ 27 Try.call27 rfl rfl _ rfl [.int .u8 20] rfl (n_any 20 (by decide) _) ?_
  intro w2 G
  replace GG := GG.trans G
  clear G
  refine nr ?_; intro U h; simp only [z0, z1] at h; subst h
  refine s_val 8 rfl rfl (.agg (enA x0)) (run_bd 57 _ rfl [(0, .agg (paA p1)), (1, .agg (idA 5)), (2, .agg (idA 20)), (3, .int .i64 (-1)), (4, .int .i64 2)] rfl _ (by kernel_rfl)) ?_
  refine nr ?_; intro U h; simp only [z0, z1] at h; subst h
  refine s_bsl 9 rfl rfl 25 1 _ rfl [(0, .agg (enA x0))] rfl (flE ([x0] : List En)).toArray 57 (bs1 x0 _) ?_
  intro w3 q1 G eq1 kq1
  have bq1 := size_base GG eq1
  replace GG := GG.trans G
  clear G
  have HR1 : RE _ (some ⟨q1, 0, none⟩) ([x0] : List En).length ([x0] : List En) := RE.blk kq1 (AllE.one x0_ok) (Nat.le_refl _)
  clear eq1
  refine nr ?_; intro U h; simp only [z0, z1] at h; subst h
  refine s_callx 10 rfl rfl _ 9 Try.call9 rfl rfl _ rfl [.slice (some ⟨q1, 0, none⟩) ([x0] : List En).length ([x0] : List En).length] rfl (laid_x0 _ (some ⟨q1, 0, none⟩) ([x0] : List En).length HR1) (by rintro _ _ ⟨_, _, _, _, he, _⟩; exact ⟨_, he⟩) ?_
  rintro v w4 ⟨t, b, lat, lct, he, G, kt, HTt, HLt⟩
  cases he
  replace HR1 := HR1.gro G
  replace GG := GG.trans G
  clear G
  refine nr ?_; intro U h; simp only [z0, z1] at h; subst h
  refine s_val 4 rfl rfl (.tuple #[.pointer (some ⟨t, 0, none⟩), .slice lat ([x0]).length lct]) (rfl) ?_
  refine nr ?_; intro U h; simp only [z0, z1] at h; subst h
  refine s_val 11 rfl rfl (.pointer (some ⟨t, 0, none⟩)) (rfl) ?_
  refine nr ?_; intro U h; simp only [z0, z1] at h; subst h
  refine s_val 12 rfl rfl (.slice lat ([x0]).length lct) (rfl) ?_
  refine nr ?_; intro U h; simp only [z0, z1] at h; subst h
  refine s_val 1 rfl rfl (.pointer (some ⟨t, 0, none⟩)) (rfl) ?_
  refine nr ?_; intro U h; simp only [z0, z1] at h; subst h
  refine s_val 2 rfl rfl (.slice lat ([x0]).length lct) (rfl) ?_
  refine nr ?_; intro U h; simp only [z0, z1] at h; subst h
  refine wpList_nil ?_
  refine then_n ?_
  refine wp_seq ?_
  refine wp_region_lit ?_
  refine s_callv 13 rfl rfl _ 27 Try.call27 rfl rfl _ rfl [.int .u8 9] rfl (n_any 9 (by decide) _) ?_
  intro w5 G
  replace kt := G.has kt
  replace HR1 := HR1.gro G
  replace HTt := HTt.gro G
  replace HLt := HLt.gro G
  replace GG := GG.trans G
  clear G
  refine nr ?_; intro U h; simp only [z0, z1] at h; subst h
  refine s_val 14 rfl rfl (.agg (nrA (mkN 1 9))) (run_bd 55 _ rfl [(0, .int .i64 1), (1, .agg (idA 9))] rfl _ (bdN _ _ _)) ?_
  refine nr ?_; intro U h; simp only [z0, z1] at h; subst h
  refine s_bsl 15 rfl rfl 24 1 _ rfl [(0, .agg (nrA (mkN 1 9)))] rfl ([(mkN 1 9)].flatMap kN.E).toArray 55 (bsN (mkN 1 9) _) ?_
  intro w6 q3 G eq3 kq3
  have bq3 := size_base GG eq3
  replace kt := G.has kt
  replace HR1 := HR1.gro G
  replace HTt := HTt.gro G
  replace HLt := HLt.gro G
  replace GG := GG.trans G
  clear G
  have HR3 : RK kN _ (some ⟨q3, 0, none⟩) 1 [(mkN 1 9)] := RK.blk kq3 (one_all (mkN_ok ⟨by decide, by decide⟩ (by decide))) (Nat.le_refl _)
  clear eq3
  refine nr ?_; intro U h; simp only [z0, z1] at h; subst h
  refine s_val 3 rfl rfl (.slice (some ⟨q3, 0, none⟩) 1 1) (rfl) ?_
  refine nr ?_; intro U h; simp only [z0, z1] at h; subst h
  refine wpList_nil ?_
  refine then_n ?_
  refine wp_seq ?_
  refine wp_region_opq ?_
  intro OPS hY
  have y3 := hY 3 19 rfl
  have y14 := hY 14 30 rfl
  clear hY
  refine s_val 16 rfl rfl (.slice lat ([x0]).length lct) (rfl) ?_
  refine nr ?_; intro U h; simp only [z0, z1] at h; subst h
  refine s_val 17 rfl rfl (.int .i64 ((([x0]).length : Nat) : Int)) (run_len Try.underlying25 _ rfl _ _ _ rfl _) ?_
  refine nr ?_; intro U h; simp only [z0, z1] at h; subst h
  refine s_val 18 rfl rfl (.bool true) (run_eq_k 3 .i64 _ _ _ rfl Try.underlying3 (([x0].length : Nat) : Int) 1 rfl rfl true (by decide) _) ?_
  refine nr ?_; intro U h; simp only [z0, z1] at h; subst h
  refine s_val 19 rfl rfl (.bool true) (rfl) ?_
  refine nr ?_; intro U h; simp only [z0, z1] at h; subst h
  refine s_gcallvY 20 rfl rfl y3 rfl _ 27 Try.call27 rfl rfl _ rfl [.int .u8 21] rfl (n_any 21 (by decide) _) ?_
  intro w7 G
  replace kt := G.has kt
  replace HR1 := HR1.gro G
  replace HTt := HTt.gro G
  replace HLt := HLt.gro G
  replace HR3 := HR3.gro G
  replace GG := GG.trans G
  clear G
  refine nr ?_; intro U h; simp only [z0, z1] at h; subst h
  refine s_gcallvY 21 rfl rfl y3 rfl _ 27 Try.call27 rfl rfl _ rfl [.int .u8 5] rfl (n_any 5 (by decide) _) ?_
  intro w8 G
  replace kt := G.has kt
  replace HR1 := HR1.gro G
  replace HTt := HTt.gro G
  replace HLt := HLt.gro G
  replace HR3 := HR3.gro G
  replace GG := GG.trans G
  clear G
  refine nr ?_; intro U h; simp only [z0, z1] at h; subst h
  refine s_gvalY 22 rfl rfl y3 rfl (.slice (some ⟨q3, 0, none⟩) 1 1) (rfl) ?_
  refine nr ?_; intro U h; simp only [z0, z1] at h; subst h
  refine s_gvalY 23 rfl rfl y3 rfl (.pointer (some ⟨t, 0, none⟩)) (rfl) ?_
  refine nr ?_; intro U h; simp only [z0, z1] at h; subst h
  refine s_gcallvY 24 rfl rfl y3 rfl _ 14 Try.call14 rfl rfl _ rfl [.agg (idA 21), .agg (idA 5), .slice (some ⟨q3, 0, none⟩) 1 1, .pointer (some ⟨t, 0, none⟩)] rfl (choose_any _ 21 5 (by decide) (by decide) (some ⟨q3, 0, none⟩) 1 [(mkN 1 9)] HR3 (Nat.le_of_ble_eq_true rfl) t b 128 [x0] kt HTt ris_x0 (Nat.le_of_ble_eq_true rfl)) ?_
  intro w9 G
  replace kt := G.has kt
  replace HR1 := HR1.gro G
  replace HTt := HTt.gro G
  replace HLt := HLt.gro G
  replace HR3 := HR3.gro G
  replace GG := GG.trans G
  clear G
  refine nr ?_; intro U h; simp only [z0, z1] at h; subst h
  refine s_gcallvY 25 rfl rfl y3 rfl _ 27 Try.call27 rfl rfl _ rfl [.int .u8 20] rfl (n_any 20 (by decide) _) ?_
  intro w10 G
  replace kt := G.has kt
  replace HR1 := HR1.gro G
  replace HTt := HTt.gro G
  replace HLt := HLt.gro G
  replace HR3 := HR3.gro G
  replace GG := GG.trans G
  clear G
  refine nr ?_; intro U h; simp only [z0, z1] at h; subst h
  refine s_gvalY 26 rfl rfl y3 rfl (.agg (paA p1)) (run_bd 38 _ rfl [(1, .int .i64 1)] rfl _ (by kernel_rfl)) ?_
  refine nr ?_; intro U h; simp only [z0, z1] at h; subst h
  refine s_gvalY 27 rfl rfl y3 rfl (.agg (chA (mkC 20 false p1 2))) (run_bd 40 _ rfl [(0, .agg (idA 20)), (2, .agg (paA p1)), (3, .int .i64 2)] rfl _ (bdC023 _ _ _ _)) ?_
  refine nr ?_; intro U h; simp only [z0, z1] at h; subst h
  refine s_gvalY 28 rfl rfl y3 rfl (.bool true) (run_eqC _ _ _ rfl (cho 21 5 [(mkN 1 9)] [x0]) (mkC 20 false p1 2) rfl rfl (fx1 ▸ mkC_ok (by decide) p1_ok ⟨by decide, by decide⟩) (mkC_ok (by decide) p1_ok ⟨by decide, by decide⟩) true (decide_eq_true fx1)) ?_
  refine nr ?_; intro U h; simp only [z0, z1] at h; subst h
  refine s_val 29 rfl rfl (.bool true) (rfl) ?_
  refine nr ?_; intro U h; simp only [z0, z1] at h; subst h
  refine s_val 30 rfl rfl (.bool true) (rfl) ?_
  refine nr ?_; intro U h; simp only [z0, z1] at h; subst h
  refine s_gcallvY 31 rfl rfl y14 rfl _ 27 Try.call27 rfl rfl _ rfl [.int .u8 7] rfl (n_any 7 (by decide) _) ?_
  intro w11 G
  replace kt := G.has kt
  replace HR1 := HR1.gro G
  replace HTt := HTt.gro G
  replace HLt := HLt.gro G
  replace HR3 := HR3.gro G
  replace GG := GG.trans G
  clear G
  refine nr ?_; intro U h; simp only [z0, z1] at h; subst h
  refine s_gcallvY 32 rfl rfl y14 rfl _ 27 Try.call27 rfl rfl _ rfl [.int .u8 5] rfl (n_any 5 (by decide) _) ?_
  intro w12 G
  replace kt := G.has kt
  replace HR1 := HR1.gro G
  replace HTt := HTt.gro G
  replace HLt := HLt.gro G
  replace HR3 := HR3.gro G
  replace GG := GG.trans G
  clear G
  refine nr ?_; intro U h; simp only [z0, z1] at h; subst h
  refine s_gvalY 33 rfl rfl y14 rfl (.slice (some ⟨q3, 0, none⟩) 1 1) (rfl) ?_
  refine nr ?_; intro U h; simp only [z0, z1] at h; subst h
  refine s_gvalY 34 rfl rfl y14 rfl (.pointer (some ⟨t, 0, none⟩)) (rfl) ?_
  refine nr ?_; intro U h; simp only [z0, z1] at h; subst h
  refine s_gcallvY 35 rfl rfl y14 rfl _ 14 Try.call14 rfl rfl _ rfl [.agg (idA 7), .agg (idA 5), .slice (some ⟨q3, 0, none⟩) 1 1, .pointer (some ⟨t, 0, none⟩)] rfl (choose_any _ 7 5 (by decide) (by decide) (some ⟨q3, 0, none⟩) 1 [(mkN 1 9)] HR3 (Nat.le_of_ble_eq_true rfl) t b 128 [x0] kt HTt ris_x0 (Nat.le_of_ble_eq_true rfl)) ?_
  intro w13 G
  replace kt := G.has kt
  replace HR1 := HR1.gro G
  replace HTt := HTt.gro G
  replace HLt := HLt.gro G
  replace HR3 := HR3.gro G
  replace GG := GG.trans G
  clear G
  refine nr ?_; intro U h; simp only [z0, z1] at h; subst h
  refine s_gcallvY 36 rfl rfl y14 rfl _ 27 Try.call27 rfl rfl _ rfl [.int .u8 9] rfl (n_any 9 (by decide) _) ?_
  intro w14 G
  replace kt := G.has kt
  replace HR1 := HR1.gro G
  replace HTt := HTt.gro G
  replace HLt := HLt.gro G
  replace HR3 := HR3.gro G
  replace GG := GG.trans G
  clear G
  refine nr ?_; intro U h; simp only [z0, z1] at h; subst h
  refine s_gvalY 37 rfl rfl y14 rfl (.agg (chA (mkC 9 true zP 1))) (run_bd 40 _ rfl [(0, .agg (idA 9)), (1, .bool true), (3, .int .i64 1)] rfl _ (bdC013 _ _ _ _)) ?_
  refine nr ?_; intro U h; simp only [z0, z1] at h; subst h
  refine s_gvalY 38 rfl rfl y14 rfl (.bool true) (run_eqC _ _ _ rfl (cho 7 5 [(mkN 1 9)] [x0]) (mkC 9 true zP 1) rfl rfl (fx2 ▸ mkC_ok (by decide) zP_ok ⟨by decide, by decide⟩) (mkC_ok (by decide) zP_ok ⟨by decide, by decide⟩) true (decide_eq_true fx2)) ?_
  refine nr ?_; intro U h; simp only [z0, z1] at h; subst h
  refine s_val 39 rfl rfl (.bool true) (rfl) ?_
  refine nr ?_; intro U h; simp only [z0, z1] at h; subst h
  refine s_val 0 rfl rfl (.bool true) (rfl) ?_
  refine nr ?_; intro U h; simp only [z0] at h; subst h
  refine wpList_nil ?_
  refine then_n ?_
  refine wp_ret ?_
  refine bodyPost_ret (results_tmp Try.results10 _ _ _) rfl ?_
  exact ⟨rfl, GG⟩
set_option maxRecDepth 100000 in
set_option maxHeartbeats 4000000 in
theorem routeNearest_any (w : World) (d s : Nat) (hd : d < top) (hs : s < top) (an : Option Addr) (cn : Nat) (N : List Nr) (HN : RK kN w an cn N) (hNl : N.length ≤ 600000) (ae : Option Addr) (ce : Nat) (E : List En) (HE : RE w ae ce E) (hEl : E.length ≤ 600000) : Calls Try.prog 5 #[.agg (idA d), .agg (plA s an N.length cn ae E.length ce)] w (fun e w' => e = .returned (.bool true) ∧ Gro w w') := by
  refine s_enter Try.func5 rfl Try.ntmps5 [.agg (idA d), .agg (plA s an N.length cn ae E.length ce)] [.agg (idA d), .agg (plA s an N.length cn ae E.length ce), undef, undef, undef, undef, undef, undef, undef, undef, undef, undef, undef, undef, undef, undef, undef, undef, undef, undef, undef, undef, undef, undef, undef, undef, undef, undef, undef, undef, undef, undef, undef, undef, undef, undef, undef, undef, undef, undef, undef, undef, undef, undef, undef, undef, undef, undef, undef, undef, undef, undef, undef, undef, undef, undef, undef, undef, undef, undef, undef, undef, undef, undef] rfl ?_
  have GG := Gro.refl w
  have hAll : AllE (layL [] E) := layL_ok AllE.nil HE.all
  have hRis : Ris (layL [] E) := layL_ris AllE.nil Ris.nil HE.all
  have hLl : (layL [] E).length ≤ 1000 := Nat.le_trans (layL_le (by decide)) (by decide)
  have HKn : AllC (knw s N (layL [] E)) := knw_ok hs HN.all hAll
  refine wp_seq ?_
  refine wp_region_lit ?_
  refine s_box 2 rfl rfl 23 _ rfl _ rfl (idA d) rfl ?_
  intro w1 g1 G eg1 kg1
  have bg1 := size_base GG eg1
  replace GG := GG.trans G
  clear G
  clear eg1
  refine nr ?_; intro U h; simp only [z0, z1] at h; subst h
  refine s_box 3 rfl rfl 27 _ rfl _ rfl (plA s an N.length cn ae E.length ce) rfl ?_
  intro w2 g2 G eg2 kg2
  have bg2 := size_base GG eg2
  have dg1g2 := lt_new kg1 eg2
  replace kg1 := G.has kg1
  replace GG := GG.trans G
  clear G
  clear eg2
  refine nr ?_; intro U h; simp only [z0, z1] at h; subst h
  refine s_val 4 rfl rfl (.bool false) (rfl) ?_
  refine nr ?_; intro U h; simp only [z0, z1] at h; subst h
  refine wpList_nil ?_
  refine then_n ?_
  refine wp_seq ?_
  refine wp_region_g2A (A := ?Ax1) 9 [(0, 13), (1, 14), (2, 15), (3, 16), (4, 17), (5, 18), (6, 5), (8, 6)] [.val (.pointer (some ⟨g2, 0, none⟩)), .val (.agg (idA s)), .val (.pointer (some ⟨g2, 16, none⟩)), .val (.slice an N.length cn), .val (.pointer (some ⟨g2, 17, none⟩)), .val (.slice ae E.length ce), .new 23 (idA 0) (idA s) 7, .put 6, .val (.slice an N.length cn)] follows (by kernel_rfl) (by kernel_rfl) rfl ?hAx1 (opsA2_cons ?o0x1 (opsA2_cons ?o1x1 (opsA2_cons ?o2x1 (opsA2_cons ?o3x1 (opsA2_cons ?o4x1 (opsA2_cons ?o5x1 (opsA2_cons ?o6x1 (opsA2_cons ?o7x1 (opsA2_cons ?o8x1 opsA2_nil))))))))) ?restx1
  case hAx1 =>
    intro ptrs
    simp only [full, foldSlots, filled2, postAt2, List.foldl_cons, List.foldl_nil, List.getD_cons_zero, List.getD_cons_succ, PostS.fill, PostS.val, PostS.new, PostS.put, List.set_cons_zero, List.set_cons_succ]
    exact rfl
  case o0x1 => exact fun _ _ _ _ _ _ => OpOK2.of_val (ok_value (v := .pointer (some ⟨g2, 0, none⟩)) rfl (run_fld 27 _ 0 rfl g2 0 rfl 0 (by kernel_rfl)))
  case o1x1 => exact fun _ _ _ hw _ _ => OpOK2.of_val (ok_value (v := .agg (idA s)) rfl (ldLs _ rfl g2 rfl (hw.has kg2)))
  case o2x1 => exact fun _ _ _ _ _ _ => OpOK2.of_val (ok_value (v := .pointer (some ⟨g2, 16, none⟩)) rfl (run_fld 27 _ 1 rfl g2 0 rfl 16 (by kernel_rfl)))
  case o3x1 => exact fun _ _ _ hw _ _ => OpOK2.of_val (ok_value (v := .slice an N.length cn) rfl (ldLn _ rfl g2 rfl (hw.has kg2)))
  case o4x1 => exact fun _ _ _ _ _ _ => OpOK2.of_val (ok_value (v := .pointer (some ⟨g2, 17, none⟩)) rfl (run_fld 27 _ 2 rfl g2 0 rfl 17 (by kernel_rfl)))
  case o5x1 => exact fun _ _ _ hw _ _ => OpOK2.of_val (ok_value (v := .slice ae E.length ce) rfl (ldLe _ rfl g2 rfl (hw.has kg2)))
  case o6x1 => exact fun _ _ _ _ _ _ => OpOK2.of_new (ok_alloc rfl 23 rfl _ zero23)
  case o7x1 =>
    intro ptrs Lq wq hw hn hL
    obtain ⟨⟨gq, pq, kq, cq⟩, hz⟩ := hn
    have hL' : Lq 7 = false := hL
    have p' : ptrs 6 = .pointer (some ⟨gq, 0, none⟩) := pq
    have k' : wq.heap[gq]? = some (.cells (if Lq 7 = true then (idA s) else (idA 0)) 23 (0, 0)) := kq
    rw [hL'] at k'
    refine ok2_store rfl 23 _ _ rfl gq ?_ (idA s) rfl (idA 0) k' (size23' _) (idA_sz _ _) (idA_one _) rfl p' _
    show ptrs 6 = _
    exact p'
  case o8x1 => exact fun _ _ _ _ _ _ => OpOK2.of_val (ok_value (v := .slice an N.length cn) rfl rfl)
  intro ptrs Lz w3 GD hLz hnz hapz
  obtain ⟨⟨gS, pzgS, kgS, czgS⟩, hzz⟩ := hnz
  simp only [List.drop_succ_cons, List.drop_zero, pzgS]
  replace kgS : w3.heap[gS]? = some (.cells (idA s) 23 (0, 0)) := by
    have hL' : Lz 7 = true := by rw [hLz]; rfl
    have kk : w3.heap[gS]? = some (.cells (if Lz 7 = true then (idA s) else (idA 0)) 23 (0, 0)) := kgS
    rw [hL'] at kk
    exact kk
  clear hzz hapz hLz
  have dg1gS : g1 < gS := Nat.lt_of_lt_of_le (lt_of_heap kg1) czgS
  have dg2gS : g2 < gS := Nat.lt_of_lt_of_le (lt_of_heap kg2) czgS
  replace kg1 := GD.has kg1
  replace kg2 := GD.has kg2
  have bgS := Nat.le_trans GG.size czgS
  replace GG := GG.drew.trans GD
  clear GD pzgS czgS
  refine s_val 7 rfl rfl (.slice ae E.length ce) (rfl) ?_
  refine nr ?_; intro U h; simp only [z0, z1] at h; subst h
  refine wpList_nil ?_
  refine then_n ?_
  refine wp_seq ?_
  refine wp_region_lit ?_
  refine s_val 20 rfl rfl (.slice ae E.length ce) (rfl) ?_
  refine nr ?_; intro U h; simp only [z0, z1] at h; subst h
  refine s_callx 21 rfl rfl _ 9 Try.call9 rfl rfl _ rfl [.slice ae E.length ce] rfl (laid_any _ ae ce E (HE.gro GG) (le_big hEl)) (by rintro _ _ ⟨_, _, _, _, he, _⟩; exact ⟨_, he⟩) ?_
  rintro v w4 ⟨t, b, lat, lct, he, G, kt, HTt, HLt⟩
  cases he
  replace kg1 := G.has kg1
  replace kg2 := G.has kg2
  replace kgS := G.has kgS
  replace GG := GG.trans G
  clear G
  refine nr ?_; intro U h; simp only [z0, z1] at h; subst h
  refine s_val 19 rfl rfl (.tuple #[.pointer (some ⟨t, 0, none⟩), .slice lat (layL [] E).length lct]) (rfl) ?_
  refine nr ?_; intro U h; simp only [z0, z1] at h; subst h
  refine s_val 22 rfl rfl (.pointer (some ⟨t, 0, none⟩)) (rfl) ?_
  refine nr ?_; intro U h; simp only [z0, z1] at h; subst h
  refine s_val 23 rfl rfl (.slice lat (layL [] E).length lct) (rfl) ?_
  refine nr ?_; intro U h; simp only [z0, z1] at h; subst h
  refine s_val 8 rfl rfl (.pointer (some ⟨t, 0, none⟩)) (rfl) ?_
  refine nr ?_; intro U h; simp only [z0, z1] at h; subst h
  refine s_val 9 rfl rfl (.slice lat (layL [] E).length lct) (rfl) ?_
  refine nr ?_; intro U h; simp only [z0, z1] at h; subst h
  refine wpList_nil ?_
  refine then_n ?_
  refine wp_seq ?_
  refine wp_region_lit ?_
  refine s_val 24 rfl rfl (.agg (idA d)) (ldI0 _ rfl g1 rfl (kg1)) ?_
  refine nr ?_; intro U h; simp only [z0, z1] at h; subst h
  refine s_val 25 rfl rfl (.agg (idA s)) (ldI0 _ rfl gS rfl (kgS)) ?_
  refine nr ?_; intro U h; simp only [z0, z1] at h; subst h
  refine s_val 26 rfl rfl (.slice an N.length cn) (rfl) ?_
  refine nr ?_; intro U h; simp only [z0, z1] at h; subst h
  refine s_val 27 rfl rfl (.pointer (some ⟨t, 0, none⟩)) (rfl) ?_
  refine nr ?_; intro U h; simp only [z0, z1] at h; subst h
  refine s_callv 28 rfl rfl _ 14 Try.call14 rfl rfl _ rfl [.agg (idA d), .agg (idA s), .slice an N.length cn, .pointer (some ⟨t, 0, none⟩)] rfl (choose_any _ d s hd hs an cn N (HN.gro GG) hNl t b 128 (layL [] E) (kt) (HTt) hRis hLl) ?_
  intro w5 G
  replace kg1 := G.has kg1
  replace kg2 := G.has kg2
  replace kgS := G.has kgS
  replace kt := G.has kt
  replace HTt := HTt.gro G
  replace HLt := HLt.gro G
  replace GG := GG.trans G
  clear G
  refine nr ?_; intro U h; simp only [z0, z1] at h; subst h
  refine s_alloc 10 rfl rfl 40 rfl _ zeroC (chA zC) rfl ?_
  intro w6 g3 G eg3 kg3
  have bg3 := size_base GG eg3
  have dg1g3 := lt_new kg1 eg3
  have dg2g3 := lt_new kg2 eg3
  have dgSg3 := lt_new kgS eg3
  have dtg3 := lt_new kt eg3
  have dHTtg3 := HTt.ne eg3
  have dHLtg3 := HLt.ne eg3
  replace kg1 := G.has kg1
  replace kg2 := G.has kg2
  replace kgS := G.has kgS
  replace kt := G.has kt
  replace HTt := HTt.gro G
  replace HLt := HLt.gro G
  replace GG := GG.trans G
  clear G
  clear eg3
  refine nr ?_; intro U h; simp only [z0, z1] at h; subst h
  refine s_store rfl rfl 40 _ _ rfl g3 0 rfl (.agg (chA (cho d s N (layL [] E)))) rfl 40 _ kg3 (chA (cho d s N (layL [] E))) rfl (siC' _) (chA_fit _ _) (chA_one _) (chA (cho d s N (layL [] E))) (splice_whole _ _ (chA_sz _ _)) ?_
  intro w7 St
  have kS := kg3
  replace kg1 := St.has (by omega) kg1
  replace kg2 := St.has (by omega) kg2
  replace kgS := St.has (by omega) kgS
  replace kt := St.has (by omega) kt
  replace HTt := HTt.st St dHTtg3
  replace HLt := HLt.st St dHLtg3
  replace GG := GG.store St bg3
  replace kg3 := St.new
  clear St
  refine wpList_nil ?_
  refine then_n ?_
  refine wp_seq ?_
  refine wp_seq ?_
  refine wp_region_lit ?_
  refine s_val 29 rfl rfl (.agg (idA s)) (ldI0 _ rfl gS rfl (kgS)) ?_
  refine nr ?_; intro U h; simp only [z0, z1] at h; subst h
  refine s_val 30 rfl rfl (.slice an N.length cn) (rfl) ?_
  refine nr ?_; intro U h; simp only [z0, z1] at h; subst h
  refine s_val 31 rfl rfl (.pointer (some ⟨t, 0, none⟩)) (rfl) ?_
  refine nr ?_; intro U h; simp only [z0, z1] at h; subst h
  refine s_callx 32 rfl rfl _ 11 Try.call11 rfl rfl _ rfl [.agg (idA s), .slice an N.length cn, .pointer (some ⟨t, 0, none⟩)] rfl (known_any _ s hs an cn N (HN.gro GG) hNl t b 128 (layL [] E) (kt) (HTt) hRis hLl) (by rintro _ _ ⟨_, _, he, _⟩; exact ⟨_, he⟩) ?_
  rintro v w8 ⟨ao2, cap2, he, G, HO2⟩
  cases he
  replace HO2 := HO2.mono GG.size
  replace kg1 := G.has kg1
  replace kg2 := G.has kg2
  replace kgS := G.has kgS
  replace kt := G.has kt
  replace kg3 := G.has kg3
  replace HTt := HTt.gro G
  replace HLt := HLt.gro G
  replace GG := GG.trans G
  clear G
  have HR2 := HO2.re
  refine nr ?_; intro U h; simp only [z0, z1] at h; subst h
  refine s_val 33 rfl rfl (.int .i64 (((knw s N (layL [] E)).length : Nat) : Int)) (run_len Try.underlying32 _ rfl _ _ _ rfl _) ?_
  refine nr ?_; intro U h; simp only [z0, z1] at h; subst h
  refine s_val 34 rfl rfl (.int .i64 0) (rfl) ?_
  refine nr ?_; intro U h; simp only [z0, z1] at h; subst h
  refine wpList_nil ?_
  refine then_n ?_
  refine wp_block ?_
  refine wp_loopN (fun mz az wv => ∃ (i : Nat) (us1 : Nat → Value), mz = (knw s N (layL [] E)).length + 1 - i ∧ az = ⟨[.agg (idA d), .agg (plA s an N.length cn ae E.length ce), .pointer (some ⟨g1, 0, none⟩), .pointer (some ⟨g2, 0, none⟩), us1 0, .pointer (some ⟨gS, 0, none⟩), .slice an N.length cn, .slice ae E.length ce, .pointer (some ⟨t, 0, none⟩), .slice lat (layL [] E).length lct, .pointer (some ⟨g3, 0, none⟩), undef, us1 1, .pointer (some ⟨g2, 0, none⟩), .agg (idA s), .pointer (some ⟨g2, 16, none⟩), .slice an N.length cn, .pointer (some ⟨g2, 17, none⟩), .slice ae E.length ce, .tuple #[.pointer (some ⟨t, 0, none⟩), .slice lat (layL [] E).length lct], .slice ae E.length ce, .tuple #[.pointer (some ⟨t, 0, none⟩), .slice lat (layL [] E).length lct], .pointer (some ⟨t, 0, none⟩), .slice lat (layL [] E).length lct, .agg (idA d), .agg (idA s), .slice an N.length cn, .pointer (some ⟨t, 0, none⟩), .agg (chA (cho d s N (layL [] E))), .agg (idA s), .slice an N.length cn, .pointer (some ⟨t, 0, none⟩), .slice ao2 (knw s N (layL [] E)).length cap2, .int .i64 (((knw s N (layL [] E)).length : Nat) : Int), .int .i64 ((i : Nat) : Int), us1 2, us1 3, us1 4, us1 5, us1 6, us1 7, us1 8, us1 9, us1 10, us1 11, undef, undef, undef, undef, undef, undef, undef, undef, undef, undef, undef, undef, undef, undef, undef, undef, undef, undef, undef].toArray, []⟩ ∧ i ≤ (knw s N (layL [] E)).length ∧ Gro w wv ∧ wv.heap[g1]? = some (.cells (idA d) 23 (0, 0)) ∧ wv.heap[gS]? = some (.cells (idA s) 23 (0, 0)) ∧ wv.heap[g3]? = some (.cells (chA (cho d s N (layL [] E))) 40 (0, 0)) ∧ RK kC wv ao2 cap2 (knw s N (layL [] E))) ?_ _ ⟨0, (fun kz => ([.bool false, undef, undef, undef, undef, undef, undef, undef, undef, undef, undef, undef] : List Value).getD kz undef), rfl, rfl, Nat.zero_le _, GG, kg1, kgS, kg3, HR2⟩
  clear GG kg1 kgS kg3 HR2
  rintro mz az wv ⟨i, us1, rfl, rfl, hi, GG, kg1, kgS, kg3, HR2⟩
  have hkl := knw_b (s := s) hNl hLl
  refine wp_seq ?_
  refine wp_region_lit ?_
  cases hi1 : decide (((i : Nat) : Int) < (((knw s N (layL [] E)).length : Nat) : Int))
  · have hie : i = (knw s N (layL [] E)).length := by have := of_decide_eq_false hi1; omega
    refine s_val 35 rfl rfl (.bool false) (run_lssT 3 _ _ _ rfl ((i : Nat) : Int) (((knw s N (layL [] E)).length : Nat) : Int) rfl rfl false hi1 _) ?_
    refine nr ?_; intro U h; simp only [z0, z1] at h; subst h
    refine wpList_nil ?_
    refine then_n ?_
    refine wp_seq ?_
    refine wp_cond_false rfl ?_
    refine wp_exit ?_
    refine then_x ?_
    refine then_x ?_
    refine blk_x ?_
    refine then_n ?_
    refine wp_seq ?_
    cases hn : decide ((cho d s N (layL [] E)).n = -1)
    · have hsf := cho_self hd hs HN.all hAll (of_decide_eq_false hn)
      refine wp_region_opq ?_
      intro OPS hY
      have y1 := hY 1 46 rfl
      have y5 := hY 5 50 rfl
      have y10 := hY 10 55 rfl
      clear hY
      refine s_callv 45 rfl rfl _ 10 Try.call10 rfl rfl _ rfl [] rfl (fixed_any _) ?_
      intro w9 G
      replace kg1 := G.has kg1
      replace kgS := G.has kgS
      replace kg3 := G.has kg3
      replace HR2 := HR2.gro G
      replace GG := GG.trans G
      clear G
      refine nr ?_; intro U h; simp only [z0, z1] at h; subst h
      refine s_val 46 rfl rfl (.bool true) (rfl) ?_
      refine nr ?_; intro U h; simp only [z0, z1] at h; subst h
      refine s_gvalY 47 rfl rfl y1 rfl (.pointer (some ⟨g3, 34, none⟩)) (run_fld 40 _ 3 rfl g3 0 rfl 34 (by kernel_rfl)) ?_
      refine nr ?_; intro U h; simp only [z0, z1] at h; subst h
      refine s_gvalY 48 rfl rfl y1 rfl (.int .i64 (cho d s N (layL [] E)).n) (ldCn _ rfl g3 rfl (kg3)) ?_
      refine nr ?_; intro U h; simp only [z0, z1] at h; subst h
      refine s_gvalY 49 rfl rfl y1 rfl (.bool false) (run_eq_k 3 .i64 _ _ _ rfl Try.underlying3 (cho d s N (layL [] E)).n (-1) rfl rfl false hn _) ?_
      refine nr ?_; intro U h; simp only [z0, z1] at h; subst h
      refine s_gvalY 50 rfl rfl y1 rfl (.bool false) (rfl) ?_
      refine nr ?_; intro U h; simp only [z0, z1] at h; subst h
      refine s_gvalY 51 rfl rfl y5 rfl (.pointer (some ⟨g3, 0, none⟩)) (run_fld 40 _ 0 rfl g3 0 rfl 0 (by kernel_rfl)) ?_
      refine nr ?_; intro U h; simp only [z0, z1] at h; subst h
      refine s_gvalY 52 rfl rfl y5 rfl (.agg (idA (cho d s N (layL [] E)).id)) (ldCi _ rfl g3 rfl (kg3)) ?_
      refine nr ?_; intro U h; simp only [z0, z1] at h; subst h
      refine s_gvalY 53 rfl rfl y5 rfl (.agg (idA s)) (ldI0 _ rfl gS rfl (kgS)) ?_
      refine nr ?_; intro U h; simp only [z0, z1] at h; subst h
      refine s_gvalY 54 rfl rfl y5 rfl (.bool true) (run_neI _ _ _ rfl (cho d s N (layL [] E)).id s rfl rfl (cho_ok hs HN.all hAll).id hs true (decide_eq_false hsf.1)) ?_
      refine nr ?_; intro U h; simp only [z0, z1] at h; subst h
      refine s_gvalY 55 rfl rfl y5 rfl (.bool true) (rfl) ?_
      refine nr ?_; intro U h; simp only [z0, z1] at h; subst h
      refine s_gvalY 56 rfl rfl y10 rfl (.agg (idA d)) (ldI0 _ rfl g1 rfl (kg1)) ?_
      refine nr ?_; intro U h; simp only [z0, z1] at h; subst h
      refine s_gvalY 57 rfl rfl y10 rfl (.pointer (some ⟨g3, 0, none⟩)) (run_fld 40 _ 0 rfl g3 0 rfl 0 (by kernel_rfl)) ?_
      refine nr ?_; intro U h; simp only [z0, z1] at h; subst h
      refine s_gvalY 58 rfl rfl y10 rfl (.agg (idA (cho d s N (layL [] E)).id)) (ldCi _ rfl g3 rfl (kg3)) ?_
      refine nr ?_; intro U h; simp only [z0, z1] at h; subst h
      refine s_gvalY 59 rfl rfl y10 rfl (.agg (idA s)) (ldI0 _ rfl gS rfl (kgS)) ?_
      refine nr ?_; intro U h; simp only [z0, z1] at h; subst h
      refine s_gcallvY 60 rfl rfl y10 rfl _ 19 Try.call19 rfl rfl _ rfl [.agg (idA d), .agg (idA (cho d s N (layL [] E)).id), .agg (idA s)] rfl (Calls.bool (refnearer_any d (cho d s N (layL [] E)).id s hd (cho_ok hs HN.all hAll).id hs _) hsf.2) ?_
      intro w10 G
      replace kg1 := G.has kg1
      replace kgS := G.has kgS
      replace kg3 := G.has kg3
      replace HR2 := HR2.gro G
      replace GG := GG.trans G
      clear G
      refine nr ?_; intro U h; simp only [z0, z1] at h; subst h
      refine s_gvalY 61 rfl rfl y5 rfl (.bool true) (rfl) ?_
      refine nr ?_; intro U h; simp only [z0, z1] at h; subst h
      refine s_gvalY 62 rfl rfl y1 rfl (.bool true) (rfl) ?_
      refine nr ?_; intro U h; simp only [z0, z1] at h; subst h
      refine s_val 63 rfl rfl (.bool true) (rfl) ?_
      refine nr ?_; intro U h; simp only [z0, z1] at h; subst h
      refine s_val 4 rfl rfl (.bool true) (rfl) ?_
      refine nr ?_; intro U h; simp only [z0, z1] at h; subst h
      refine wpList_nil ?_
      refine then_n ?_
      refine wp_ret ?_
      refine bodyPost_ret (results_tmp Try.results5 _ _ _) rfl ?_
      exact ⟨rfl, GG⟩
    · refine wp_region_opq ?_
      intro OPS hY
      have y1 := hY 1 46 rfl
      have y5 := hY 5 50 rfl
      have y10 := hY 10 55 rfl
      clear hY
      refine s_callv 45 rfl rfl _ 10 Try.call10 rfl rfl _ rfl [] rfl (fixed_any _) ?_
      intro w9 G
      replace kg1 := G.has kg1
      replace kgS := G.has kgS
      replace kg3 := G.has kg3
      replace HR2 := HR2.gro G
      replace GG := GG.trans G
      clear G
      refine nr ?_; intro U h; simp only [z0, z1] at h; subst h
      refine s_val 46 rfl rfl (.bool true) (rfl) ?_
      refine nr ?_; intro U h; simp only [z0, z1] at h; subst h
      refine s_gvalY 47 rfl rfl y1 rfl (.pointer (some ⟨g3, 34, none⟩)) (run_fld 40 _ 3 rfl g3 0 rfl 34 (by kernel_rfl)) ?_
      refine nr ?_; intro U h; simp only [z0, z1] at h; subst h
      refine s_gvalY 48 rfl rfl y1 rfl (.int .i64 (cho d s N (layL [] E)).n) (ldCn _ rfl g3 rfl (kg3)) ?_
      refine nr ?_; intro U h; simp only [z0, z1] at h; subst h
      refine s_gvalY 49 rfl rfl y1 rfl (.bool true) (run_eq_k 3 .i64 _ _ _ rfl Try.underlying3 (cho d s N (layL [] E)).n (-1) rfl rfl true hn _) ?_
      refine nr ?_; intro U h; simp only [z0, z1] at h; subst h
      refine s_gvalY 50 rfl rfl y1 rfl (.bool true) (rfl) ?_
      refine nr ?_; intro U h; simp only [z0, z1] at h; subst h
      refine s_skipY 51 rfl rfl y5 rfl ?_
      refine nr ?_; intro U h; simp only [z0, z1] at h; subst h
      refine s_skipY 52 rfl rfl y5 rfl ?_
      refine nr ?_; intro U h; simp only [z0, z1] at h; subst h
      refine s_skipY 53 rfl rfl y5 rfl ?_
      refine nr ?_; intro U h; simp only [z0, z1] at h; subst h
      refine s_skipY 54 rfl rfl y5 rfl ?_
      refine nr ?_; intro U h; simp only [z0, z1] at h; subst h
      refine s_skipY 55 rfl rfl y5 rfl ?_
      refine nr ?_; intro U h; simp only [z0, z1] at h; subst h
      refine s_skipY 56 rfl rfl y10 rfl ?_
      refine nr ?_; intro U h; simp only [z0, z1] at h; subst h
      refine s_skipY 57 rfl rfl y10 rfl ?_
      refine nr ?_; intro U h; simp only [z0, z1] at h; subst h
      refine s_skipY 58 rfl rfl y10 rfl ?_
      refine nr ?_; intro U h; simp only [z0, z1] at h; subst h
      refine s_skipY 59 rfl rfl y10 rfl ?_
      refine nr ?_; intro U h; simp only [z0, z1] at h; subst h
      refine s_skipY 60 rfl rfl y10 rfl ?_
      refine nr ?_; intro U h; simp only [z0, z1] at h; subst h
      refine s_skipY 61 rfl rfl y5 rfl ?_
      refine nr ?_; intro U h; simp only [z0, z1] at h; subst h
      refine s_gvalY 62 rfl rfl y1 rfl (.bool true) (rfl) ?_
      refine nr ?_; intro U h; simp only [z0, z1] at h; subst h
      refine s_val 63 rfl rfl (.bool true) (rfl) ?_
      refine nr ?_; intro U h; simp only [z0, z1] at h; subst h
      refine s_val 4 rfl rfl (.bool true) (rfl) ?_
      refine nr ?_; intro U h; simp only [z0, z1] at h; subst h
      refine wpList_nil ?_
      refine then_n ?_
      refine wp_ret ?_
      refine bodyPost_ret (results_tmp Try.results5 _ _ _) rfl ?_
      exact ⟨rfl, GG⟩
  · have hil : i < (knw s N (layL [] E)).length := by have := of_decide_eq_true hi1; omega
    refine s_val 35 rfl rfl (.bool true) (run_lssT 3 _ _ _ rfl ((i : Nat) : Int) (((knw s N (layL [] E)).length : Nat) : Int) rfl rfl true hi1 _) ?_
    refine nr ?_; intro U h; simp only [z0, z1] at h; subst h
    refine wpList_nil ?_
    refine then_n ?_
    refine wp_seq ?_
    refine wp_cond_true rfl ?_
    refine wp_skip ?_
    refine then_n ?_
    refine wp_seq ?_
    refine wp_block ?_
    refine wp_seq ?_
    refine wp_region_lit ?_
    refine s_val 36 rfl rfl (.pointer (pK kC ao2 i 0)) (run_ixK rC (HR2) _ _ rfl rfl i rfl (by omega)) ?_
    refine nr ?_; intro U h; simp only [z0, z1] at h; subst h
    refine s_val 37 rfl rfl (.agg (chA ((knw s N (layL [] E)).getD i zC))) (run_ldKC (HR2) _ rfl i rfl (by omega)) ?_
    refine nr ?_; intro U h; simp only [z0, z1] at h; subst h
    refine s_alloc 12 rfl rfl 40 rfl _ zeroC (chA zC) rfl ?_
    intro w9 g4 G eg4 kg4
    have bg4 := size_base GG eg4
    have dg1g4 := lt_new kg1 eg4
    have dgSg4 := lt_new kgS eg4
    have dg3g4 := lt_new kg3 eg4
    have dHR2g4 := HR2.ne eg4
    replace kg1 := G.has kg1
    replace kgS := G.has kgS
    replace kg3 := G.has kg3
    replace HR2 := HR2.gro G
    replace GG := GG.trans G
    clear G
    clear eg4
    refine nr ?_; intro U h; simp only [z0, z1] at h; subst h
    refine s_store rfl rfl 40 _ _ rfl g4 0 rfl (.agg (chA ((knw s N (layL [] E)).getD i zC))) rfl 40 _ kg4 (chA ((knw s N (layL [] E)).getD i zC)) rfl (siC' _) (chA_fit _ _) (chA_one _) (chA ((knw s N (layL [] E)).getD i zC)) (splice_whole _ _ (chA_sz _ _)) ?_
    intro w10 St
    have kS := kg4
    replace kg1 := St.has (by omega) kg1
    replace kgS := St.has (by omega) kgS
    replace kg3 := St.has (by omega) kg3
    replace HR2 := HR2.st St dHR2g4
    replace GG := GG.store St bg4
    replace kg4 := St.new
    clear St
    refine wpList_nil ?_
    refine then_n ?_
    refine wp_seq ?_
    refine wp_region_lit ?_
    refine s_val 38 rfl rfl (.agg (idA d)) (ldI0 _ rfl g1 rfl (kg1)) ?_
    refine nr ?_; intro U h; simp only [z0, z1] at h; subst h
    refine s_val 39 rfl rfl (.pointer (some ⟨g4, 0, none⟩)) (run_fld 40 _ 0 rfl g4 0 rfl 0 (by kernel_rfl)) ?_
    refine nr ?_; intro U h; simp only [z0, z1] at h; subst h
    refine s_val 40 rfl rfl (.agg (idA ((knw s N (layL [] E)).getD i zC).id)) (ldCi _ rfl g4 rfl (kg4)) ?_
    refine nr ?_; intro U h; simp only [z0, z1] at h; subst h
    refine s_val 41 rfl rfl (.pointer (some ⟨g3, 0, none⟩)) (run_fld 40 _ 0 rfl g3 0 rfl 0 (by kernel_rfl)) ?_
    refine nr ?_; intro U h; simp only [z0, z1] at h; subst h
    refine s_val 42 rfl rfl (.agg (idA (cho d s N (layL [] E)).id)) (ldCi _ rfl g3 rfl (kg3)) ?_
    refine nr ?_; intro U h; simp only [z0, z1] at h; subst h
    refine s_callv 43 rfl rfl _ 19 Try.call19 rfl rfl _ rfl [.agg (idA d), .agg (idA ((knw s N (layL [] E)).getD i zC).id), .agg (idA (cho d s N (layL [] E)).id)] rfl (Calls.bool (refnearer_any d ((knw s N (layL [] E)).getD i zC).id (cho d s N (layL [] E)).id hd (atC HKn hil).id (cho_ok hs HN.all hAll).id _) (cho_near hd hs HN.all hAll _ (inC hil))) ?_
    intro w11 G
    replace kg1 := G.has kg1
    replace kgS := G.has kgS
    replace kg3 := G.has kg3
    replace kg4 := G.has kg4
    replace HR2 := HR2.gro G
    replace GG := GG.trans G
    clear G
    refine nr ?_; intro U h; simp only [z0, z1] at h; subst h
    refine wpList_nil ?_
    refine then_n ?_
    refine wp_cond_false rfl ?_
    refine wp_skip ?_
    refine blk_n ?_
    refine then_n ?_
    refine wp_region_lit ?_
    refine s_val 44 rfl rfl (.int .i64 ((i + 1 : Nat) : Int)) (run_addI 3 _ _ _ rfl ((i : Nat) : Int) 1 ((i + 1 : Nat) : Int) rfl rfl (by omega) (by omega) (by omega) _) ?_
    refine nr ?_; intro U h; simp only [z0, z1] at h; subst h
    refine s_val 34 rfl rfl (.int .i64 ((i + 1 : Nat) : Int)) (rfl) ?_
    refine nr ?_; intro U h; simp only [z0, z1] at h; subst h
    refine wpList_nil ?_
    refine then_n ?_
    exact ⟨(knw s N (layL [] E)).length + 1 - (i + 1), by omega, i + 1, (fun kz => ([us1 0, .pointer (some ⟨g4, 0, none⟩), .bool true, .pointer (pK kC ao2 i 0), .agg (chA ((knw s N (layL [] E)).getD i zC)), .agg (idA d), .pointer (some ⟨g4, 0, none⟩), .agg (idA ((knw s N (layL [] E)).getD i zC).id), .pointer (some ⟨g3, 0, none⟩), .agg (idA (cho d s N (layL [] E)).id), .bool false, .int .i64 ((i + 1 : Nat) : Int)] : List Value).getD kz undef), rfl, rfl, by omega, GG, kg1, kgS, kg3, HR2⟩
end Go.Proofs.Ytipfllalfifheaa
