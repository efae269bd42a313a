/- The laws of beginning and of taking: the document's answers. -/
import Derived.Test.YtkjnefgenffhcaaCZ6
import Derived.Test.YtkjnefgenffhcaaCT7
namespace Go.Proofs.Ytkjnefgenffhcaa
open Classical
open Go.RowKit Go.Maps
/-- A region in whatever order with new blocks, the frame written out by the caller. -/
def opsA2 (P : Program) (ops : Array Oper) (posts : List PostS) (A : (Nat → Value) → Act) (w0 : World) : Nat → List Oper → Prop
  | _, [] => True
  | i, o :: r => (∀ ptrs L w, Gro w0 w → newsHold2 L w0.heap.size posts ptrs w (edges o) → L i = false → OpOK2 P ops (postAt2 posts i) (postAt2 posts (postAt2 posts i).other) (ptrs (postAt2 posts i).other) o (A ptrs) w) ∧ opsA2 P ops posts A w0 (i + 1) r
theorem opsA2_nil {P : Program} {ops : Array Oper} {posts : List PostS} {A : (Nat → Value) → Act} {w0 : World} {i : Nat} : opsA2 P ops posts A w0 i [] := trivial
theorem opsA2_cons {P : Program} {ops : Array Oper} {posts : List PostS} {A : (Nat → Value) → Act} {w0 : World} {i : Nat} {o : Oper} {r : List Oper}
    (h : ∀ ptrs L w, Gro w0 w → newsHold2 L w0.heap.size posts ptrs w (edges o) → L i = false → OpOK2 P ops (postAt2 posts i) (postAt2 posts (postAt2 posts i).other) (ptrs (postAt2 posts i).other) o (A ptrs) w) (hr : opsA2 P ops posts A w0 (i + 1) r) : opsA2 P ops posts A w0 i (o :: r) := ⟨h, hr⟩
theorem ops2_of_A {P : Program} {ops : Array Oper} {posts : List PostS} {a0 : Act} {D : List (Nat × Nat)} {w0 : World} : ∀ (l : List Oper) (i : Nat), opsA2 P ops posts (fun ptrs => full a0 D (filled2 posts ptrs)) w0 i l → opsOK2 P ops posts a0 D w0 i l
  | [], _, _ => trivial
  | _ :: r, i, h => ⟨h.1, ops2_of_A r (i + 1) h.2⟩
theorem wp_region_g2A {P : Program} {id : Nat} {l : List Oper} {Q : Exit → Act → World → Prop} {a0 : Act} {w : World} {A : (Nat → Value) → Act} (n : Nat) (D : List (Nat × Nat)) (posts : List PostS) (hm : P.follows .mixedOrders = true)
    (hB : growB l.toArray n D = true) (hP : postsB l.toArray n (postAt2 posts) = true) (hsz : (D.all fun p => decide (p.2 < a0.tmps.size)) = true)
    (hA : ∀ ptrs, full a0 D (filled2 posts ptrs) = A ptrs)
    (hop : opsA2 P l.toArray posts A w.drew 0 (l.take n))
    (hrest : ∀ ptrs L w', Gro w.drew w' → (∀ i, L i = decide (i < n)) → newsHold2 L w.heap.size posts ptrs w' (List.range n) → newsApart2 posts ptrs n → wpList P l.toArray Q (l.drop n) (A ptrs) w') :
    (Code.region id l.toArray true).wp P Q a0 w := by
  have e : A = fun ptrs => full a0 D (filled2 posts ptrs) := funext fun ptrs => (hA ptrs).symm
  subst e
  exact wp_region_grow2 n D posts hm hB hP hsz (ops2_of_A _ _ hop) hrest
theorem apart_two {posts : List PostS} {ptrs : Nat → Value} {n i j : Nat} (h : newsApart2 posts ptrs n) (hf : ((List.range n).filter fun i => (postAt2 posts i).kind == 1) = [i, j]) : ptrs i ≠ ptrs j := by
  unfold newsApart2 at h
  rw [hf] at h
  exact (List.pairwise_cons.1 h).1 j (by simp)
theorem OI.rtw {w w' : World} {B r : Nat} {ao : Option Addr} {cap : Nat} {l : List Int} {cs : Array Value} {t : TypeId} (h : OI w B ao cap l) (kr : w.heap[r]? = some (.cells cs t (0, 0))) (ht : t ≠ 3) (G : GroS [r] w w') : OI w' B ao cap l := h.gros G fun ad ha hm => by
  rw [List.mem_singleton] at hm
  obtain ⟨c, hc⟩ := h.own.ty ha
  rw [hm, kr] at hc
  injection hc with hc
  injection hc with _ hc
  exact ht hc
section
variable {room : Nat} {L : List En} {N fr : Int} {ID b : Nat} {p : Pa} {way : List Int} {o : List Bool} {M : Msg}
theorem getD_i64 {l : List Int} (h : ∀ x ∈ l, I64t x) (j : Nat) : I64 (l.getD j 0) := by
  by_cases hj : j < l.length
  · exact h _ (getD_memZ hj)
  · rw [List.getD_eq_getElem?_getD, List.getElem?_eq_none (by omega)]
    exact ⟨by decide, by decide⟩
theorem xS_ok (hi : ID < top) (hp : p.ok) (hb : b < top) (hw : ∀ x ∈ way, I64t x) : (xS ID p b way).ok := ⟨hp, hi, hb, m1i, getD_i64 hw 1⟩
theorem stL_or : stL room L N ID p b way o = L ∨ stL room L N ID p b way o = addL room L (xS ID p b way) := by
  unfold stL
  split
  · split
    · exact .inr rfl
    · exact .inl rfl
  · exact .inl rfl
theorem stL_ris (ha : AllE L) (h : Ris L) (hx : (xS ID p b way).ok) : Ris (stL room L N ID p b way o) := by
  rcases stL_or (room := room) (L := L) (N := N) (ID := ID) (p := p) (b := b) (way := way) (o := o) with e | e <;> rw [e]
  · exact h
  · exact addL_ris ha h hx
theorem stL_le (hr : room ≤ 128) (h : L.length ≤ 128) : (stL room L N ID p b way o).length ≤ 128 := by
  rcases stL_or (room := room) (L := L) (N := N) (ID := ID) (p := p) (b := b) (way := way) (o := o) with e | e <;> rw [e]
  · exact h
  · exact addL_le hr h
/-- What is said has the trail of what came. -/
theorem stE_len {n : Nat} (h : way.length ≤ n) : ∀ k m, (stE room L N ID p b way o).out = some (k, m) → m.l.length ≤ n := fun k m e => by
  unfold stE at e
  split at e
  · split at e
    · split at e
      · cases e; exact h
      · cases e
    · cases e
  · cases e
end
set_option maxRecDepth 100000 in
set_option maxHeartbeats 4000000 in
theorem setupStarts_any (w : World) (ae : Option Addr) (ce : Nat) (E : List En) (HE : RE w ae ce E) (hEl : E.length ≤ maxLen) (most N : Int) (i : Nat) (hi : i < top) (ap : Option Addr) (cq : Nat) (o : List Bool) (HB : RK kB w ap cq o) (p : Pa) (hp : p.ok) (c : Nat) (hc : c < top) (ao : Option Addr) (cap : Nat) (way : List Int) (HI : RC w ao cap way) (hwl : way.length ≤ 17592186044416) : Calls Try.prog 3 #[.agg (csA ae E.length ce most N i ap o.length cq), .agg (wyA p c ao way.length cap)] w (fun e w' => e = .returned (.bool true) ∧ Gro w w') := by
  refine s_enter Try.func3 rfl Try.ntmps3 [.agg (csA ae E.length ce most N i ap o.length cq), .agg (wyA p c ao way.length cap)] [.agg (csA ae E.length ce most N i ap o.length cq), .agg (wyA p c ao way.length cap), undef, undef, undef, undef, undef, undef, undef, undef, undef, undef, undef, undef, undef, undef, undef, undef, undef, undef, undef, undef, undef, undef, undef, undef, undef, undef, undef, undef, undef, undef, undef, undef, undef, undef, undef, undef, undef, undef, undef, undef, undef, undef, undef, undef, undef, undef, undef, undef, undef, undef, undef, undef, undef, undef, undef, undef, undef, undef, undef, undef, undef, undef, undef, undef, undef, undef, undef, undef, undef, undef, undef, undef, undef, undef, undef, undef, undef, undef, undef, undef, undef, undef, undef, undef, undef, undef, undef, undef, undef, undef, undef, undef, undef, undef, undef] rfl ?_
  have GG := Gro.refl w
  have hLall : AllE (layR (rmF most) E) := layR_ok HE.all
  have hLris : Ris (layR (rmF most) E) := layR_ris HE.all
  have hLle : (layR (rmF most) E).length ≤ 128 := layR_le (rmF_le most) E
  have hLb : (layR (rmF most) E).length ≤ 1000 := by omega
  have HI0 := HI.all
  refine wp_seq ?_
  refine wp_region_lit ?_
  refine s_box 2 rfl rfl 29 _ rfl _ rfl (csA ae E.length ce most N i ap o.length cq) rfl ?_
  intro w1 g1 G eg1 kg1
  have bg1 := size_base GG eg1
  have dHEg1 := HE.ne eg1
  have dHBg1 := HB.ne eg1
  have dHIg1 := HI.ne eg1
  replace HE := HE.gro G
  replace HB := HB.gro G
  replace HI := HI.gro G
  replace GG := GG.trans G
  clear G
  clear eg1
  refine nr ?_; intro U h; simp only [z0, z1] at h; subst h
  refine s_box 3 rfl rfl 34 _ rfl _ rfl (wyA p c ao way.length cap) rfl ?_
  intro w2 g2 G eg2 kg2
  have bg2 := size_base GG eg2
  have dg1g2 := lt_new kg1 eg2
  have dHEg2 := HE.ne eg2
  have dHBg2 := HB.ne eg2
  have dHIg2 := HI.ne eg2
  replace kg1 := G.has kg1
  replace HE := HE.gro G
  replace HB := HB.gro G
  replace HI := HI.gro G
  replace GG := GG.trans G
  clear G
  clear eg2
  refine nr ?_; intro U h; simp only [z0, z1] at h; subst h
  refine s_val 4 rfl rfl (.bool false) (rfl) ?_
  refine nr ?_; intro U h; simp only [z0, z1] at h; subst h
  refine wpList_nil ?_
  refine then_n ?_
  refine wp_seq ?_
  refine wp_region_g2A (A := ?Ax1) 10 [(0, 16), (1, 17), (2, 18), (3, 19), (4, 20), (5, 21), (6, 5), (7, 6)] [.val (.pointer (some ⟨g2, 0, none⟩)), .val (.agg (paA p)), .val (.pointer (some ⟨g2, 17, none⟩)), .val (.agg (idA c)), .val (.pointer (some ⟨g2, 33, none⟩)), .val (.slice ao way.length cap), .new 31 (paA zP) (paA p) 8, .new 24 (idA 0) (idA c) 9, .put 6, .put 7] follows (by kernel_rfl) (by kernel_rfl) rfl ?hAx1 (opsA2_cons ?o0x1 (opsA2_cons ?o1x1 (opsA2_cons ?o2x1 (opsA2_cons ?o3x1 (opsA2_cons ?o4x1 (opsA2_cons ?o5x1 (opsA2_cons ?o6x1 (opsA2_cons ?o7x1 (opsA2_cons ?o8x1 (opsA2_cons ?o9x1 opsA2_nil)))))))))) ?restx1
  case hAx1 =>
    intro ptrs
    simp only [full, foldSlots, filled2, postAt2, List.foldl_cons, List.foldl_nil, List.getD_cons_zero, List.getD_cons_succ, PostS.fill, PostS.val, PostS.new, PostS.put, List.set_cons_zero, List.set_cons_succ]
    exact rfl
  case o0x1 => exact fun _ _ _ _ _ _ => OpOK2.of_val (ok_value (v := .pointer (some ⟨g2, 0, none⟩)) rfl (run_fld 34 _ 0 rfl g2 0 rfl 0 (by kernel_rfl)))
  case o1x1 => exact fun _ _ _ hw _ _ => OpOK2.of_val (ok_value (v := .agg (paA p)) rfl (ldY_p _ rfl g2 rfl (hw.has kg2)))
  case o2x1 => exact fun _ _ _ _ _ _ => OpOK2.of_val (ok_value (v := .pointer (some ⟨g2, 17, none⟩)) rfl (run_fld 34 _ 1 rfl g2 0 rfl 17 (by kernel_rfl)))
  case o3x1 => exact fun _ _ _ hw _ _ => OpOK2.of_val (ok_value (v := .agg (idA c)) rfl (ldY_b _ rfl g2 rfl (hw.has kg2)))
  case o4x1 => exact fun _ _ _ _ _ _ => OpOK2.of_val (ok_value (v := .pointer (some ⟨g2, 33, none⟩)) rfl (run_fld 34 _ 2 rfl g2 0 rfl 33 (by kernel_rfl)))
  case o5x1 => exact fun _ _ _ hw _ _ => OpOK2.of_val (ok_value (v := .slice ao way.length cap) rfl (ldY_t _ rfl g2 rfl (hw.has kg2)))
  case o6x1 => exact fun _ _ _ _ _ _ => OpOK2.of_new (ok_alloc rfl 31 rfl _ zvP)
  case o7x1 => exact fun _ _ _ _ _ _ => OpOK2.of_new (ok_alloc rfl 24 rfl _ zero23)
  case o8x1 =>
    intro ptrs Lq wq hw hn hL
    obtain ⟨⟨gq, pq, kq, cq⟩, hz⟩ := hn
    have hL' : Lq 8 = false := hL
    have p' : ptrs 6 = .pointer (some ⟨gq, 0, none⟩) := pq
    have k' : wq.heap[gq]? = some (.cells (if Lq 8 = true then (paA p) else (paA zP)) 31 (0, 0)) := kq
    rw [hL'] at k'
    refine ok2_store rfl 31 _ _ rfl gq ?_ (paA p) rfl (paA zP) k' (si31' _) (paA_sz _ _) (paA_one _) rfl p' _
    show ptrs 6 = _
    exact p'
  case o9x1 =>
    intro ptrs Lq wq hw hn hL
    obtain ⟨⟨gq, pq, kq, cq⟩, hz⟩ := hn
    have hL' : Lq 9 = false := hL
    have p' : ptrs 7 = .pointer (some ⟨gq, 0, none⟩) := pq
    have k' : wq.heap[gq]? = some (.cells (if Lq 9 = true then (idA c) else (idA 0)) 24 (0, 0)) := kq
    rw [hL'] at k'
    refine ok2_store rfl 24 _ _ rfl gq ?_ (idA c) rfl (idA 0) k' (size23' _) (idA_sz _ _) (idA_one _) rfl p' _
    show ptrs 7 = _
    exact p'
  intro ptrs Lz w3 GD hLz hnz hapz
  obtain ⟨⟨gP, pzgP, kgP, czgP⟩, ⟨⟨gB, pzgB, kgB, czgB⟩, hzz⟩⟩ := hnz
  simp only [List.drop_succ_cons, List.drop_zero, pzgP, pzgB]
  replace kgP : w3.heap[gP]? = some (.cells (paA p) 31 (0, 0)) := by
    have hL' : Lz 8 = true := by rw [hLz]; rfl
    have kk : w3.heap[gP]? = some (.cells (if Lz 8 = true then (paA p) else (paA zP)) 31 (0, 0)) := kgP
    rw [hL'] at kk
    exact kk
  replace kgB : w3.heap[gB]? = some (.cells (idA c) 24 (0, 0)) := by
    have hL' : Lz 9 = true := by rw [hLz]; rfl
    have kk : w3.heap[gB]? = some (.cells (if Lz 9 = true then (idA c) else (idA 0)) 24 (0, 0)) := kgB
    rw [hL'] at kk
    exact kk
  have ngPgB : gP ≠ gB := fun e => apart_two (i := 6) (j := 7) hapz (by kernel_rfl) (by rw [pzgP, pzgB, e])
  clear hzz hapz hLz
  have dg1gP : g1 < gP := Nat.lt_of_lt_of_le (lt_of_heap kg1) czgP
  have dg2gP : g2 < gP := Nat.lt_of_lt_of_le (lt_of_heap kg2) czgP
  have dHEgP := HE.neG czgP
  have dHBgP := HB.neG czgP
  have dHIgP := HI.neG czgP
  have dg1gB : g1 < gB := Nat.lt_of_lt_of_le (lt_of_heap kg1) czgB
  have dg2gB : g2 < gB := Nat.lt_of_lt_of_le (lt_of_heap kg2) czgB
  have dHEgB := HE.neG czgB
  have dHBgB := HB.neG czgB
  have dHIgB := HI.neG czgB
  replace kg1 := GD.has kg1
  replace kg2 := GD.has kg2
  replace HE := HE.gro ((Gro.refl _).drew.trans GD)
  replace HB := HB.gro ((Gro.refl _).drew.trans GD)
  replace HI := HI.gro ((Gro.refl _).drew.trans GD)
  have bgP := Nat.le_trans GG.size czgP
  have bgB := Nat.le_trans GG.size czgB
  replace GG := GG.drew.trans GD
  clear GD pzgP czgP pzgB czgB
  refine s_val 7 rfl rfl (.slice ao way.length cap) (rfl) ?_
  refine nr ?_; intro U h; simp only [z0, z1] at h; subst h
  refine wpList_nil ?_
  refine then_n ?_
  refine wp_seq ?_
  refine wp_region_lit ?_
  refine s_val 23 rfl rfl (.pointer (some ⟨g1, 0, none⟩)) (run_fld 29 _ 0 rfl g1 0 rfl 0 (by kernel_rfl)) ?_
  refine nr ?_; intro U h; simp only [z0, z1] at h; subst h
  refine s_val 24 rfl rfl (.slice ae E.length ce) (ldC_e _ rfl g1 rfl (kg1)) ?_
  refine nr ?_; intro U h; simp only [z0, z1] at h; subst h
  refine s_val 25 rfl rfl (.pointer (some ⟨g1, 1, none⟩)) (run_fld 29 _ 1 rfl g1 0 rfl 1 (by kernel_rfl)) ?_
  refine nr ?_; intro U h; simp only [z0, z1] at h; subst h
  refine s_val 26 rfl rfl (.int .i64 most) (ldC_m _ rfl g1 rfl (kg1)) ?_
  refine nr ?_; intro U h; simp only [z0, z1] at h; subst h
  refine s_callx 27 rfl rfl _ 8 Try.call8 rfl rfl _ rfl [.slice ae E.length ce, .int .i64 most] rfl (laid_any _ ae ce E HE hEl most) (by rintro _ _ ⟨_, _, _, _, _, he, _⟩; exact ⟨_, he⟩) ?_
  rintro v w4 ⟨t, b, r, ra, rc, he, G, kt, HTt, kr, HL, h1t, h1b, h1r⟩
  cases he
  have dg1t : g1 < t := Nat.lt_of_lt_of_le (lt_of_heap kg1) h1t
  have dg1r : g1 < r := Nat.lt_of_lt_of_le (lt_of_heap kg1) h1r
  have dg2t : g2 < t := Nat.lt_of_lt_of_le (lt_of_heap kg2) h1t
  have dg2r : g2 < r := Nat.lt_of_lt_of_le (lt_of_heap kg2) h1r
  have dgPt : gP < t := Nat.lt_of_lt_of_le (lt_of_heap kgP) h1t
  have dgPr : gP < r := Nat.lt_of_lt_of_le (lt_of_heap kgP) h1r
  have dgBt : gB < t := Nat.lt_of_lt_of_le (lt_of_heap kgB) h1t
  have dgBr : gB < r := Nat.lt_of_lt_of_le (lt_of_heap kgB) h1r
  have dHBr := HB.neG h1r
  have dHIr := HI.neG h1r
  have bt := Nat.le_trans GG.size h1t
  have bb := Nat.le_trans GG.size h1b
  have br := Nat.le_trans GG.size h1r
  clear h1t h1b h1r
  replace kg1 := G.has kg1
  replace kg2 := G.has kg2
  replace kgP := G.has kgP
  replace kgB := G.has kgB
  replace HB := HB.gro G
  replace HI := HI.gro G
  replace GG := GG.trans G
  clear G
  refine nr ?_; intro U h; simp only [z0, z1] at h; subst h
  have ntr : t ≠ r := fun e => ne_cells kt kr (by decide) (by simp [e])
  have dHTtg1 := (HTt.nec kg1).symm
  have dHLg1 := HL.own.ne kg1 (by decide)
  have dHTtg2 := (HTt.nec kg2).symm
  have dHLg2 := HL.own.ne kg2 (by decide)
  have dHTtgP := (HTt.nec kgP).symm
  have dHLgP := HL.own.ne kgP (by decide)
  have dHTtgB := (HTt.nec kgB).symm
  have dHLgB := HL.own.ne kgB (by decide)
  refine s_val 22 rfl rfl (.tuple #[.pointer (some ⟨t, 0, none⟩), .pointer (some ⟨r, 0, none⟩)]) (rfl) ?_
  refine nr ?_; intro U h; simp only [z0, z1] at h; subst h
  refine s_val 28 rfl rfl (.pointer (some ⟨t, 0, none⟩)) (rfl) ?_
  refine nr ?_; intro U h; simp only [z0, z1] at h; subst h
  refine s_val 29 rfl rfl (.pointer (some ⟨r, 0, none⟩)) (rfl) ?_
  refine nr ?_; intro U h; simp only [z0, z1] at h; subst h
  refine s_val 8 rfl rfl (.pointer (some ⟨t, 0, none⟩)) (rfl) ?_
  refine nr ?_; intro U h; simp only [z0, z1] at h; subst h
  refine s_val 9 rfl rfl (.pointer (some ⟨r, 0, none⟩)) (rfl) ?_
  refine nr ?_; intro U h; simp only [z0, z1] at h; subst h
  refine wpList_nil ?_
  refine then_n ?_
  refine wp_seq ?_
  refine wp_region_lit ?_
  refine s_bsl 30 rfl rfl 32 0 _ rfl [] rfl (ci []).toArray 3 (by kernel_rfl) ?_
  intro w5 q9 Gq eq9 kq9
  refine nr ?_; intro U h; simp only [z0, z1] at h; subst h
  refine s_val 31 rfl rfl (.slice ao way.length cap) (rfl) ?_
  refine nr ?_; intro U h; simp only [z0, z1] at h; subst h
  have HO0 : OI _ q9 (some ⟨q9, 0, none⟩) 0 [] := ⟨OX.made kq9 (Nat.le_refl _) (Nat.le_refl _) (by decide) rfl rfl rfl (fun _ h => by cases h), fun _ h => by cases h⟩
  refine s_appI 32 rfl rfl _ _ rfl (l := []) rfl HO0 rfl (HI.gro Gq) (by have h0 : ([] : List Int).length = 0 := rfl; omega) (Nat.le_of_lt (lt_of_heap kq9)) ?_
  intro ao9 cap9 w6 HV HBl
  have G := below_gro Gq HBl (Nat.le_of_eq eq9)
  rw [List.nil_append] at HV
  simp only [List.nil_append]
  have dHVg1 := HV.neL (Nat.lt_of_lt_of_le (lt_of_heap kg1) (Nat.le_of_eq eq9))
  have dHVg2 := HV.neL (Nat.lt_of_lt_of_le (lt_of_heap kg2) (Nat.le_of_eq eq9))
  have dHVgP := HV.neL (Nat.lt_of_lt_of_le (lt_of_heap kgP) (Nat.le_of_eq eq9))
  have dHVgB := HV.neL (Nat.lt_of_lt_of_le (lt_of_heap kgB) (Nat.le_of_eq eq9))
  have dHVt := HV.neL (Nat.lt_of_lt_of_le (lt_of_heap kt) (Nat.le_of_eq eq9))
  have dHVr := HV.neL (Nat.lt_of_lt_of_le (lt_of_heap kr) (Nat.le_of_eq eq9))
  have bHV : w.heap.size ≤ q9 := Nat.le_trans GG.size (Nat.le_of_eq eq9)
  clear HO0 HBl kq9 eq9 Gq
  replace kg1 := G.has kg1
  replace kg2 := G.has kg2
  replace kgP := G.has kgP
  replace kgB := G.has kgB
  replace kt := G.has kt
  replace kr := G.has kr
  replace HB := HB.gro G
  replace HI := HI.gro G
  replace HTt := HTt.gro G
  replace HL := HL.gro G
  replace GG := GG.trans G
  clear G
  refine nr ?_; intro U h; simp only [z0, z1] at h; subst h
  refine s_val 10 rfl rfl (.slice ao9 way.length cap9) (rfl) ?_
  refine nr ?_; intro U h; simp only [z0, z1] at h; subst h
  refine wpList_nil ?_
  refine then_n ?_
  refine wp_seq ?_
  refine wp_region_lit ?_
  refine s_val 34 rfl rfl (.pointer (some ⟨t, 0, none⟩)) (rfl) ?_
  refine nr ?_; intro U h; simp only [z0, z1] at h; subst h
  refine s_val 35 rfl rfl (.pointer (some ⟨g1, 2, none⟩)) (run_fld 29 _ 2 rfl g1 0 rfl 2 (by kernel_rfl)) ?_
  refine nr ?_; intro U h; simp only [z0, z1] at h; subst h
  refine s_val 36 rfl rfl (.agg (seA N i)) (ldC_s _ rfl g1 rfl (kg1)) ?_
  refine nr ?_; intro U h; simp only [z0, z1] at h; subst h
  refine s_val 37 rfl rfl (.agg (paA p)) (ldP0 _ rfl gP rfl (kgP)) ?_
  refine nr ?_; intro U h; simp only [z0, z1] at h; subst h
  refine s_val 38 rfl rfl (.agg (idA c)) (ldI0 _ rfl gB rfl (kgB)) ?_
  refine nr ?_; intro U h; simp only [z0, z1] at h; subst h
  refine s_val 39 rfl rfl (.slice ao9 way.length cap9) (rfl) ?_
  refine nr ?_; intro U h; simp only [z0, z1] at h; subst h
  refine s_val 40 rfl rfl (.pointer (some ⟨g1, 19, none⟩)) (run_fld 29 _ 3 rfl g1 0 rfl 19 (by kernel_rfl)) ?_
  refine nr ?_; intro U h; simp only [z0, z1] at h; subst h
  refine s_val 41 rfl rfl (.slice ap o.length cq) (ldC_o _ rfl g1 rfl (kg1)) ?_
  refine nr ?_; intro U h; simp only [z0, z1] at h; subst h
  obtain ⟨B1, hB1⟩ : ∃ B, w6.heap.size = B := ⟨_, rfl⟩
  have h91 : ∀ ad, ao9 = some ad → ad.block < B1 := fun ad ha => hB1 ▸ (HV.own.ge ad ha).2
  refine s_callx 42 rfl rfl _ 9 Try.call9 rfl rfl _ rfl [.pointer (some ⟨t, 0, none⟩), .agg (seA N i), .agg (paA p), .agg (idA c), .slice ao9 way.length cap9, .slice ap o.length cq] rfl (start_any _ t b (rmF most) (layR (rmF most) E) (kt) (HTt) N i hi p hp c hc ao9 cap9 way HV.rc ap cq o HB) (by rintro _ _ ⟨_, _, he, _⟩; exact ⟨_, he⟩) ?_
  rintro v w7 ⟨ao1, n1, he, HO1, HT2, G2⟩
  cases he
  rw [hB1] at HO1
  replace kg1 := G2.has kg1 (by simpa using HTt.nec kg1)
  replace kg2 := G2.has kg2 (by simpa using HTt.nec kg2)
  replace kgP := G2.has kgP (by simpa using HTt.nec kgP)
  replace kgB := G2.has kgB (by simpa using HTt.nec kgB)
  replace kt := G2.has kt (by simpa using HTt.nec kt)
  replace kr := G2.has kr (by simpa using HTt.nec kr)
  replace HB := HB.mapw HTt G2
  replace HI := HI.mapw HTt G2
  replace HL := HL.mapw HTt G2
  replace HV := HV.mapw HTt G2
  replace GG := G2.gro GG (by simpa using bb)
  clear HTt G2 hB1
  have HTt := HT2
  clear HT2
  refine nr ?_; intro U h; simp only [z0, z1] at h; subst h
  refine s_val 33 rfl rfl (.tuple #[.agg (edA ao1 n1 (stE (rmF most) (layR (rmF most) E) N i p c way o).mine (stE (rmF most) (layR (rmF most) E) N i p c way o).full), .int .i64 (stC (rmF most) (layR (rmF most) E) N i p c way o)]) (rfl) ?_
  refine nr ?_; intro U h; simp only [z0, z1] at h; subst h
  refine s_val 43 rfl rfl (.agg (edA ao1 n1 (stE (rmF most) (layR (rmF most) E) N i p c way o).mine (stE (rmF most) (layR (rmF most) E) N i p c way o).full)) (rfl) ?_
  refine nr ?_; intro U h; simp only [z0, z1] at h; subst h
  refine s_val 44 rfl rfl (.int .i64 (stC (rmF most) (layR (rmF most) E) N i p c way o)) (rfl) ?_
  refine nr ?_; intro U h; simp only [z0, z1] at h; subst h
  refine s_alloc 11 rfl rfl 41 rfl _ zvD (edA none 0 false false) rfl ?_
  intro w8 g3 G eg3 kg3
  have bg3 := size_base GG eg3
  have dg1g3 := lt_new kg1 eg3
  have dg2g3 := lt_new kg2 eg3
  have dgPg3 := lt_new kgP eg3
  have dgBg3 := lt_new kgB eg3
  have dtg3 := lt_new kt eg3
  have drg3 := lt_new kr eg3
  have dHBg3 := HB.ne eg3
  have dHIg3 := HI.ne eg3
  have dHTtg3 := HTt.ne eg3
  have dHLg3 := HL.ne eg3
  have dHVg3 := HV.ne eg3
  replace kg1 := G.has kg1
  replace kg2 := G.has kg2
  replace kgP := G.has kgP
  replace kgB := G.has kgB
  replace kt := G.has kt
  replace kr := G.has kr
  replace HB := HB.gro G
  replace HI := HI.gro G
  replace HTt := HTt.gro G
  replace HL := HL.gro G
  replace HV := HV.gro G
  replace HO1 := HO1.gro G
  replace GG := GG.trans G
  clear G
  clear eg3
  refine nr ?_; intro U h; simp only [z0, z1] at h; subst h
  refine s_store rfl rfl 41 _ _ rfl g3 0 rfl (.agg (edA ao1 n1 (stE (rmF most) (layR (rmF most) E) N i p c way o).mine (stE (rmF most) (layR (rmF most) E) N i p c way o).full)) rfl 41 _ kg3 (edA ao1 n1 (stE (rmF most) (layR (rmF most) E) N i p c way o).mine (stE (rmF most) (layR (rmF most) E) N i p c way o).full) rfl (siD' _ _ _ _) (Nat.le_refl _) (oneD _ _ _ _) (edA ao1 n1 (stE (rmF most) (layR (rmF most) E) N i p c way o).mine (stE (rmF most) (layR (rmF most) E) N i p c way o).full) (splice_whole _ _ (rfl)) ?_
  intro w9 St
  have kS := kg3
  replace kg1 := St.has (by omega) kg1
  replace kg2 := St.has (by omega) kg2
  replace kgP := St.has (by omega) kgP
  replace kgB := St.has (by omega) kgB
  replace kt := St.has (by omega) kt
  replace kr := St.has (by omega) kr
  replace HB := HB.st St dHBg3
  replace HI := HI.st St dHIg3
  replace HTt := HTt.st St dHTtg3
  replace HL := HL.st St dHLg3
  replace HV := HV.st St dHVg3
  replace HO1 := HO1.st St kS (by decide)
  replace GG := GG.store St bg3
  replace kg3 := St.new
  clear St
  refine s_val 12 rfl rfl (.int .i64 (stC (rmF most) (layR (rmF most) E) N i p c way o)) (rfl) ?_
  refine nr ?_; intro U h; simp only [z0, z1] at h; subst h
  refine wpList_nil ?_
  refine then_n ?_
  refine wp_seq ?_
  refine wp_region_lit ?_
  refine s_val 46 rfl rfl (.pointer (some ⟨r, 0, none⟩)) (rfl) ?_
  refine nr ?_; intro U h; simp only [z0, z1] at h; subst h
  refine s_val 47 rfl rfl (.pointer (some ⟨g1, 2, none⟩)) (run_fld 29 _ 2 rfl g1 0 rfl 2 (by kernel_rfl)) ?_
  refine nr ?_; intro U h; simp only [z0, z1] at h; subst h
  refine s_val 48 rfl rfl (.pointer (some ⟨g1, 2, none⟩)) (run_fld 26 _ 0 rfl g1 2 rfl 2 (by kernel_rfl)) ?_
  refine nr ?_; intro U h; simp only [z0, z1] at h; subst h
  refine s_val 49 rfl rfl (.int .i64 N) (ldC_n _ rfl g1 rfl (kg1)) ?_
  refine nr ?_; intro U h; simp only [z0, z1] at h; subst h
  refine s_val 50 rfl rfl (.pointer (some ⟨g1, 2, none⟩)) (run_fld 29 _ 2 rfl g1 0 rfl 2 (by kernel_rfl)) ?_
  refine nr ?_; intro U h; simp only [z0, z1] at h; subst h
  refine s_val 51 rfl rfl (.pointer (some ⟨g1, 3, none⟩)) (run_fld 26 _ 1 rfl g1 2 rfl 3 (by kernel_rfl)) ?_
  refine nr ?_; intro U h; simp only [z0, z1] at h; subst h
  refine s_val 52 rfl rfl (.agg (idA i)) (ldC_i _ rfl g1 rfl (kg1)) ?_
  refine nr ?_; intro U h; simp only [z0, z1] at h; subst h
  refine s_val 53 rfl rfl (.agg (paA p)) (ldP0 _ rfl gP rfl (kgP)) ?_
  refine nr ?_; intro U h; simp only [z0, z1] at h; subst h
  refine s_val 54 rfl rfl (.agg (idA c)) (ldI0 _ rfl gB rfl (kgB)) ?_
  refine nr ?_; intro U h; simp only [z0, z1] at h; subst h
  refine s_val 55 rfl rfl (.slice ao way.length cap) (rfl) ?_
  refine nr ?_; intro U h; simp only [z0, z1] at h; subst h
  refine s_val 56 rfl rfl (.pointer (some ⟨g1, 19, none⟩)) (run_fld 29 _ 3 rfl g1 0 rfl 19 (by kernel_rfl)) ?_
  refine nr ?_; intro U h; simp only [z0, z1] at h; subst h
  refine s_val 57 rfl rfl (.slice ap o.length cq) (ldC_o _ rfl g1 rfl (kg1)) ?_
  refine nr ?_; intro U h; simp only [z0, z1] at h; subst h
  obtain ⟨B2, hB2⟩ : ∃ B, w9.heap.size = B := ⟨_, rfl⟩
  have h92 : ∀ ad, ao9 = some ad → ad.block < B2 := fun ad ha => hB2 ▸ (HV.own.ge ad ha).2
  refine s_callx 58 rfl rfl _ 10 Try.call10 rfl rfl _ rfl [.pointer (some ⟨r, 0, none⟩), .int .i64 N, .agg (idA i), .agg (paA p), .agg (idA c), .slice ao way.length cap, .slice ap o.length cq] rfl (rstart_any _ r (rmF most) ra rc (layR (rmF most) E) (kr) (HL) hLb hLris.kn N i hi p hp c hc ao cap way HI dHIr hwl ap cq o HB dHBr) (by rintro _ _ ⟨_, _, he, _⟩; exact ⟨_, he⟩) ?_
  rintro v w10 ⟨ao2, n2, he, HO2, ra2, rc2, kr2, HL2, G2⟩
  cases he
  rw [hB2] at HO2
  replace kg1 := G2.has kg1 (ne_cells kg1 kr (by decide))
  replace kg2 := G2.has kg2 (ne_cells kg2 kr (by decide))
  replace kgP := G2.has kgP (ne_cells kgP kr (by decide))
  replace kgB := G2.has kgB (ne_cells kgB kr (by decide))
  replace kt := G2.has kt (ne_cells kt kr (by decide))
  replace kg3 := G2.has kg3 (ne_cells kg3 kr (by decide))
  replace HB := HB.rtw G2 dHBr
  replace HI := HI.rtw G2 dHIr
  replace HTt := HTt.rtw kr G2
  replace HV := HV.rtw kr (by decide) G2
  replace HO1 := HO1.rtw kr G2
  replace GG := G2.gro GG (by simpa using br)
  have dHLg1 := HL2.own.ne kg1 (by decide)
  have dHLg2 := HL2.own.ne kg2 (by decide)
  have dHLgP := HL2.own.ne kgP (by decide)
  have dHLgB := HL2.own.ne kgB (by decide)
  have dHLt := HL2.own.ne kt (by decide)
  have dHLg3 := HL2.own.ne kg3 (by decide)
  clear kr HL G2 hB2
  have kr := kr2
  have HL := HL2
  clear kr2 HL2
  refine nr ?_; intro U h; simp only [z0, z1] at h; subst h
  refine s_val 45 rfl rfl (.tuple #[.agg (edA ao2 n2 (stE (rmF most) (layR (rmF most) E) N i p c way o).mine (stE (rmF most) (layR (rmF most) E) N i p c way o).full), .int .i64 (stC (rmF most) (layR (rmF most) E) N i p c way o)]) (rfl) ?_
  refine nr ?_; intro U h; simp only [z0, z1] at h; subst h
  refine s_val 59 rfl rfl (.agg (edA ao2 n2 (stE (rmF most) (layR (rmF most) E) N i p c way o).mine (stE (rmF most) (layR (rmF most) E) N i p c way o).full)) (rfl) ?_
  refine nr ?_; intro U h; simp only [z0, z1] at h; subst h
  refine s_val 60 rfl rfl (.int .i64 (stC (rmF most) (layR (rmF most) E) N i p c way o)) (rfl) ?_
  refine nr ?_; intro U h; simp only [z0, z1] at h; subst h
  refine s_alloc 13 rfl rfl 45 rfl _ zvQ (edA none 0 false false) rfl ?_
  intro w11 g4 G eg4 kg4
  have bg4 := size_base GG eg4
  have dg1g4 := lt_new kg1 eg4
  have dg2g4 := lt_new kg2 eg4
  have dgPg4 := lt_new kgP eg4
  have dgBg4 := lt_new kgB eg4
  have dtg4 := lt_new kt eg4
  have drg4 := lt_new kr eg4
  have dg3g4 := lt_new kg3 eg4
  have dHBg4 := HB.ne eg4
  have dHIg4 := HI.ne eg4
  have dHTtg4 := HTt.ne eg4
  have dHLg4 := HL.ne eg4
  have dHVg4 := HV.ne eg4
  replace kg1 := G.has kg1
  replace kg2 := G.has kg2
  replace kgP := G.has kgP
  replace kgB := G.has kgB
  replace kt := G.has kt
  replace kr := G.has kr
  replace kg3 := G.has kg3
  replace HB := HB.gro G
  replace HI := HI.gro G
  replace HTt := HTt.gro G
  replace HL := HL.gro G
  replace HV := HV.gro G
  replace HO1 := HO1.gro G
  replace HO2 := HO2.gro G
  replace GG := GG.trans G
  clear G
  clear eg4
  refine nr ?_; intro U h; simp only [z0, z1] at h; subst h
  refine s_store rfl rfl 45 _ _ rfl g4 0 rfl (.agg (edA ao2 n2 (stE (rmF most) (layR (rmF most) E) N i p c way o).mine (stE (rmF most) (layR (rmF most) E) N i p c way o).full)) rfl 45 _ kg4 (edA ao2 n2 (stE (rmF most) (layR (rmF most) E) N i p c way o).mine (stE (rmF most) (layR (rmF most) E) N i p c way o).full) rfl (siQ' _ _ _ _) (Nat.le_refl _) (oneD _ _ _ _) (edA ao2 n2 (stE (rmF most) (layR (rmF most) E) N i p c way o).mine (stE (rmF most) (layR (rmF most) E) N i p c way o).full) (splice_whole _ _ (rfl)) ?_
  intro w12 St
  have kS := kg4
  replace kg1 := St.has (by omega) kg1
  replace kg2 := St.has (by omega) kg2
  replace kgP := St.has (by omega) kgP
  replace kgB := St.has (by omega) kgB
  replace kt := St.has (by omega) kt
  replace kr := St.has (by omega) kr
  replace kg3 := St.has (by omega) kg3
  replace HB := HB.st St dHBg4
  replace HI := HI.st St dHIg4
  replace HTt := HTt.st St dHTtg4
  replace HL := HL.st St dHLg4
  replace HV := HV.st St dHVg4
  replace HO1 := HO1.st St kS (by decide)
  replace HO2 := HO2.st St kS (by decide)
  replace GG := GG.store St bg4
  replace kg4 := St.new
  clear St
  refine s_val 14 rfl rfl (.int .i64 (stC (rmF most) (layR (rmF most) E) N i p c way o)) (rfl) ?_
  refine nr ?_; intro U h; simp only [z0, z1] at h; subst h
  refine wpList_nil ?_
  refine then_n ?_
  refine wp_seq ?_
  refine wp_seq ?_
  refine wp_region_lit ?_
  refine s_val 61 rfl rfl (.slice ao9 way.length cap9) (rfl) ?_
  refine nr ?_; intro U h; simp only [z0, z1] at h; subst h
  refine s_val 62 rfl rfl (.int .i64 ((way.length : Nat) : Int)) (run_len Try.underlying32 _ rfl _ _ _ rfl _) ?_
  refine nr ?_; intro U h; simp only [z0, z1] at h; subst h
  refine s_val 63 rfl rfl (.int .i64 0) (rfl) ?_
  refine nr ?_; intro U h; simp only [z0, z1] at h; subst h
  refine wpList_nil ?_
  refine then_n ?_
  refine wp_block ?_
  refine wp_loopN (fun mz az wv => ∃ (j : Nat) (lx : List Int) (us1 : Nat → Value), mz = way.length + 1 - j ∧ az = ⟨[.agg (csA ae E.length ce most N i ap o.length cq), .agg (wyA p c ao way.length cap), .pointer (some ⟨g1, 0, none⟩), .pointer (some ⟨g2, 0, none⟩), .bool false, .pointer (some ⟨gP, 0, none⟩), .pointer (some ⟨gB, 0, none⟩), .slice ao way.length cap, .pointer (some ⟨t, 0, none⟩), .pointer (some ⟨r, 0, none⟩), .slice ao9 way.length cap9, .pointer (some ⟨g3, 0, none⟩), .int .i64 (stC (rmF most) (layR (rmF most) E) N i p c way o), .pointer (some ⟨g4, 0, none⟩), .int .i64 (stC (rmF most) (layR (rmF most) E) N i p c way o), us1 0, .pointer (some ⟨g2, 0, none⟩), .agg (paA p), .pointer (some ⟨g2, 17, none⟩), .agg (idA c), .pointer (some ⟨g2, 33, none⟩), .slice ao way.length cap, .tuple #[.pointer (some ⟨t, 0, none⟩), .pointer (some ⟨r, 0, none⟩)], .pointer (some ⟨g1, 0, none⟩), .slice ae E.length ce, .pointer (some ⟨g1, 1, none⟩), .int .i64 most, .tuple #[.pointer (some ⟨t, 0, none⟩), .pointer (some ⟨r, 0, none⟩)], .pointer (some ⟨t, 0, none⟩), .pointer (some ⟨r, 0, none⟩), .slice (some ⟨q9, 0, none⟩) 0 0, .slice ao way.length cap, .slice ao9 way.length cap9, .tuple #[.agg (edA ao1 n1 (stE (rmF most) (layR (rmF most) E) N i p c way o).mine (stE (rmF most) (layR (rmF most) E) N i p c way o).full), .int .i64 (stC (rmF most) (layR (rmF most) E) N i p c way o)], .pointer (some ⟨t, 0, none⟩), .pointer (some ⟨g1, 2, none⟩), .agg (seA N i), .agg (paA p), .agg (idA c), .slice ao9 way.length cap9, .pointer (some ⟨g1, 19, none⟩), .slice ap o.length cq, .tuple #[.agg (edA ao1 n1 (stE (rmF most) (layR (rmF most) E) N i p c way o).mine (stE (rmF most) (layR (rmF most) E) N i p c way o).full), .int .i64 (stC (rmF most) (layR (rmF most) E) N i p c way o)], .agg (edA ao1 n1 (stE (rmF most) (layR (rmF most) E) N i p c way o).mine (stE (rmF most) (layR (rmF most) E) N i p c way o).full), .int .i64 (stC (rmF most) (layR (rmF most) E) N i p c way o), .tuple #[.agg (edA ao2 n2 (stE (rmF most) (layR (rmF most) E) N i p c way o).mine (stE (rmF most) (layR (rmF most) E) N i p c way o).full), .int .i64 (stC (rmF most) (layR (rmF most) E) N i p c way o)], .pointer (some ⟨r, 0, none⟩), .pointer (some ⟨g1, 2, none⟩), .pointer (some ⟨g1, 2, none⟩), .int .i64 N, .pointer (some ⟨g1, 2, none⟩), .pointer (some ⟨g1, 3, none⟩), .agg (idA i), .agg (paA p), .agg (idA c), .slice ao way.length cap, .pointer (some ⟨g1, 19, none⟩), .slice ap o.length cq, .tuple #[.agg (edA ao2 n2 (stE (rmF most) (layR (rmF most) E) N i p c way o).mine (stE (rmF most) (layR (rmF most) E) N i p c way o).full), .int .i64 (stC (rmF most) (layR (rmF most) E) N i p c way o)], .agg (edA ao2 n2 (stE (rmF most) (layR (rmF most) E) N i p c way o).mine (stE (rmF most) (layR (rmF most) E) N i p c way o).full), .int .i64 (stC (rmF most) (layR (rmF most) E) N i p c way o), .slice ao9 way.length cap9, .int .i64 ((way.length : Nat) : Int), .int .i64 ((j : Nat) : Int), us1 1, us1 2, us1 3, us1 4, us1 5, us1 6, us1 7, us1 8, us1 9, undef, undef, undef, undef, undef, undef, undef, undef, undef, undef, undef, undef, undef, undef, undef, undef, undef, undef, undef, undef, undef, undef, undef, undef].toArray, []⟩ ∧ j ≤ way.length ∧ lx.length = way.length ∧ Gro w wv ∧ wv.heap[t]? = some (.cells (tbA (rmF most) b) 99 (0, 0)) ∧ TM wv b (stL (rmF most) (layR (rmF most) E) N i p c way o) ∧ wv.heap[r]? = some (.cells (rbA ra2 (stL (rmF most) (layR (rmF most) E) N i p c way o).length rc2 (rmF most)) 53 (0, 0)) ∧ OE wv 0 ra2 rc2 (stL (rmF most) (layR (rmF most) E) N i p c way o) ∧ wv.heap[g3]? = some (.cells (edA ao1 n1 (stE (rmF most) (layR (rmF most) E) N i p c way o).mine (stE (rmF most) (layR (rmF most) E) N i p c way o).full) 41 (0, 0)) ∧ wv.heap[g4]? = some (.cells (edA ao2 n2 (stE (rmF most) (layR (rmF most) E) N i p c way o).mine (stE (rmF most) (layR (rmF most) E) N i p c way o).full) 45 (0, 0)) ∧ OI wv q9 ao9 cap9 lx ∧ OutP wv B1 (stE (rmF most) (layR (rmF most) E) N i p c way o).out ao1 n1 ∧ OutP wv B2 (stE (rmF most) (layR (rmF most) E) N i p c way o).out ao2 n2) ?_ _ ⟨0, way, (fun kz => ([undef, undef, undef, undef, undef, undef, undef, undef, undef, undef] : List Value).getD kz undef), rfl, rfl, Nat.zero_le _, rfl, GG, kt, HTt, kr, HL, kg3, kg4, HV, HO1, HO2⟩
  clear GG kt kr kg3 kg4 HTt HL HV HO1 HO2
  rintro mz az wv ⟨j, lx, us1, rfl, rfl, hj, hlx, GG, kt, HTt, kr, HL, kg3, kg4, HV, HO1, HO2⟩
  refine wp_seq ?_
  refine wp_region_lit ?_
  cases hj1 : decide (((j : Nat) : Int) < ((way.length : Nat) : Int))
  · refine s_val 64 rfl rfl (.bool false) (run_lssT 3 _ _ _ rfl ((j : Nat) : Int) ((way.length : Nat) : Int) rfl rfl false hj1 _) ?_
    refine nr ?_; intro U h; simp only [z0, z1] at h; subst h
    refine wpList_nil ?_
    refine then_n ?_
    refine wp_seq ?_
    refine wp_cond_false rfl ?_
    refine wp_exit ?_
    refine then_x ?_
    refine then_x ?_
    refine blk_x ?_
    refine then_n ?_
    refine wp_seq ?_
    refine wp_region_exA (A := ?Ax2) 23 [(0, 73), (1, 74), (2, 75), (3, 76), (4, 77), (5, 78), (6, 79), (7, 80), (8, 81), (9, 82), (10, 83), (11, 84), (12, 85), (13, 86), (14, 87), (15, 88), (16, 89), (17, 90), (18, 91), (19, 92), (20, 93), (21, 94), (22, 95)] [.val (.bool true), .val (.bool true), .val (.pointer (some ⟨t, 0, none⟩)), .val (.bool true), .val (.bool true), .val (.bool true), .val (.agg (edA ao1 n1 (stE (rmF most) (layR (rmF most) E) N i p c way o).mine (stE (rmF most) (layR (rmF most) E) N i p c way o).full)), .val (.agg (edA ao2 n2 (stE (rmF most) (layR (rmF most) E) N i p c way o).mine (stE (rmF most) (layR (rmF most) E) N i p c way o).full)), .val (.bool true), .val (.bool true), .val (.bool true), .val (.int .i64 (stC (rmF most) (layR (rmF most) E) N i p c way o)), .val (.int .i64 (stC (rmF most) (layR (rmF most) E) N i p c way o)), .val (.bool true), .val (.bool true), .val (.bool true), .val (.pointer (some ⟨t, 0, none⟩)), rowE (stL (rmF most) (layR (rmF most) E) N i p c way o), .val (.pointer (some ⟨r, 0, none⟩)), .val (.pointer (some ⟨r, 0, none⟩)), .val (.pointer (some ⟨r, 0, none⟩)), .val (.slice ra2 (stL (rmF most) (layR (rmF most) E) N i p c way o).length rc2), .val (.bool true)] follows (by kernel_rfl) rfl ?hAx2 (opsA_cons ?o0x2 (opsA_cons ?o1x2 (opsA_cons ?o2x2 (opsA_cons ?o3x2 (opsA_cons ?o4x2 (opsA_cons ?o5x2 (opsA_cons ?o6x2 (opsA_cons ?o7x2 (opsA_cons ?o8x2 (opsA_cons ?o9x2 (opsA_cons ?o10x2 (opsA_cons ?o11x2 (opsA_cons ?o12x2 (opsA_cons ?o13x2 (opsA_cons ?o14x2 (opsA_cons ?o15x2 (opsA_cons ?o16x2 (opsA_cons ?o17x2 (opsA_cons ?o18x2 (opsA_cons ?o19x2 (opsA_cons ?o20x2 (opsA_cons ?o21x2 (opsA_cons ?o22x2 opsA_nil))))))))))))))))))))))) ?restx2
    case hAx2 =>
      intro ptrs
      simp only [full, foldSlots, filledE, postE, List.foldl_cons, List.foldl_nil, List.getD_cons_zero, List.getD_cons_succ, fill_val, fill_rowE, List.set_cons_zero, List.set_cons_succ]
      exact rfl
    case o0x2 =>
      intro ptrs w' hw hE
      exact opE_call (.val (.bool true)) rfl _ 11 Try.call11 rfl rfl _ rfl [] rfl ((fixed_any _).mono fun e w' ⟨he, hg⟩ => ⟨_, he, hg, rfl⟩)
    case o1x2 => exact fun _ _ _ _ => opE_move (v := .bool true) _ rfl rfl rfl
    case o2x2 => exact fun _ _ _ _ => opE_move (v := .pointer (some ⟨t, 0, none⟩)) _ rfl rfl rfl
    case o3x2 => exact fun _ _ _ _ => opE_value (v := .bool true) rfl (run_nenp 35 _ _ _ rfl _ rfl rfl Try.underlying35 _)
    case o4x2 => exact fun _ _ _ _ => opE_pick (v := .bool true) _ _ _ rfl rfl true rfl rfl
    case o5x2 => exact fun _ _ _ _ => opE_move (v := .bool true) _ rfl rfl rfl
    case o6x2 => exact fun _ _ hw _ => opE_value (v := .agg (edA ao1 n1 (stE (rmF most) (layR (rmF most) E) N i p c way o).mine (stE (rmF most) (layR (rmF most) E) N i p c way o).full)) rfl (ldD_0 _ rfl g3 rfl (hw.has kg3))
    case o7x2 => exact fun _ _ hw _ => opE_value (v := .agg (edA ao2 n2 (stE (rmF most) (layR (rmF most) E) N i p c way o).mine (stE (rmF most) (layR (rmF most) E) N i p c way o).full)) rfl (ldQ_0 _ rfl g4 rfl (hw.has kg4))
    case o8x2 =>
      intro ptrs w' hw hE
      exact opE_call (.val (.bool true)) rfl _ 12 Try.call12 rfl rfl _ rfl [.agg (edA ao1 n1 (stE (rmF most) (layR (rmF most) E) N i p c way o).mine (stE (rmF most) (layR (rmF most) E) N i p c way o).full), .agg (edA ao2 n2 (stE (rmF most) (layR (rmF most) E) N i p c way o).mine (stE (rmF most) (layR (rmF most) E) N i p c way o).full)] rfl ((same_any _ (stE (rmF most) (layR (rmF most) E) N i p c way o).mine (stE (rmF most) (layR (rmF most) E) N i p c way o).full (stE (rmF most) (layR (rmF most) E) N i p c way o).out (stE_len hwl) B1 B2 ao1 ao2 n1 n2 (HO1.gro ((Gro.refl _).drew.trans hw)) (HO2.gro ((Gro.refl _).drew.trans hw))).mono fun e w' ⟨he, hg⟩ => ⟨_, he, hg, rfl⟩)
    case o9x2 => exact fun _ _ _ _ => opE_pick (v := .bool true) _ _ _ rfl rfl true rfl rfl
    case o10x2 => exact fun _ _ _ _ => opE_move (v := .bool true) _ rfl rfl rfl
    case o11x2 => exact fun _ _ _ _ => opE_move (v := .int .i64 (stC (rmF most) (layR (rmF most) E) N i p c way o)) _ rfl rfl rfl
    case o12x2 => exact fun _ _ _ _ => opE_move (v := .int .i64 (stC (rmF most) (layR (rmF most) E) N i p c way o)) _ rfl rfl rfl
    case o13x2 => exact fun _ _ _ _ => opE_value (v := .bool true) rfl (run_eq_k 42 .i64 _ _ _ rfl Try.underlying42 (stC (rmF most) (layR (rmF most) E) N i p c way o) (stC (rmF most) (layR (rmF most) E) N i p c way o) rfl rfl true (decide_eq_true rfl) _)
    case o14x2 => exact fun _ _ _ _ => opE_pick (v := .bool true) _ _ _ rfl rfl true rfl rfl
    case o15x2 => exact fun _ _ _ _ => opE_move (v := .bool true) _ rfl rfl rfl
    case o16x2 => exact fun _ _ _ _ => opE_move (v := .pointer (some ⟨t, 0, none⟩)) _ rfl rfl rfl
    case o17x2 =>
      intro ptrs w' hw hE
      exact opE_call (rowE (stL (rmF most) (layR (rmF most) E) N i p c way o)) rfl _ 14 Try.call14 rfl rfl _ rfl [.pointer (some ⟨t, 0, none⟩)] rfl ((all_any _ t b (rmF most) (stL (rmF most) (layR (rmF most) E) N i p c way o) (hw.has kt) (HTt.gro ((Gro.refl _).drew.trans hw)) (stL_ris hLall hLris (xS_ok hi hp hc HI0)) (Nat.le_trans (stL_le (rmF_le most) hLle) (by decide))).mono fun e w' ⟨ao, cap, he, hg, hr⟩ => ⟨_, he, hg, ao, cap, rfl, hr.mono (Nat.zero_le _)⟩)
    case o18x2 => exact fun _ _ _ _ => opE_move (v := .pointer (some ⟨r, 0, none⟩)) _ rfl rfl rfl
    case o19x2 => exact fun _ _ _ _ => opE_value (v := .pointer (some ⟨r, 0, none⟩)) rfl (run_nc _ rfl _ rfl)
    case o20x2 => exact fun _ _ _ _ => opE_value (v := .pointer (some ⟨r, 0, none⟩)) rfl (run_fld 53 _ 0 rfl r 0 rfl 0 (by kernel_rfl))
    case o21x2 => exact fun _ _ hw _ => opE_value (v := .slice ra2 (stL (rmF most) (layR (rmF most) E) N i p c way o).length rc2) rfl (ldRl _ rfl r rfl (hw.has kr))
    case o22x2 =>
      intro ptrs w' hw hE
      obtain ⟨⟨ao17, cap17, h17, o17⟩, _, _⟩ := hE
      exact opE_call (.val (.bool true)) rfl _ 13 Try.call13 rfl rfl _ rfl [.slice ao17 (stL (rmF most) (layR (rmF most) E) N i p c way o).length cap17, .slice ra2 (stL (rmF most) (layR (rmF most) E) N i p c way o).length rc2] (by show [ptrs 17, .slice ra2 (stL (rmF most) (layR (rmF most) E) N i p c way o).length rc2] = _; rw [h17]) ((Calls.bool (sameE_any _ ao17 cap17 (stL (rmF most) (layR (rmF most) E) N i p c way o) (o17.re) (le_maxL (stL_le (rmF_le most) hLle)) ra2 rc2 (stL (rmF most) (layR (rmF most) E) N i p c way o) ((HL.gro ((Gro.refl _).drew.trans hw)).re)) (decide_eq_true rfl)).mono fun e w' ⟨he, hg⟩ => ⟨_, he, hg, rfl⟩)
    intro ptrs w13 GD hxE
    simp only [List.drop_succ_cons, List.drop_zero]
    replace kt := GD.has kt
    replace kr := GD.has kr
    replace kg3 := GD.has kg3
    replace kg4 := GD.has kg4
    replace HTt := HTt.gro ((Gro.refl _).drew.trans GD)
    replace HL := HL.gro ((Gro.refl _).drew.trans GD)
    replace HV := HV.gro ((Gro.refl _).drew.trans GD)
    replace HO1 := HO1.gro ((Gro.refl _).drew.trans GD)
    replace HO2 := HO2.gro ((Gro.refl _).drew.trans GD)
    replace GG := GG.drew.trans GD
    obtain ⟨_, _⟩ := hxE
    clear GD
    refine s_val 96 rfl rfl (.bool true) (rfl) ?_
    refine nr ?_; intro U h; simp only [z0, z1] at h; subst h
    refine s_val 4 rfl rfl (.bool true) (rfl) ?_
    refine nr ?_; intro U h; simp only [z0, z1] at h; subst h
    refine wpList_nil ?_
    refine then_n ?_
    refine wp_ret ?_
    refine bodyPost_ret (results_tmp Try.results3 _ _ _) rfl ?_
    exact ⟨rfl, GG⟩
  · have hjl : j < way.length := by have := of_decide_eq_true hj1; omega
    refine s_val 64 rfl rfl (.bool true) (run_lssT 3 _ _ _ rfl ((j : Nat) : Int) ((way.length : Nat) : Int) rfl rfl true hj1 _) ?_
    refine nr ?_; intro U h; simp only [z0, z1] at h; subst h
    refine wpList_nil ?_
    refine then_n ?_
    refine wp_seq ?_
    refine wp_cond_true rfl ?_
    refine wp_skip ?_
    refine then_n ?_
    refine wp_seq ?_
    refine wp_block ?_
    refine wp_seq ?_
    refine wp_region_lit ?_
    refine s_val 65 rfl rfl (.int .i64 ((j : Nat) : Int)) (rfl) ?_
    refine nr ?_; intro U h; simp only [z0, z1] at h; subst h
    refine s_val 15 rfl rfl (.int .i64 ((j : Nat) : Int)) (rfl) ?_
    refine nr ?_; intro U h; simp only [z0, z1] at h; subst h
    refine wpList_nil ?_
    refine then_n ?_
    refine wp_region_lit ?_
    refine s_val 66 rfl rfl (.slice ao9 way.length cap9) (rfl) ?_
    refine nr ?_; intro U h; simp only [z0, z1] at h; subst h
    refine s_val 67 rfl rfl (.int .i64 ((j : Nat) : Int)) (rfl) ?_
    refine nr ?_; intro U h; simp only [z0, z1] at h; subst h
    obtain ⟨gv, cur, hao, hBv, hcur, hcn, hcm, hcs, _⟩ := HV.blk (by omega)
    refine s_val 68 rfl rfl (.pointer (some ⟨gv, j, none⟩)) (run_ixG _ _ rfl hao way.length cap9 j rfl rfl hjl) ?_
    refine nr ?_; intro U h; simp only [z0, z1] at h; subst h
    refine s_val 69 rfl rfl (.int .i64 (lx.getD j 0)) (run_ldG _ rfl gv j _ rfl (HV.cellv hao (by omega))) ?_
    refine nr ?_; intro U h; simp only [z0, z1] at h; subst h
    refine s_val 70 rfl rfl (.int .i64 (inc64 (lx.getD j 0))) (run_inc _ _ _ rfl _ rfl rfl) ?_
    refine nr ?_; intro U h; simp only [z0, z1] at h; subst h
    refine s_val 71 rfl rfl (.pointer (some ⟨gv, j, none⟩)) (run_ixG _ _ rfl hao way.length cap9 j rfl rfl hjl) ?_
    refine nr ?_; intro U h; simp only [z0, z1] at h; subst h
    refine s_store rfl rfl 3 _ _ rfl gv j rfl (.int .i64 (inc64 (lx.getD j 0))) rfl 3 _ hcur #[.int .i64 (inc64 (lx.getD j 0))] rfl si3 (by show j + 1 ≤ cur.size; omega) (i_one _) (splice cur j #[.int .i64 (inc64 (lx.getD j 0))]) rfl ?_
    intro w13 St
    replace kt := St.has (fun e => ne_cells kt hcur (by decide) (by simp [e])) kt
    replace kr := St.has (fun e => ne_cells kr hcur (by decide) (by simp [e])) kr
    replace kg3 := St.has (fun e => ne_cells kg3 hcur (by decide) (by simp [e])) kg3
    replace kg4 := St.has (fun e => ne_cells kg4 hcur (by decide) (by simp [e])) kg4
    replace HTt := HTt.st St (HTt.nec hcur).symm
    replace HL := HL.st St (HL.own.ne hcur (by decide))
    replace HO1 := HO1.gros St.gros (fun k hk => by rw [List.mem_singleton] at hk; subst hk; exact h91 _ hao)
    replace HO2 := HO2.gros St.gros (fun k hk => by rw [List.mem_singleton] at hk; subst hk; exact h92 _ hao)
    replace GG := GG.store St (Nat.le_trans bHV hBv)
    replace HV := HV.put hao hcur (by omega) _ (inc64_ok _) St
    clear St
    refine wpList_nil ?_
    refine blk_n ?_
    refine then_n ?_
    refine wp_region_lit ?_
    refine s_val 72 rfl rfl (.int .i64 ((j + 1 : Nat) : Int)) (run_addI 3 _ _ _ rfl ((j : Nat) : Int) 1 ((j + 1 : Nat) : Int) rfl rfl (by omega) (by omega) (by omega) _) ?_
    refine nr ?_; intro U h; simp only [z0, z1] at h; subst h
    refine s_val 63 rfl rfl (.int .i64 ((j + 1 : Nat) : Int)) (rfl) ?_
    refine nr ?_; intro U h; simp only [z0, z1] at h; subst h
    refine wpList_nil ?_
    refine then_n ?_
    exact ⟨way.length + 1 - (j + 1), by omega, j + 1, lx.set j (inc64 (lx.getD j 0)), (fun kz => ([.int .i64 ((j : Nat) : Int), .bool true, .int .i64 ((j : Nat) : Int), .slice ao9 way.length cap9, .int .i64 ((j : Nat) : Int), .pointer (some ⟨gv, j, none⟩), .int .i64 (lx.getD j 0), .int .i64 (inc64 (lx.getD j 0)), .pointer (some ⟨gv, j, none⟩), .int .i64 ((j + 1 : Nat) : Int)] : List Value).getD kz undef), rfl, rfl, by omega, by rw [List.length_set]; exact hlx, GG, kt, HTt, kr, HL, kg3, kg4, HV, HO1, HO2⟩
end Go.Proofs.Ytkjnefgenffhcaa
