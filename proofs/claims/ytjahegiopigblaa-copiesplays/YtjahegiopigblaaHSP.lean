/- Identities sorted in a row of one's own; a row of identities copied. -/
import Derived.Test.YtjahegiopigblaaHI6
import Derived.Test.YtjahegiopigblaaHC1
import Derived.Test.YtjahegiopigblaaHV1c
namespace Go.Proofs.Ytjahegiopigblaa
open Go.RowKit Go.Shelf Go.Lib Go.Sort
section
variable {w : World} {g : Nat}
theorem heap_sortO {α : Type} [Inhabited α] (enc : α → List Value) (k0 off n : Nat) (d : Array α) (os : Array Obj) (k : Nat) (hk : k < w.heap.size) (hne : k ≠ g) : (sortWorldK enc k0 w g off n d os).heap[k]? = w.heap[k]? := by
  unfold sortWorldK putRowK putRow mapBlock
  rw [heap_grow_old _ _ (by simpa [Sort.ahead] using hk)]
  simp only [Sort.ahead, Array.getElem?_modify]
  rw [if_neg (Ne.symm hne)]
theorem heap_rowO {α : Type} [Inhabited α] (enc : α → List Value) (k0 off n : Nat) (d : Array α) (os : Array Obj) {cur : Array Value} {t : TypeId} (hg : w.heap[g]? = some (.cells cur t (0, 0))) : (sortWorldK enc k0 w g off n d os).heap[g]? = some (.cells (putCells id off (flatK enc k0 d) cur) t (0, 0)) := by
  unfold sortWorldK putRowK putRow mapBlock
  rw [heap_grow_old _ _ (by simpa [Sort.ahead] using lt_of_heap hg)]
  simp only [Sort.ahead, Array.getElem?_modify, if_true, hg]
  rfl
end
theorem put_takeO (off : Nat) (l : List Value) (cur : Array Value) (h : off + l.length ≤ cur.size) : ((putCells id off l.toArray cur).toList.drop off).take l.length = l := by
  apply List.ext_getElem?
  intro k
  rw [List.getElem?_take]
  by_cases hk : k < l.length
  · rw [if_pos hk, List.getElem?_drop, Array.getElem?_toList]
    simp only [putCells, Array.getElem?_mapIdx]
    rw [Array.getElem?_eq_getElem (by omega), Option.map_some, if_pos ⟨by omega, by simpa using hk⟩, List.getElem?_eq_getElem hk]
    congr 1
    rw [id_eq, show off + k - off = k by omega, getElem!_pos l.toArray k (by simpa using hk)]
    simp
  · rw [if_neg hk, List.getElem?_eq_none (by omega)]
theorem put_sizeO (off : Nat) (l : Array Value) (cur : Array Value) : (putCells id off l cur).size = cur.size := by simp [putCells]
theorem cf0 (x y : Fin top) : cfI 0 x y = cmpN x.1 y.1 := by
  unfold cfI
  rw [kc_0 x.2, kc_0 y.2]
theorem lt0 (x y : Fin top) : ltOf (cfI 0) x y = decide (x.1 < y.1) := by
  rw [ltI, kc_0 x.2, kc_0 y.2]
theorem fl_kI (l : List Nat) : l.flatMap kI.E = fl l := rfl
set_option maxHeartbeats 4000000 in
theorem sortO_any (w : World) (B : Nat) (ao : Option Addr) (cap : Nat) (l : List Nat) (H : OW kI 23 w B ao cap l) (hlen : l.length ≤ 1000000) :
    Calls Try.prog 37 #[.slice ao l.length cap, .func (.func 38) #[] #[]] w fun e w' => e = .returned (.tuple #[]) ∧ ∃ S : List Nat, S.Perm l ∧ S.Pairwise (· ≤ ·) ∧ GroS (Go.Proofs.Ytjahegiopigblaa.blk ao) w w' ∧ OW kI 23 w' B ao cap S := by
  cases hl0 : l with
  | nil =>
    subst hl0
    have h1 := Go.Proofs.AnyF.slices_SortFunc_none lay34 ao cap (.func (.func 38) #[] #[]) w
    change Calls Try.prog 37 _ _ _ at h1
    refine h1.mono ?_
    rintro e w' ⟨he, rfl⟩
    exact ⟨he, [], List.Perm.refl _, List.Pairwise.nil, .refl _ _, H⟩
  | cons x0 r0 =>
  rw [← hl0]
  have hpos : 0 < l.length := by rw [hl0]; simp
  have inh : Inhabited (Fin top) := ⟨⟨0, top_0i⟩⟩
  obtain ⟨DD, hD⟩ := lift_all l H.all
  have hsz : DD.toArray.size = l.length := by
    rw [← hD]
    simp
  rcases H.own.row with ⟨_, _, h3⟩ | ⟨g, d, cur, rfl, hB, hg, hn, hc, hd, ht⟩
  · omega
  have hk16 : kI.sz = 16 := rfl
  rw [hk16] at hd ht
  have hm16 : l.length * 16 ≤ cap * 16 := Nat.mul_le_mul_right _ hn
  have eg : ∀ args w, (callFunc 38 args).run Try.prog w = .ok (.enter 38 args) w := Try.call38
  have hH : HoldsK encI 16 w g d DD.toArray := by
    intro j hj
    rw [flat_fl, hD] at hj ⊢
    have hj' : j < (fl l).length := by simpa using hj
    refine ⟨?_, ?_⟩
    · have := H.own.xc.cell _ rfl j (fl l)[j] (List.getElem?_eq_getElem hj')
      rw [add_at] at this
      rw [this, getElem!_pos (fl l).toArray j (by simpa using hj')]
      simp
    · simp [World.frozen?, hg]
  have hcm : CmpLays Try.prog 38 #[] encI 16 (cfI 0) g d DD.toArray.size w := fun M os dk _ x y => by
    have h1 := DI.cmp_any x.1 y.1 x.2 y.2 (sortWorldK encI 16 w g d M dk os)
    have e : (#[Value.agg (encI x).toArray, Value.agg (encI y).toArray] ++ #[] : Array Value) = #[idV x.1, idV y.1] := by
      simp [encI, idV]
    rw [e, cf0]
    exact h1.mono fun _ _ ⟨he, hG⟩ => ⟨he, hG.grown⟩
  have key := Go.Proofs.AnyQ.slices_SortFunc_total lay34 16 Try.isAgg23 Try.sizeOf23 encI (fun x => idA_leni x.1) (fun x v hv => Array.all_eq_true_iff_forall_mem.1 (idA_one x.1) v (by simpa [encI] using hv)) (cfI 0) (swoI 0) 38 #[] g d cap DD.toArray w eg hcm hH (lt_of_heap hg) (by omega) (fun x y h1 h2 => by
    rw [lt0] at h1 h2
    simp at h1 h2
    exact Fin.ext (by omega))
  rw [hsz] at key
  change Calls Try.prog 37 _ _ _ at key
  refine key.mono ?_
  rintro e w' ⟨rfl, n, os, rfl⟩
  have hp := List.mergeSort_perm DD (fun x y => !(ltOf (cfI 0)) y x)
  have hq := List.pairwise_mergeSort (le := fun x y : Fin top => !(ltOf (cfI 0)) y x) (fun a b c h1 h2 => by simp only [lt0] at *; simp at *; omega) (fun a b => by simp only [lt0]; simp; omega) DD
  generalize DD.mergeSort (fun x y => !(ltOf (cfI 0)) y x) = E at *
  have hpE : (E.map (fun x => x.1)).Perm l := by
    have := hp.map (fun x => x.1)
    rwa [hD] at this
  have hlE : (fl (E.map (fun x => x.1))).length = l.length * 16 := by rw [fl_len, hpE.length_eq]
  refine ⟨rfl, E.map (fun x => x.1), hpE, ?_, ⟨rfl, rfl, rfl, ?_, fun k hk hn => heap_sortO encI 16 d n E.toArray os k hk (fun e => hn (mem_blk.2 ⟨_, rfl, e.symm⟩))⟩, ⟨⟨?_, .inr ⟨g, d, _, rfl, hB, heap_rowO encI 16 d n E.toArray os hg, ?_, hc, ?_, ?_⟩, fl_oneK⟩, fun x hx => H.all x (hpE.mem_iff.1 hx)⟩⟩
  · rw [List.pairwise_map]
    refine List.Pairwise.imp (fun {a b} h => ?_) hq
    rw [lt0] at h
    simpa using h
  · unfold sortWorldK putRowK putRow mapBlock
    simp [Sort.ahead]
  · exact flx_len kI.len _
  · rw [hpE.length_eq]; exact hn
  · rw [put_sizeO]; exact hd
  · rw [flat_fl, fl_kI, show (List.map (fun x => x.1) E).length * kI.sz = (fl (E.map (fun x => x.1))).length by rw [fl_len]; rfl]
    exact put_takeO d _ cur (by rw [hlE]; omega)
set_option maxRecDepth 100000 in
set_option maxHeartbeats 4000000 in
theorem cloneI_any (ao : Option Addr) (cap : Nat) (l : List Nat) (w : World) (HC : RK kI w ao cap l) (hb : l.length ≤ 1000000) : Calls Try.prog 36 #[.slice ao l.length cap] w (fun e w' => ∃ ao cap, e = .returned (.slice ao l.length cap) ∧ Gro w w' ∧ OW kI 23 w' w.heap.size ao cap l) := by
  cases ao with
  | none =>
    have h1 := HC.xc.bare rfl
    have h2 := HC.xc.fit
    have h4 : l = [] := List.eq_nil_of_length_eq_zero (by omega)
    subst h1 h4
    refine s_enter Try.func36 rfl Try.ntmps36 [.slice none 0 0] [.slice none 0 0, undef, undef, undef, undef, undef, undef, undef] rfl ?_
    have GG := Gro.refl w
    refine wp_seq ?_
    refine wp_region_lit ?_
    refine s_val 2 rfl rfl (.slice none 0 0) (rfl) ?_
    refine nr ?_; intro U h; simp only [z0, z1] at h; subst h
    refine wpList_nil ?_
    refine then_n ?_
    refine wp_seq ?_
    refine wp_seq ?_
    refine wp_region_lit ?_
    refine s_val 3 rfl rfl (.slice none 0 0) (rfl) ?_
    refine nr ?_; intro U h; simp only [z0, z1] at h; subst h
    refine s_val 4 rfl rfl (.bool true) (run_binop .eql 24 _ _ _ rfl _ _ _ rfl rfl (by kernel_rfl) (by kernel_rfl)) ?_
    refine nr ?_; intro U h; simp only [z0, z1] at h; subst h
    refine wpList_nil ?_
    refine then_n ?_
    refine wp_cond_true rfl ?_
    refine wp_seq ?_
    refine wp_region_lit ?_
    refine s_val 2 rfl rfl (.slice none 0 0) (rfl) ?_
    refine nr ?_; intro U h; simp only [z0, z1] at h; subst h
    refine wpList_nil ?_
    refine then_n ?_
    refine wp_ret ?_
    refine then_r ?_
    refine bodyPost_ret (results_tmp Try.results36 _ _ _) rfl ?_
    exact ⟨none, 0, rfl, GG, OW.nil _ _⟩
  | some ad =>
    refine s_enter Try.func36 rfl Try.ntmps36 [.slice (some ad) l.length cap] [.slice (some ad) l.length cap, undef, undef, undef, undef, undef, undef, undef] rfl ?_
    have GG := Gro.refl w
    refine wp_seq ?_
    refine wp_region_lit ?_
    refine s_val 2 rfl rfl (.slice none 0 0) (rfl) ?_
    refine nr ?_; intro U h; simp only [z0, z1] at h; subst h
    refine wpList_nil ?_
    refine then_n ?_
    refine wp_seq ?_
    refine wp_seq ?_
    refine wp_region_lit ?_
    refine s_val 3 rfl rfl (.slice (some ad) l.length cap) (rfl) ?_
    refine nr ?_; intro U h; simp only [z0, z1] at h; subst h
    refine s_val 4 rfl rfl (.bool false) (run_binop .eql 24 _ _ _ rfl _ _ _ rfl rfl (by kernel_rfl) (by kernel_rfl)) ?_
    refine nr ?_; intro U h; simp only [z0, z1] at h; subst h
    refine wpList_nil ?_
    refine then_n ?_
    refine wp_cond_false rfl ?_
    refine wp_skip ?_
    refine then_n ?_
    refine wp_seq ?_
    refine wp_region_lit ?_
    refine s_bsl 5 rfl rfl 24 0 _ rfl [] rfl (([] : List Nat).flatMap kI.E).toArray 23 (bsI0 _) ?_
    intro w1 q1 G eq1 kq1
    have bq := size_base GG eq1
    replace GG := GG.trans G
    clear G
    have HO : OW kI 23 w1 q1 (some ⟨q1, 0, none⟩) 0 [] := OW.blk kq1 (fun _ h => by cases h) (Nat.le_refl _) (Nat.zero_le _)
    clear eq1
    refine nr ?_; intro U h; simp only [z0, z1] at h; subst h
    refine s_val 6 rfl rfl (.slice (some ad) l.length cap) (rfl) ?_
    refine nr ?_; intro U h; simp only [z0, z1] at h; subst h
    have hq1 := lt_of_heap kq1
    refine s_appK rIk (by decide) 7 rfl rfl _ _ rfl (l := []) rfl HO rfl (HC.gro GG) (by simp only [List.length_nil]; omega) (Nat.le_of_lt hq1) ?_
    intro ao2 cap2 w2 HO2 G KP
    replace GG := G.gro GG (fun k hk => Nat.le_trans bq (HO.own.base k hk))
    rw [List.nil_append] at HO2 ⊢
    refine nr ?_; intro U h; simp only [z0, z1] at h; subst h
    refine s_val 2 rfl rfl (.slice ao2 l.length cap2) (rfl) ?_
    refine nr ?_; intro U h; simp only [z0, z1] at h; subst h
    refine wpList_nil ?_
    refine then_n ?_
    refine wp_ret ?_
    refine bodyPost_ret (results_tmp Try.results36 _ _ _) rfl ?_
    exact ⟨ao2, cap2, rfl, GG, HO2.mono bq⟩
end Go.Proofs.Ytjahegiopigblaa
