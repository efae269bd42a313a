/- slices.SortFunc over a row of entries, by their keys. -/
import Derived.Test.YtmpnepbmpmkmkaaGreatHP7
namespace Go.Proofs.YtmpnepbmpmkmkaaGreat
open Go.RowKit Go.Shelf Go.Lib Go.Sort
def laySF_ren : Go.Shelf.Ren := ⟨fun | 6 => 55 | 15 => 73 | 14 => 72 | 28 => 88 | 29 => 89 | 20 => 80 | 21 => 81 | 22 => 82 | 23 => 83 | 24 => 84 | 25 => 85 | 26 => 86 | 27 => 87 | 46 => 102 | 47 => 103 | 48 => 104 | 49 => 105 | 50 => 106 | 57 => 110 | n => n, fun | 22 => 22 | 24 => 33 | 25 => 103 | 3 => 3 | 39 => 119 | 0 => 0 | 53 => 138 | 55 => 107 | 4 => 4 | 46 => 131 | 45 => 130 | 50 => 135 | 5 => 5 | 9 => 9 | 66 => 170 | 70 => 174 | 76 => 178 | 77 => 179 | n => n, fun | n => n⟩
theorem laySF : Go.Proofs.SlLaysF0.n6 Tryz.prog laySF_ren := { mixed := by kernel_rfl, f6 := ⟨Tryz.f55.name, by decide, Tryz.func55.trans (congrArg some (by kernel_rfl))⟩, f14 := ⟨Tryz.f72.name, by decide, Tryz.func72.trans (congrArg some (by kernel_rfl))⟩, f15 := Tryz.func73.trans (congrArg some (by kernel_rfl)), f20 := ⟨Tryz.f80.name, by decide, Tryz.func80.trans (congrArg some (by kernel_rfl))⟩, f21 := ⟨Tryz.f81.name, by decide, Tryz.func81.trans (congrArg some (by kernel_rfl))⟩, f22 := ⟨Tryz.f82.name, by decide, Tryz.func82.trans (congrArg some (by kernel_rfl))⟩, f23 := ⟨Tryz.f83.name, by decide, Tryz.func83.trans (congrArg some (by kernel_rfl))⟩, f24 := ⟨Tryz.f84.name, by decide, Tryz.func84.trans (congrArg some (by kernel_rfl))⟩, f25 := ⟨Tryz.f85.name, by decide, Tryz.func85.trans (congrArg some (by kernel_rfl))⟩, f26 := ⟨Tryz.f86.name, by decide, Tryz.func86.trans (congrArg some (by kernel_rfl))⟩, f27 := ⟨Tryz.f87.name, by decide, Tryz.func87.trans (congrArg some (by kernel_rfl))⟩, f28 := Tryz.func88.trans (congrArg some (by kernel_rfl)), f29 := Tryz.func89.trans (congrArg some (by kernel_rfl)), f46 := ⟨Tryz.f102.name, by decide, Tryz.func102.trans (congrArg some (by kernel_rfl))⟩, f47 := Tryz.func103.trans (congrArg some (by kernel_rfl)), f48 := Tryz.func104.trans (congrArg some (by kernel_rfl)), f49 := ⟨Tryz.f105.name, by decide, Tryz.func105.trans (congrArg some (by kernel_rfl))⟩, f50 := ⟨Tryz.f106.name, by decide, Tryz.func106.trans (congrArg some (by kernel_rfl))⟩, f57 := ⟨Tryz.f110.name, by decide, Tryz.func110.trans (congrArg some (by kernel_rfl))⟩, t0 := Tryz.underlying0, a0 := Tryz.isAgg0, z0 := Tryz.sizeOf0, v0 := Tryz.zeroValue0, t3 := Tryz.underlying3, a3 := Tryz.isAgg3, z3 := Tryz.sizeOf3, v3 := Tryz.zeroValue3, t4 := Tryz.underlying4, a4 := Tryz.isAgg4, z4 := Tryz.sizeOf4, v4 := Tryz.zeroValue4, t5 := Tryz.underlying5, a5 := Tryz.isAgg5, z5 := Tryz.sizeOf5, v5 := Tryz.zeroValue5, t9 := Tryz.underlying9, a9 := Tryz.isAgg9, z9 := Tryz.sizeOf9, v9 := Tryz.zeroValue9, t22 := Tryz.underlying22, a22 := Tryz.isAgg22, z22 := Tryz.sizeOf22, v22 := Tryz.zeroValue22, t25 := Tryz.underlying103, a25 := Tryz.isAgg103, z25 := Tryz.sizeOf103, v25 := Tryz.zeroValue103, t39 := Tryz.underlying119, a39 := Tryz.isAgg119, z39 := Tryz.sizeOf119, v39 := Tryz.zeroValue119, t45 := Tryz.underlying130, a45 := Tryz.isAgg130, z45 := Tryz.sizeOf130, v45 := Tryz.zeroValue130, t46 := Tryz.underlying131, a46 := Tryz.isAgg131, z46 := Tryz.sizeOf131, v46 := Tryz.zeroValue131, t50 := Tryz.underlying135, a50 := Tryz.isAgg135, z50 := Tryz.sizeOf135, v50 := Tryz.zeroValue135, t53 := Tryz.underlying138, a53 := Tryz.isAgg138, z53 := Tryz.sizeOf138, v53 := Tryz.zeroValue138, t55 := Tryz.underlying107, a55 := Tryz.isAgg107, z55 := Tryz.sizeOf107, v55 := Tryz.zeroValue107, t66 := Tryz.underlying170, a66 := Tryz.isAgg170, z66 := Tryz.sizeOf170, v66 := Tryz.zeroValue170, t70 := Tryz.underlying174, a70 := Tryz.isAgg174, z70 := Tryz.sizeOf174, v70 := Tryz.zeroValue174, t76 := Tryz.underlying178, a76 := Tryz.isAgg178, z76 := Tryz.sizeOf178, v76 := Tryz.zeroValue178, t77 := Tryz.underlying179, a77 := Tryz.isAgg179, z77 := Tryz.sizeOf179, v77 := Tryz.zeroValue179 }
theorem lt_p {p q : Pa} (hp : p.ok) (hq : q.ok) : decide (D.cmpP p q < 0) = decide (ky p < ky q) := by
  rw [decide_eq_decide]
  exact D.cmpP_lt hp hq
section
variable {l : List En}
def encE (x : {x : En // x ∈ l}) : List Value := enL x.1
theorem encE_eq (x : {x : En // x ∈ l}) : enL x.1 = encE x := rfl
def cfE (x y : {x : En // x ∈ l}) : Int := D.cmpP x.1.p y.1.p
theorem ltE (hl : AllE l) (x y : {x : En // x ∈ l}) : ltOf cfE x y = decide (ky x.1.p < ky y.1.p) := by
  unfold ltOf cfE
  exact lt_p (hl x.1 x.2).p (hl y.1 y.2).p
theorem swoE (hl : AllE l) : @SWO {x : En // x ∈ l} (ltOf cfE) where
  irrefl x := by rw [ltE hl]; simp
  trans x y z h1 h2 := by rw [ltE hl] at *; simp at *; omega
  ntrans x y z h1 h2 := by rw [ltE hl] at *; simp at *; omega
theorem flat_flE [Inhabited {x : En // x ∈ l}] (D : List {x : En // x ∈ l}) : flatK encE 51 D.toArray = (flE (D.map (fun x => x.1))).toArray := by
  refine ext_get! ?_ fun t ht => ?_
  · rw [size_flatK]
    simp [flE_len]
  · rw [size_flatK] at ht
    have ht' : t < D.length * 51 := by simpa using ht
    rw [get_flatK _ _ _ _ ht]
    have h1 : t / 51 < D.length := by omega
    have e1 : (D.toArray[t / 51]!) = D[t / 51] := by
      rw [getElem!_pos D.toArray (t / 51) (by simpa using h1)]
      simp
    rw [e1]
    have h2 := flx_cell enL_len zE (D.map (fun x => x.1)) (t / 51) (by rw [List.length_map]; exact h1) (t % 51) (Nat.mod_lt _ (by decide))
    have e0 : t / 51 * 51 + t % 51 = t := by omega
    rw [e0] at h2
    have e2 : (D.map (fun x => x.1)).getD (t / 51) zE = D[t / 51].1 := by
      rw [List.getD_eq_getElem?_getD, List.getElem?_map, List.getElem?_eq_getElem h1]
      rfl
    rw [e2] at h2
    clear e1 e2 e0
    generalize D[t / 51] = x at *
    have b1 : t < (flE (D.map (fun x => x.1))).length := by rw [flE_len, List.length_map]; exact ht'
    have b2 : t % 51 < (encE x).length := by rw [← encE_eq, enL_len]; exact Nat.mod_lt _ (by decide)
    rw [show (D.map (fun x => x.1)).flatMap enL = flE (D.map (fun x => x.1)) from rfl, List.getElem?_eq_getElem b1, encE_eq x, List.getElem?_eq_getElem b2] at h2
    generalize t % 51 = j at *
    generalize encE x = LL at *
    have b3 : t < (flE (D.map (fun x => x.1))).toArray.size := by rw [List.size_toArray]; exact b1
    rw [getElem!_pos (flE (D.map (fun x => x.1))).toArray t b3, getElem!_pos LL j b2, List.getElem_toArray]
    exact (Option.some.inj h2).symm
end
section
variable {w : World} {g : Nat}
theorem heap_sort {α : Type} [Inhabited α] (enc : α → List Value) (k0 off n : Nat) (d : Array α) (os : Array Obj) (k : Nat) (hk : k < w.heap.size) (hne : k ≠ g) : (sortWorldK enc k0 w g off n d os).heap[k]? = w.heap[k]? := by
  unfold sortWorldK putRowK putRow mapBlock
  rw [heap_grow_old _ _ (by simpa [Sort.ahead] using hk)]
  simp only [Sort.ahead, Array.getElem?_modify]
  rw [if_neg (Ne.symm hne)]
theorem heap_row {α : Type} [Inhabited α] (enc : α → List Value) (k0 off n : Nat) (d : Array α) (os : Array Obj) {cur : Array Value} {t : TypeId} (hg : w.heap[g]? = some (.cells cur t (0, 0))) : (sortWorldK enc k0 w g off n d os).heap[g]? = some (.cells (putCells id off (flatK enc k0 d) cur) t (0, 0)) := by
  unfold sortWorldK putRowK putRow mapBlock
  rw [heap_grow_old _ _ (by simpa [Sort.ahead] using lt_of_heap hg)]
  simp only [Sort.ahead, Array.getElem?_modify, if_true, hg]
  rfl
theorem put_take (off : Nat) (l : List Value) (cur : Array Value) (h : off + l.length ≤ cur.size) : ((putCells id off l.toArray cur).toList.drop off).take l.length = l := by
  apply List.ext_getElem?
  intro k
  rw [List.getElem?_take]
  by_cases hk : k < l.length
  · rw [if_pos hk, List.getElem?_drop, Array.getElem?_toList]
    simp only [putCells, Array.getElem?_mapIdx]
    rw [Array.getElem?_eq_getElem (by omega), Option.map_some, if_pos ⟨by omega, by simpa using hk⟩, List.getElem?_eq_getElem hk]
    congr 1
    rw [id_eq, show off + k - off = k by omega, getElem!_pos l.toArray k (by simpa using hk)]
    simp
  · rw [if_neg hk, List.getElem?_eq_none (by omega)]
theorem put_size (off : Nat) (l : Array Value) (cur : Array Value) : (putCells id off l cur).size = cur.size := by simp [putCells]
end
theorem sort_any (w : World) (B : Nat) (ao : Option Addr) (cap : Nat) (l : List En) (H : OE w B ao cap l) (kn : KN l) (hlen : l.length ≤ 1000000) :
    Calls Tryz.prog 55 #[.slice ao l.length cap, .func (.func 56) #[] #[]] w fun e w' => e = .returned (.tuple #[]) ∧ ∃ S : List En, S.Perm l ∧ Ris S ∧ GroS (blk ao) w w' ∧ OE w' B ao cap S := by
  cases hl0 : l with
  | nil =>
    subst hl0
    have h1 := Go.Proofs.AnyF.slices_SortFunc_none laySF ao cap (.func (.func 56) #[] #[]) w
    change Calls Tryz.prog 55 _ _ _ at h1
    refine h1.mono ?_
    rintro e w' ⟨he, rfl⟩
    exact ⟨he, [], List.Perm.refl _, by simp [Ris], .refl _ _, H⟩
  | cons x0 r0 =>
  rw [← hl0]
  have hx0 : x0 ∈ l := by rw [hl0]; exact List.mem_cons_self
  have inh : Inhabited {x : En // x ∈ l} := ⟨⟨x0, hx0⟩⟩
  have hpos : 0 < l.length := by rw [hl0]; simp
  rcases H.own.row with ⟨_, _, h3⟩ | ⟨g, d, cur, rfl, hB, hg, hn, hc, hd, ht⟩
  · omega
  have hlc := flE_len l
  have hm51 : l.length * 51 ≤ cap * 51 := Nat.mul_le_mul_right _ hn
  have hatt : l.attach.map (fun x => x.1) = l := by simp
  have hsz : l.attach.toArray.size = l.length := by simp
  have eg : ∀ args w, (callFunc 56 args).run Tryz.prog w = .ok (.enter 56 args) w := Tryz.call56
  have hH : HoldsK encE 51 w g d l.attach.toArray := by
    intro j hj
    rw [flat_flE, hatt] at hj ⊢
    have hj' : j < (flE l).length := by simpa using hj
    refine ⟨?_, ?_⟩
    · have := H.own.xc.cell _ rfl j (flE l)[j] (List.getElem?_eq_getElem hj')
      rw [add_at] at this
      rw [this, getElem!_pos (flE l).toArray j (by simpa using hj')]
      simp
    · simp [World.frozen?, hg]
  have hcm : CmpLays Tryz.prog 56 #[] encE 51 (cfE (l := l)) g d l.attach.toArray.size w := fun M os dk _ x y => by
    have h1 := D.clo_any x.1 y.1 (H.all x.1 x.2) (H.all y.1 y.2) (sortWorldK encE 51 w g d M dk os)
    have e : (#[Value.agg (encE x).toArray, Value.agg (encE y).toArray] ++ #[] : Array Value) = #[.agg (enA x.1), .agg (enA y.1)] := by
      simp [encE, enA]
    rw [e]
    exact h1.mono fun _ _ ⟨he, hG⟩ => ⟨he, hG.grown⟩
  have key := Go.Proofs.AnyQ.slices_SortFunc_total laySF 51 Tryz.isAgg33 Tryz.sizeOf33 encE (fun x => enL_len x.1) (fun x v hv => enL_one x.1 v hv) (cfE (l := l)) (swoE H.all) 56 #[] g d cap l.attach.toArray w eg hcm hH (lt_of_heap hg) (by omega) (fun x y h1 h2 => by
    rw [ltE H.all] at h1 h2
    simp at h1 h2
    exact Subtype.ext (kn.inj x.2 y.2 (ky_inj (H.all x.1 x.2).p (H.all y.1 y.2).p (by omega))))
  rw [hsz] at key
  change Calls Tryz.prog 55 _ _ _ at key
  refine key.mono ?_
  rintro e w' ⟨rfl, n, os, rfl⟩
  have hp := List.mergeSort_perm l.attach (fun x y => !(ltOf cfE) y x)
  have hq := List.pairwise_mergeSort (le := fun x y : {x : En // x ∈ l} => !(ltOf cfE) y x) (fun a b c h1 h2 => by simp only [ltE H.all] at *; simp at *; omega) (fun a b => by simp only [ltE H.all]; simp; omega) l.attach
  generalize l.attach.mergeSort (fun x y => !(ltOf cfE) y x) = E at *
  have hpE : (E.map (fun x => x.1)).Perm l := by
    have := hp.map (fun x => x.1)
    rwa [hatt] at this
  have hlE : (flE (E.map (fun x => x.1))).length = l.length * 51 := by rw [flE_len, hpE.length_eq]
  refine ⟨rfl, E.map (fun x => x.1), hpE, ?_, ⟨rfl, rfl, rfl, ?_, fun k hk hn => heap_sort encE 51 d n E.toArray os k hk (fun e => hn (mem_blk.2 ⟨_, rfl, e.symm⟩))⟩, ⟨⟨?_, .inr ⟨g, d, _, rfl, hB, heap_row encE 51 d n E.toArray os hg, ?_, hc, ?_, ?_⟩, flE_one⟩, fun x hx => H.all x (hpE.mem_iff.1 hx)⟩⟩
  · have hkn : KN (E.map (fun x => x.1)) := kn.perm hpE.symm
    have h2 : (E.map (fun x => x.1)).Pairwise fun x y => ky x.p ≤ ky y.p := by
      rw [List.pairwise_map]
      refine List.Pairwise.imp (fun {a b} h => ?_) hq
      rw [ltE H.all] at h
      simpa using h
    have h3 := hkn
    unfold KN at h3
    rw [List.nodup_iff_pairwise_ne, List.pairwise_map] at h3
    unfold Ris
    have hall : ∀ x ∈ E.map (fun x => x.1), x.ok := fun x hx => H.all x (hpE.mem_iff.1 hx)
    refine List.Pairwise.imp_of_mem (fun {a b} ha hb h => ?_) (h2.and h3)
    have := h.2
    have h1 := h.1
    have hne : ky a.p ≠ ky b.p := fun e => this (ky_inj (hall a ha).p (hall b hb).p e)
    omega
  · unfold sortWorldK putRowK putRow mapBlock
    simp [Sort.ahead]
  · exact flE_len _
  · rw [hpE.length_eq]; exact hn
  · rw [put_size]; exact hd
  · rw [flat_flE, ← flE_len]
    exact put_take d _ cur (by rw [hlE]; omega)
end Go.Proofs.YtmpnepbmpmkmkaaGreat
