/- slices.SortFunc over a row of entries, by their keys. -/
import Derived.Test.YtmpnepbmpmkmkabBP7
namespace Go.Proofs.Ytmpnepbmpmkmkab
open Go.RowKit Go.Shelf Go.Lib Go.Sort
def laySF_ren : Go.Shelf.Ren := ⟨fun | 6 => 27 | 15 => 34 | 14 => 33 | 28 => 50 | 29 => 51 | 20 => 42 | 21 => 43 | 22 => 44 | 23 => 45 | 24 => 46 | 25 => 47 | 26 => 48 | 27 => 49 | 46 => 53 | 47 => 54 | 48 => 55 | 49 => 56 | 50 => 57 | 57 => 58 | n => n, fun | 22 => 63 | 24 => 39 | 25 => 82 | 3 => 3 | 39 => 31 | 0 => 0 | 53 => 131 | 55 => 119 | 4 => 4 | 46 => 124 | 45 => 123 | 50 => 128 | 5 => 5 | 9 => 9 | 66 => 134 | 70 => 138 | 76 => 140 | 77 => 141 | n => n, fun | n => n⟩
theorem laySF : Go.Proofs.SlLaysF0.n6 Try.prog laySF_ren := { mixed := by kernel_rfl, f6 := ⟨Try.f27.name, by decide, Try.func27.trans (congrArg some (by kernel_rfl))⟩, f14 := ⟨Try.f33.name, by decide, Try.func33.trans (congrArg some (by kernel_rfl))⟩, f15 := Try.func34.trans (congrArg some (by kernel_rfl)), f20 := ⟨Try.f42.name, by decide, Try.func42.trans (congrArg some (by kernel_rfl))⟩, f21 := ⟨Try.f43.name, by decide, Try.func43.trans (congrArg some (by kernel_rfl))⟩, f22 := ⟨Try.f44.name, by decide, Try.func44.trans (congrArg some (by kernel_rfl))⟩, f23 := ⟨Try.f45.name, by decide, Try.func45.trans (congrArg some (by kernel_rfl))⟩, f24 := ⟨Try.f46.name, by decide, Try.func46.trans (congrArg some (by kernel_rfl))⟩, f25 := ⟨Try.f47.name, by decide, Try.func47.trans (congrArg some (by kernel_rfl))⟩, f26 := ⟨Try.f48.name, by decide, Try.func48.trans (congrArg some (by kernel_rfl))⟩, f27 := ⟨Try.f49.name, by decide, Try.func49.trans (congrArg some (by kernel_rfl))⟩, f28 := Try.func50.trans (congrArg some (by kernel_rfl)), f29 := Try.func51.trans (congrArg some (by kernel_rfl)), f46 := ⟨Try.f53.name, by decide, Try.func53.trans (congrArg some (by kernel_rfl))⟩, f47 := Try.func54.trans (congrArg some (by kernel_rfl)), f48 := Try.func55.trans (congrArg some (by kernel_rfl)), f49 := ⟨Try.f56.name, by decide, Try.func56.trans (congrArg some (by kernel_rfl))⟩, f50 := ⟨Try.f57.name, by decide, Try.func57.trans (congrArg some (by kernel_rfl))⟩, f57 := ⟨Try.f58.name, by decide, Try.func58.trans (congrArg some (by kernel_rfl))⟩, t0 := Try.underlying0, a0 := Try.isAgg0, z0 := Try.sizeOf0, v0 := Try.zeroValue0, t3 := Try.underlying3, a3 := Try.isAgg3, z3 := Try.sizeOf3, v3 := Try.zeroValue3, t4 := Try.underlying4, a4 := Try.isAgg4, z4 := Try.sizeOf4, v4 := Try.zeroValue4, t5 := Try.underlying5, a5 := Try.isAgg5, z5 := Try.sizeOf5, v5 := Try.zeroValue5, t9 := Try.underlying9, a9 := Try.isAgg9, z9 := Try.sizeOf9, v9 := Try.zeroValue9, t22 := Try.underlying63, a22 := Try.isAgg63, z22 := Try.sizeOf63, v22 := Try.zeroValue63, t25 := Try.underlying82, a25 := Try.isAgg82, z25 := Try.sizeOf82, v25 := Try.zeroValue82, t39 := Try.underlying31, a39 := Try.isAgg31, z39 := Try.sizeOf31, v39 := Try.zeroValue31, t45 := Try.underlying123, a45 := Try.isAgg123, z45 := Try.sizeOf123, v45 := Try.zeroValue123, t46 := Try.underlying124, a46 := Try.isAgg124, z46 := Try.sizeOf124, v46 := Try.zeroValue124, t50 := Try.underlying128, a50 := Try.isAgg128, z50 := Try.sizeOf128, v50 := Try.zeroValue128, t53 := Try.underlying131, a53 := Try.isAgg131, z53 := Try.sizeOf131, v53 := Try.zeroValue131, t55 := Try.underlying119, a55 := Try.isAgg119, z55 := Try.sizeOf119, v55 := Try.zeroValue119, t66 := Try.underlying134, a66 := Try.isAgg134, z66 := Try.sizeOf134, v66 := Try.zeroValue134, t70 := Try.underlying138, a70 := Try.isAgg138, z70 := Try.sizeOf138, v70 := Try.zeroValue138, t76 := Try.underlying140, a76 := Try.isAgg140, z76 := Try.sizeOf140, v76 := Try.zeroValue140, t77 := Try.underlying141, a77 := Try.isAgg141, z77 := Try.sizeOf141, v77 := Try.zeroValue141 }
theorem lt_p {p q : Pa} (hp : p.ok) (hq : q.ok) : decide (D.cmpP p q < 0) = decide (ky p < ky q) := by
  rw [decide_eq_decide]
  exact D.cmpP_lt hp hq
section
variable {l : List En}
def encE (x : {x : En // x ∈ l}) : List Value := enL x.1
theorem encE_eq (x : {x : En // x ∈ l}) : enL x.1 = encE x := rfl
def cfE (x y : {x : En // x ∈ l}) : Int := D.cmpP x.1.p y.1.p
theorem ltE (hl : AllE l) (x y : {x : En // x ∈ l}) : ltOf cfE x y = decide (ky x.1.p < ky y.1.p) := by
  unfold ltOf cfE
  exact lt_p (hl x.1 x.2).p (hl y.1 y.2).p
theorem swoE (hl : AllE l) : @SWO {x : En // x ∈ l} (ltOf cfE) where
  irrefl x := by rw [ltE hl]; simp
  trans x y z h1 h2 := by rw [ltE hl] at *; simp at *; omega
  ntrans x y z h1 h2 := by rw [ltE hl] at *; simp at *; omega
theorem flat_flE [Inhabited {x : En // x ∈ l}] (D : List {x : En // x ∈ l}) : flatK encE 51 D.toArray = (flE (D.map (fun x => x.1))).toArray := by
  refine ext_get! ?_ fun t ht => ?_
  · rw [size_flatK]
    simp [flE_len]
  · rw [size_flatK] at ht
    have ht' : t < D.length * 51 := by simpa using ht
    rw [get_flatK _ _ _ _ ht]
    have h1 : t / 51 < D.length := by omega
    have e1 : (D.toArray[t / 51]!) = D[t / 51] := by
      rw [getElem!_pos D.toArray (t / 51) (by simpa using h1)]
      simp
    rw [e1]
    have h2 := flx_cell enL_len zE (D.map (fun x => x.1)) (t / 51) (by rw [List.length_map]; exact h1) (t % 51) (Nat.mod_lt _ (by decide))
    have e0 : t / 51 * 51 + t % 51 = t := by omega
    rw [e0] at h2
    have e2 : (D.map (fun x => x.1)).getD (t / 51) zE = D[t / 51].1 := by
      rw [List.getD_eq_getElem?_getD, List.getElem?_map, List.getElem?_eq_getElem h1]
      rfl
    rw [e2] at h2
    clear e1 e2 e0
    generalize D[t / 51] = x at *
    have b1 : t < (flE (D.map (fun x => x.1))).length := by rw [flE_len, List.length_map]; exact ht'
    have b2 : t % 51 < (encE x).length := by rw [← encE_eq, enL_len]; exact Nat.mod_lt _ (by decide)
    rw [show (D.map (fun x => x.1)).flatMap enL = flE (D.map (fun x => x.1)) from rfl, List.getElem?_eq_getElem b1, encE_eq x, List.getElem?_eq_getElem b2] at h2
    generalize t % 51 = j at *
    generalize encE x = LL at *
    have b3 : t < (flE (D.map (fun x => x.1))).toArray.size := by rw [List.size_toArray]; exact b1
    rw [getElem!_pos (flE (D.map (fun x => x.1))).toArray t b3, getElem!_pos LL j b2, List.getElem_toArray]
    exact (Option.some.inj h2).symm
end
section
variable {w : World} {g : Nat}
theorem heap_sort {α : Type} [Inhabited α] (enc : α → List Value) (k0 off n : Nat) (d : Array α) (os : Array Obj) (k : Nat) (hk : k < w.heap.size) (hne : k ≠ g) : (sortWorldK enc k0 w g off n d os).heap[k]? = w.heap[k]? := by
  unfold sortWorldK putRowK putRow mapBlock
  rw [heap_grow_old _ _ (by simpa [Sort.ahead] using hk)]
  simp only [Sort.ahead, Array.getElem?_modify]
  rw [if_neg (Ne.symm hne)]
theorem heap_row {α : Type} [Inhabited α] (enc : α → List Value) (k0 off n : Nat) (d : Array α) (os : Array Obj) {cur : Array Value} {t : TypeId} (hg : w.heap[g]? = some (.cells cur t (0, 0))) : (sortWorldK enc k0 w g off n d os).heap[g]? = some (.cells (putCells id off (flatK enc k0 d) cur) t (0, 0)) := by
  unfold sortWorldK putRowK putRow mapBlock
  rw [heap_grow_old _ _ (by simpa [Sort.ahead] using lt_of_heap hg)]
  simp only [Sort.ahead, Array.getElem?_modify, if_true, hg]
  rfl
theorem put_take (off : Nat) (l : List Value) (cur : Array Value) (h : off + l.length ≤ cur.size) : ((putCells id off l.toArray cur).toList.drop off).take l.length = l := by
  apply List.ext_getElem?
  intro k
  rw [List.getElem?_take]
  by_cases hk : k < l.length
  · rw [if_pos hk, List.getElem?_drop, Array.getElem?_toList]
    simp only [putCells, Array.getElem?_mapIdx]
    rw [Array.getElem?_eq_getElem (by omega), Option.map_some, if_pos ⟨by omega, by simpa using hk⟩, List.getElem?_eq_getElem hk]
    congr 1
    rw [id_eq, show off + k - off = k by omega, getElem!_pos l.toArray k (by simpa using hk)]
    simp
  · rw [if_neg hk, List.getElem?_eq_none (by omega)]
theorem put_size (off : Nat) (l : Array Value) (cur : Array Value) : (putCells id off l cur).size = cur.size := by simp [putCells]
end
theorem sort_any (w : World) (B : Nat) (ao : Option Addr) (cap : Nat) (l : List En) (H : OE w B ao cap l) (kn : KN l) (hlen : l.length ≤ 1000000) :
    Calls Try.prog 27 #[.slice ao l.length cap, .func (.func 28) #[] #[]] w fun e w' => e = .returned (.tuple #[]) ∧ ∃ S : List En, S.Perm l ∧ Ris S ∧ GroS (blk ao) w w' ∧ OE w' B ao cap S := by
  cases hl0 : l with
  | nil =>
    subst hl0
    have h1 := Go.Proofs.AnyF.slices_SortFunc_none laySF ao cap (.func (.func 28) #[] #[]) w
    change Calls Try.prog 27 _ _ _ at h1
    refine h1.mono ?_
    rintro e w' ⟨he, rfl⟩
    exact ⟨he, [], List.Perm.refl _, by simp [Ris], .refl _ _, H⟩
  | cons x0 r0 =>
  rw [← hl0]
  have hx0 : x0 ∈ l := by rw [hl0]; exact List.mem_cons_self
  have inh : Inhabited {x : En // x ∈ l} := ⟨⟨x0, hx0⟩⟩
  have hpos : 0 < l.length := by rw [hl0]; simp
  rcases H.own.row with ⟨_, _, h3⟩ | ⟨g, d, cur, rfl, hB, hg, hn, hc, hd, ht⟩
  · omega
  have hlc := flE_len l
  have hm51 : l.length * 51 ≤ cap * 51 := Nat.mul_le_mul_right _ hn
  have hatt : l.attach.map (fun x => x.1) = l := by simp
  have hsz : l.attach.toArray.size = l.length := by simp
  have eg : ∀ args w, (callFunc 28 args).run Try.prog w = .ok (.enter 28 args) w := Try.call28
  have hH : HoldsK encE 51 w g d l.attach.toArray := by
    intro j hj
    rw [flat_flE, hatt] at hj ⊢
    have hj' : j < (flE l).length := by simpa using hj
    refine ⟨?_, ?_⟩
    · have := H.own.xc.cell _ rfl j (flE l)[j] (List.getElem?_eq_getElem hj')
      rw [add_at] at this
      rw [this, getElem!_pos (flE l).toArray j (by simpa using hj')]
      simp
    · simp [World.frozen?, hg]
  have hcm : CmpLays Try.prog 28 #[] encE 51 (cfE (l := l)) g d l.attach.toArray.size w := fun M os dk _ x y => by
    have h1 := D.clo_any x.1 y.1 (H.all x.1 x.2) (H.all y.1 y.2) (sortWorldK encE 51 w g d M dk os)
    have e : (#[Value.agg (encE x).toArray, Value.agg (encE y).toArray] ++ #[] : Array Value) = #[.agg (enA x.1), .agg (enA y.1)] := by
      simp [encE, enA]
    rw [e]
    exact h1.mono fun _ _ ⟨he, hG⟩ => ⟨he, hG.grown⟩
  have key := Go.Proofs.AnyQ.slices_SortFunc_total laySF 51 Try.isAgg39 Try.sizeOf39 encE (fun x => enL_len x.1) (fun x v hv => enL_one x.1 v hv) (cfE (l := l)) (swoE H.all) 28 #[] g d cap l.attach.toArray w eg hcm hH (lt_of_heap hg) (by omega) (fun x y h1 h2 => by
    rw [ltE H.all] at h1 h2
    simp at h1 h2
    exact Subtype.ext (kn.inj x.2 y.2 (ky_inj (H.all x.1 x.2).p (H.all y.1 y.2).p (by omega))))
  rw [hsz] at key
  change Calls Try.prog 27 _ _ _ at key
  refine key.mono ?_
  rintro e w' ⟨rfl, n, os, rfl⟩
  have hp := List.mergeSort_perm l.attach (fun x y => !(ltOf cfE) y x)
  have hq := List.pairwise_mergeSort (le := fun x y : {x : En // x ∈ l} => !(ltOf cfE) y x) (fun a b c h1 h2 => by simp only [ltE H.all] at *; simp at *; omega) (fun a b => by simp only [ltE H.all]; simp; omega) l.attach
  generalize l.attach.mergeSort (fun x y => !(ltOf cfE) y x) = E at *
  have hpE : (E.map (fun x => x.1)).Perm l := by
    have := hp.map (fun x => x.1)
    rwa [hatt] at this
  have hlE : (flE (E.map (fun x => x.1))).length = l.length * 51 := by rw [flE_len, hpE.length_eq]
  refine ⟨rfl, E.map (fun x => x.1), hpE, ?_, ⟨rfl, rfl, rfl, ?_, fun k hk hn => heap_sort encE 51 d n E.toArray os k hk (fun e => hn (mem_blk.2 ⟨_, rfl, e.symm⟩))⟩, ⟨⟨?_, .inr ⟨g, d, _, rfl, hB, heap_row encE 51 d n E.toArray os hg, ?_, hc, ?_, ?_⟩, flE_one⟩, fun x hx => H.all x (hpE.mem_iff.1 hx)⟩⟩
  · have hkn : KN (E.map (fun x => x.1)) := kn.perm hpE.symm
    have h2 : (E.map (fun x => x.1)).Pairwise fun x y => ky x.p ≤ ky y.p := by
      rw [List.pairwise_map]
      refine List.Pairwise.imp (fun {a b} h => ?_) hq
      rw [ltE H.all] at h
      simpa using h
    have h3 := hkn
    unfold KN at h3
    rw [List.nodup_iff_pairwise_ne, List.pairwise_map] at h3
    unfold Ris
    have hall : ∀ x ∈ E.map (fun x => x.1), x.ok := fun x hx => H.all x (hpE.mem_iff.1 hx)
    refine List.Pairwise.imp_of_mem (fun {a b} ha hb h => ?_) (h2.and h3)
    have := h.2
    have h1 := h.1
    have hne : ky a.p ≠ ky b.p := fun e => this (ky_inj (hall a ha).p (hall b hb).p e)
    omega
  · unfold sortWorldK putRowK putRow mapBlock
    simp [Sort.ahead]
  · exact flE_len _
  · rw [hpE.length_eq]; exact hn
  · rw [put_size]; exact hd
  · rw [flat_flE, ← flE_len]
    exact put_take d _ cur (by rw [hlE]; omega)
end Go.Proofs.Ytmpnepbmpmkmkab
