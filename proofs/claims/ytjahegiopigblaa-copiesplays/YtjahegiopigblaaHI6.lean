/- slices.SortFunc over a row of identities, by the order clockwise from a place. -/
import Derived.Test.YtjahegiopigblaaHI5
namespace Go.Proofs.Ytjahegiopigblaa
open Go.RowKit Go.Shelf Go.Lib Go.Sort
def lay34_ren : Go.Shelf.Ren := ⟨fun | 6 => 37 | 15 => 52 | 14 => 51 | 28 => 68 | 29 => 69 | 20 => 60 | 21 => 61 | 22 => 62 | 23 => 63 | 24 => 64 | 25 => 65 | 26 => 66 | 27 => 67 | 46 => 71 | 47 => 72 | 48 => 73 | 49 => 74 | 50 => 75 | 57 => 76 | n => n, fun | 22 => 24 | 24 => 23 | 25 => 81 | 3 => 3 | 39 => 58 | 0 => 0 | 53 => 110 | 55 => 96 | 4 => 4 | 46 => 104 | 45 => 103 | 50 => 82 | 5 => 5 | 9 => 9 | 66 => 112 | 70 => 116 | 76 => 118 | 77 => 119 | n => n, fun | n => n⟩
theorem lay34 : Go.Proofs.SlLaysF0.n6 Try.prog lay34_ren := { mixed := by kernel_rfl, f6 := ⟨Try.f37.name, by decide, Try.func37.trans (congrArg some (by kernel_rfl))⟩, f14 := ⟨Try.f51.name, by decide, Try.func51.trans (congrArg some (by kernel_rfl))⟩, f15 := Try.func52.trans (congrArg some (by kernel_rfl)), f20 := ⟨Try.f60.name, by decide, Try.func60.trans (congrArg some (by kernel_rfl))⟩, f21 := ⟨Try.f61.name, by decide, Try.func61.trans (congrArg some (by kernel_rfl))⟩, f22 := ⟨Try.f62.name, by decide, Try.func62.trans (congrArg some (by kernel_rfl))⟩, f23 := ⟨Try.f63.name, by decide, Try.func63.trans (congrArg some (by kernel_rfl))⟩, f24 := ⟨Try.f64.name, by decide, Try.func64.trans (congrArg some (by kernel_rfl))⟩, f25 := ⟨Try.f65.name, by decide, Try.func65.trans (congrArg some (by kernel_rfl))⟩, f26 := ⟨Try.f66.name, by decide, Try.func66.trans (congrArg some (by kernel_rfl))⟩, f27 := ⟨Try.f67.name, by decide, Try.func67.trans (congrArg some (by kernel_rfl))⟩, f28 := Try.func68.trans (congrArg some (by kernel_rfl)), f29 := Try.func69.trans (congrArg some (by kernel_rfl)), f46 := ⟨Try.f71.name, by decide, Try.func71.trans (congrArg some (by kernel_rfl))⟩, f47 := Try.func72.trans (congrArg some (by kernel_rfl)), f48 := Try.func73.trans (congrArg some (by kernel_rfl)), f49 := ⟨Try.f74.name, by decide, Try.func74.trans (congrArg some (by kernel_rfl))⟩, f50 := ⟨Try.f75.name, by decide, Try.func75.trans (congrArg some (by kernel_rfl))⟩, f57 := ⟨Try.f76.name, by decide, Try.func76.trans (congrArg some (by kernel_rfl))⟩, t0 := Try.underlying0, a0 := Try.isAgg0, z0 := Try.sizeOf0, v0 := Try.zeroValue0, t3 := Try.underlying3, a3 := Try.isAgg3, z3 := Try.sizeOf3, v3 := Try.zeroValue3, t4 := Try.underlying4, a4 := Try.isAgg4, z4 := Try.sizeOf4, v4 := Try.zeroValue4, t5 := Try.underlying5, a5 := Try.isAgg5, z5 := Try.sizeOf5, v5 := Try.zeroValue5, t9 := Try.underlying9, a9 := Try.isAgg9, z9 := Try.sizeOf9, v9 := Try.zeroValue9, t22 := Try.underlying24, a22 := Try.isAgg24, z22 := Try.sizeOf24, v22 := Try.zeroValue24, t25 := Try.underlying81, a25 := Try.isAgg81, z25 := Try.sizeOf81, v25 := Try.zeroValue81, t39 := Try.underlying58, a39 := Try.isAgg58, z39 := Try.sizeOf58, v39 := Try.zeroValue58, t45 := Try.underlying103, a45 := Try.isAgg103, z45 := Try.sizeOf103, v45 := Try.zeroValue103, t46 := Try.underlying104, a46 := Try.isAgg104, z46 := Try.sizeOf104, v46 := Try.zeroValue104, t50 := Try.underlying82, a50 := Try.isAgg82, z50 := Try.sizeOf82, v50 := Try.zeroValue82, t53 := Try.underlying110, a53 := Try.isAgg110, z53 := Try.sizeOf110, v53 := Try.zeroValue110, t55 := Try.underlying96, a55 := Try.isAgg96, z55 := Try.sizeOf96, v55 := Try.zeroValue96, t66 := Try.underlying112, a66 := Try.isAgg112, z66 := Try.sizeOf112, v66 := Try.zeroValue112, t70 := Try.underlying116, a70 := Try.isAgg116, z70 := Try.sizeOf116, v70 := Try.zeroValue116, t76 := Try.underlying118, a76 := Try.isAgg118, z76 := Try.sizeOf118, v76 := Try.zeroValue118, t77 := Try.underlying119, a77 := Try.isAgg119, z77 := Try.sizeOf119, v77 := Try.zeroValue119 }
theorem fl_get (l : List Nat) (t : Nat) (ht : t < l.length * 16) : (fl l)[t]? = (idA (l.getD (t / 16) 0)).toList[t % 16]? := by
  have h := fl_el l (t / 16) (by omega)
  rw [← h, List.getElem?_take, if_pos (by omega), List.getElem?_drop]
  congr 1
  omega
theorem lift_all : ∀ l : List Nat, All l → ∃ D : List (Fin top), D.map (fun x => x.1) = l
  | [], _ => ⟨[], rfl⟩
  | x :: r, h => by
    obtain ⟨D, hD⟩ := lift_all r fun y hy => h y (List.mem_cons_of_mem _ hy)
    exact ⟨⟨x, h x List.mem_cons_self⟩ :: D, by rw [List.map_cons, hD]⟩
def encI (x : Fin top) : List Value := (idA x.1).toList
def cfI (s : Nat) (x y : Fin top) : Int := cmpN (kc s x.1) (kc s y.1)
theorem ltI (s : Nat) (x y : Fin top) : ltOf (cfI s) x y = decide (kc s x.1 < kc s y.1) := by
  unfold ltOf cfI
  rw [decide_eq_decide, cmpN_neg]
theorem swoI (s : Nat) : @SWO (Fin top) (ltOf (cfI s)) where
  irrefl x := by rw [ltI]; simp
  trans x y z h1 h2 := by rw [ltI] at *; simp at *; omega
  ntrans x y z h1 h2 := by rw [ltI] at *; simp at *; omega
theorem flat_fl [Inhabited (Fin top)] (D : List (Fin top)) : flatK encI 16 D.toArray = (fl (D.map (fun x => x.1))).toArray := by
  refine ext_get! ?_ fun t ht => ?_
  · rw [size_flatK]
    simp [fl_len]
  · rw [size_flatK] at ht
    have ht' : t < D.length * 16 := by simpa using ht
    rw [get_flatK _ _ _ _ ht]
    have h1 : t / 16 < D.length := by omega
    have e1 : (D.toArray[t / 16]!) = D[t / 16] := by
      rw [getElem!_pos D.toArray (t / 16) (by simpa using h1)]
      simp
    rw [e1]
    have h2 := fl_get (D.map (fun x => x.1)) t (by rw [List.length_map]; exact ht')
    have e2 : (D.map (fun x => x.1)).getD (t / 16) 0 = D[t / 16].1 := by
      rw [List.getD_eq_getElem?_getD, List.getElem?_map, List.getElem?_eq_getElem h1]
      rfl
    rw [e2] at h2
    clear e1 e2
    generalize D[t / 16] = x at *
    have b1 : t < (fl (D.map (fun x => x.1))).length := by rw [fl_len, List.length_map]; exact ht'
    have b2 : t % 16 < (encI x).length := Nat.lt_of_lt_of_eq (Nat.mod_lt _ (by decide)) (idA_leni x.1).symm
    rw [List.getElem?_eq_getElem b1, show (idA x.1).toList[t % 16]? = (encI x)[t % 16]? from rfl, List.getElem?_eq_getElem b2] at h2
    generalize t % 16 = j at *
    have b3 : t < (fl (D.map (fun x => x.1))).toArray.size := by rw [List.size_toArray]; exact b1
    rw [getElem!_pos (fl (D.map (fun x => x.1))).toArray t b3, getElem!_pos (encI x) j b2, List.getElem_toArray]
    exact (Option.some.inj h2).symm
section
variable {w : World} {g : Nat} {L : List Nat}
theorem put_fl (S L : List Nat) (m : Nat) (hS : S.length = m) (hm : m ≤ L.length) : putCells id 0 (fl S).toArray (fl L).toArray = (fl (S ++ L.drop m)).toArray := by
  apply Array.ext_getElem?
  intro k
  rw [fl_app, ← fl_drop]
  simp only [putCells, Array.getElem?_mapIdx, List.getElem?_toArray, List.size_toArray, Nat.zero_le, true_and, Nat.zero_add, Nat.sub_zero, id_eq]
  rw [List.getElem?_append]
  have hl := fl_len S
  by_cases hk : k < (fl S).length
  · rw [if_pos hk]
    have hkL : k < (fl L).length := by rw [fl_len]; omega
    rw [List.getElem?_eq_getElem hkL, Option.map_some, if_pos hk, List.getElem?_eq_getElem hk]
    congr 1
    rw [getElem!_pos (fl S).toArray k (by simpa using hk)]
    simp
  · rw [if_neg hk, List.getElem?_drop]
    have e : m * 16 + (k - (fl S).length) = k := by omega
    rw [e]
    cases (fl L)[k]? with
    | none => rfl
    | some v => rw [Option.map_some, if_neg hk]
theorem heap_sorti {α : Type} [Inhabited α] (enc : α → List Value) (n : Nat) (d : Array α) (os : Array Obj) (k : Nat) (hk : k < w.heap.size) (hne : k ≠ g) : (sortWorldK enc 16 w g 0 n d os).heap[k]? = w.heap[k]? := by
  unfold sortWorldK putRowK putRow mapBlock
  rw [heap_grow_old _ _ (by simpa [Sort.ahead] using hk)]
  simp only [Sort.ahead, Array.getElem?_modify]
  rw [if_neg (Ne.symm hne)]
theorem heap_rowi {α : Type} [Inhabited α] (enc : α → List Value) (n : Nat) (d : Array α) (os : Array Obj) (hg : w.heap[g]? = some (.cells (fl L).toArray 23 (0, 0))) : (sortWorldK enc 16 w g 0 n d os).heap[g]? = some (.cells (putCells id 0 (flatK enc 16 d) (fl L).toArray) 23 (0, 0)) := by
  unfold sortWorldK putRowK putRow mapBlock
  rw [heap_grow_old _ _ (by simpa [Sort.ahead] using lt_of_heap hg)]
  simp only [Sort.ahead, Array.getElem?_modify, if_true, hg]
  rfl
end
theorem sort_anyi (s h g m cap : Nat) (hs : s < top) (w : World) (hh : w.heap[h]? = some (.cells (idA s) 23 (0, 0))) (L : List Nat) (hL : All L) (hg : w.heap[g]? = some (.cells (fl L).toArray 23 (0, 0))) (hm : m ≤ L.length) (hlen : L.length ≤ 1000000) (hne : h ≠ g) :
    Calls Try.prog 37 #[.slice (some ⟨g, 0, none⟩) m cap, .func (.func 70) #[] #[.pointer (some ⟨h, 0, none⟩)]] w fun e w' => e = .returned (.tuple #[]) ∧ ∃ S : List Nat, S.Perm (L.take m) ∧ S.Pairwise (fun x y => kc s x ≤ kc s y) ∧ GroS [g] w w' ∧ w'.heap[g]? = some (.cells (fl (S ++ L.drop m)).toArray 23 (0, 0)) := by
  have inh : Inhabited (Fin top) := ⟨⟨0, top_0i⟩⟩
  obtain ⟨DD, hD⟩ := lift_all (L.take m) fun x hx => hL x (List.mem_of_mem_take hx)
  have hsz : DD.toArray.size = m := by
    have : (DD.map (fun x => x.1)).length = (L.take m).length := by rw [hD]
    rw [List.length_map, List.length_take] at this
    simp
    omega
  have eg : ∀ args w, (callFunc 70 args).run Try.prog w = .ok (.enter 70 args) w := Try.call70
  have hl := lt_of_heap hh
  have hH : HoldsK encI 16 w g 0 DD.toArray := by
    intro j hj
    rw [flat_fl, hD] at hj ⊢
    have hj' : j < (fl (L.take m)).length := by simpa using hj
    refine ⟨?_, ?_⟩
    · rw [Nat.zero_add, cell_of_row w g j _ 23 _ hg, getElem!_pos (fl (L.take m)).toArray j (by simpa using hj')]
      rw [← fl_take, List.length_take] at hj'
      simp only [List.getElem?_toArray, List.getElem_toArray, id_eq, ← fl_take, List.getElem_take]
      exact List.getElem?_eq_getElem (by omega)
    · simp [World.frozen?, hg]
  have hc : CmpLays Try.prog 70 #[.pointer (some ⟨h, 0, none⟩)] encI 16 (cfI s) g 0 DD.toArray.size w := fun M os dk _ x y => by
    have h1 := DI.clo_any s x.1 y.1 h hs x.2 y.2 (sortWorldK encI 16 w g 0 M dk os) (by rw [heap_sorti encI M dk os h hl hne]; exact hh)
    have e : (#[Value.agg (encI x).toArray, Value.agg (encI y).toArray] ++ #[Value.pointer (some ⟨h, 0, none⟩)] : Array Value) = #[.agg (idA x.1), .agg (idA y.1), .pointer (some ⟨h, 0, none⟩)] := by
      simp [encI]
    rw [e]
    exact h1.mono fun _ _ ⟨he, hG⟩ => ⟨he, hG.grown⟩
  have key := AnyQ.slices_SortFunc_total lay34 16 Try.isAgg23 Try.sizeOf23 encI (fun x => idA_leni x.1) (fun x v hv => Array.all_eq_true_iff_forall_mem.1 (idA_one x.1) v (by simpa [encI] using hv)) (cfI s) (swoI s) 70 #[.pointer (some ⟨h, 0, none⟩)] g 0 cap DD.toArray w eg hc hH (lt_of_heap hg) (by omega) (fun x y h1 h2 => by
    rw [ltI] at h1 h2
    simp at h1 h2
    exact Fin.ext (kc_inj hs x.1 y.1 x.2 y.2 (by omega)))
  rw [hsz] at key
  change Calls Try.prog 37 _ _ _ at key
  refine key.mono ?_
  rintro e w' ⟨rfl, n, os, rfl⟩
  have hp := List.mergeSort_perm DD (fun x y => !(ltOf (cfI s)) y x)
  have hq := List.pairwise_mergeSort (le := fun x y : Fin top => !(ltOf (cfI s)) y x) (fun a b c h1 h2 => by simp only [ltI] at *; simp at *; omega) (fun a b => by simp only [ltI]; simp; omega) DD
  generalize DD.mergeSort (fun x y => !(ltOf (cfI s)) y x) = E at *
  refine ⟨rfl, E.map (fun x => x.1), by rw [← hD]; exact hp.map _, ?_, ⟨rfl, rfl, rfl, ?_, fun k hk hn => heap_sorti encI n E.toArray os k hk (by simpa using hn)⟩, ?_⟩
  · rw [List.pairwise_map]
    refine List.Pairwise.imp (fun {a b} h => ?_) hq
    rw [ltI] at h
    simpa using h
  · unfold sortWorldK putRowK putRow mapBlock
    simp [Sort.ahead]
  · rw [heap_rowi encI n E.toArray os hg, flat_fl, put_fl]
    · have := hp.length_eq
      simp at hsz ⊢
      omega
    · exact hm
end Go.Proofs.Ytjahegiopigblaa
