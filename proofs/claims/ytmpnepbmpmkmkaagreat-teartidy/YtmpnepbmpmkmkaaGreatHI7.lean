/- slices.SortFunc over a row of identities, by the order clockwise from a place. -/
import Derived.Test.YtmpnepbmpmkmkaaGreatHI5
import Derived.Test.YtmpnepbmpmkmkaaGreatHW6
namespace Go.Proofs.YtmpnepbmpmkmkaaGreat
open Go.RowKit Go.Shelf Go.Lib Go.Sort
def lay34_ren : Go.Shelf.Ren := ⟨fun | 6 => 66 | 15 => 73 | 14 => 79 | 28 => 88 | 29 => 89 | 20 => 94 | 21 => 95 | 22 => 96 | 23 => 97 | 24 => 98 | 25 => 99 | 26 => 100 | 27 => 101 | 46 => 107 | 47 => 103 | 48 => 104 | 49 => 108 | 50 => 109 | 57 => 111 | n => n, fun | 22 => 39 | 24 => 24 | 25 => 97 | 3 => 3 | 39 => 119 | 0 => 0 | 53 => 138 | 55 => 107 | 4 => 4 | 46 => 131 | 45 => 130 | 50 => 135 | 5 => 5 | 9 => 9 | 66 => 170 | 70 => 174 | 76 => 178 | 77 => 179 | n => n, fun | n => n⟩
theorem lay34 : Go.Proofs.SlLaysF0.n6 Tryz.prog lay34_ren := { mixed := by kernel_rfl, f6 := ⟨Tryz.f66.name, by decide, Tryz.func66.trans (congrArg some (by kernel_rfl))⟩, f14 := ⟨Tryz.f79.name, by decide, Tryz.func79.trans (congrArg some (by kernel_rfl))⟩, f15 := Tryz.func73.trans (congrArg some (by kernel_rfl)), f20 := ⟨Tryz.f94.name, by decide, Tryz.func94.trans (congrArg some (by kernel_rfl))⟩, f21 := ⟨Tryz.f95.name, by decide, Tryz.func95.trans (congrArg some (by kernel_rfl))⟩, f22 := ⟨Tryz.f96.name, by decide, Tryz.func96.trans (congrArg some (by kernel_rfl))⟩, f23 := ⟨Tryz.f97.name, by decide, Tryz.func97.trans (congrArg some (by kernel_rfl))⟩, f24 := ⟨Tryz.f98.name, by decide, Tryz.func98.trans (congrArg some (by kernel_rfl))⟩, f25 := ⟨Tryz.f99.name, by decide, Tryz.func99.trans (congrArg some (by kernel_rfl))⟩, f26 := ⟨Tryz.f100.name, by decide, Tryz.func100.trans (congrArg some (by kernel_rfl))⟩, f27 := ⟨Tryz.f101.name, by decide, Tryz.func101.trans (congrArg some (by kernel_rfl))⟩, f28 := Tryz.func88.trans (congrArg some (by kernel_rfl)), f29 := Tryz.func89.trans (congrArg some (by kernel_rfl)), f46 := ⟨Tryz.f107.name, by decide, Tryz.func107.trans (congrArg some (by kernel_rfl))⟩, f47 := Tryz.func103.trans (congrArg some (by kernel_rfl)), f48 := Tryz.func104.trans (congrArg some (by kernel_rfl)), f49 := ⟨Tryz.f108.name, by decide, Tryz.func108.trans (congrArg some (by kernel_rfl))⟩, f50 := ⟨Tryz.f109.name, by decide, Tryz.func109.trans (congrArg some (by kernel_rfl))⟩, f57 := ⟨Tryz.f111.name, by decide, Tryz.func111.trans (congrArg some (by kernel_rfl))⟩, t0 := Tryz.underlying0, a0 := Tryz.isAgg0, z0 := Tryz.sizeOf0, v0 := Tryz.zeroValue0, t3 := Tryz.underlying3, a3 := Tryz.isAgg3, z3 := Tryz.sizeOf3, v3 := Tryz.zeroValue3, t4 := Tryz.underlying4, a4 := Tryz.isAgg4, z4 := Tryz.sizeOf4, v4 := Tryz.zeroValue4, t5 := Tryz.underlying5, a5 := Tryz.isAgg5, z5 := Tryz.sizeOf5, v5 := Tryz.zeroValue5, t9 := Tryz.underlying9, a9 := Tryz.isAgg9, z9 := Tryz.sizeOf9, v9 := Tryz.zeroValue9, t22 := Tryz.underlying39, a22 := Tryz.isAgg39, z22 := Tryz.sizeOf39, v22 := Tryz.zeroValue39, t25 := Tryz.underlying97, a25 := Tryz.isAgg97, z25 := Tryz.sizeOf97, v25 := Tryz.zeroValue97, t39 := Tryz.underlying119, a39 := Tryz.isAgg119, z39 := Tryz.sizeOf119, v39 := Tryz.zeroValue119, t45 := Tryz.underlying130, a45 := Tryz.isAgg130, z45 := Tryz.sizeOf130, v45 := Tryz.zeroValue130, t46 := Tryz.underlying131, a46 := Tryz.isAgg131, z46 := Tryz.sizeOf131, v46 := Tryz.zeroValue131, t50 := Tryz.underlying135, a50 := Tryz.isAgg135, z50 := Tryz.sizeOf135, v50 := Tryz.zeroValue135, t53 := Tryz.underlying138, a53 := Tryz.isAgg138, z53 := Tryz.sizeOf138, v53 := Tryz.zeroValue138, t55 := Tryz.underlying107, a55 := Tryz.isAgg107, z55 := Tryz.sizeOf107, v55 := Tryz.zeroValue107, t66 := Tryz.underlying170, a66 := Tryz.isAgg170, z66 := Tryz.sizeOf170, v66 := Tryz.zeroValue170, t70 := Tryz.underlying174, a70 := Tryz.isAgg174, z70 := Tryz.sizeOf174, v70 := Tryz.zeroValue174, t76 := Tryz.underlying178, a76 := Tryz.isAgg178, z76 := Tryz.sizeOf178, v76 := Tryz.zeroValue178, t77 := Tryz.underlying179, a77 := Tryz.isAgg179, z77 := Tryz.sizeOf179, v77 := Tryz.zeroValue179 }
theorem fl_get (l : List Nat) (t : Nat) (ht : t < l.length * 16) : (fl l)[t]? = (idA (l.getD (t / 16) 0)).toList[t % 16]? := by
  have h := fl_el l (t / 16) (by omega)
  rw [← h, List.getElem?_take, if_pos (by omega), List.getElem?_drop]
  congr 1
  omega
theorem lift_all : ∀ l : List Nat, All l → ∃ D : List (Fin top), D.map (fun x => x.1) = l
  | [], _ => ⟨[], rfl⟩
  | x :: r, h => by
    obtain ⟨D, hD⟩ := lift_all r fun y hy => h y (List.mem_cons_of_mem _ hy)
    exact ⟨⟨x, h x List.mem_cons_self⟩ :: D, by rw [List.map_cons, hD]⟩
def encI (x : Fin top) : List Value := (idA x.1).toList
def cfI (s : Nat) (x y : Fin top) : Int := cmpN (kc s x.1) (kc s y.1)
theorem ltI (s : Nat) (x y : Fin top) : ltOf (cfI s) x y = decide (kc s x.1 < kc s y.1) := by
  unfold ltOf cfI
  rw [decide_eq_decide, cmpN_neg]
theorem swoI (s : Nat) : @SWO (Fin top) (ltOf (cfI s)) where
  irrefl x := by rw [ltI]; simp
  trans x y z h1 h2 := by rw [ltI] at *; simp at *; omega
  ntrans x y z h1 h2 := by rw [ltI] at *; simp at *; omega
theorem flat_fl [Inhabited (Fin top)] (D : List (Fin top)) : flatK encI 16 D.toArray = (fl (D.map (fun x => x.1))).toArray := by
  refine ext_get! ?_ fun t ht => ?_
  · rw [size_flatK]
    simp [fl_len]
  · rw [size_flatK] at ht
    have ht' : t < D.length * 16 := by simpa using ht
    rw [get_flatK _ _ _ _ ht]
    have h1 : t / 16 < D.length := by omega
    have e1 : (D.toArray[t / 16]!) = D[t / 16] := by
      rw [getElem!_pos D.toArray (t / 16) (by simpa using h1)]
      simp
    rw [e1]
    have h2 := fl_get (D.map (fun x => x.1)) t (by rw [List.length_map]; exact ht')
    have e2 : (D.map (fun x => x.1)).getD (t / 16) 0 = D[t / 16].1 := by
      rw [List.getD_eq_getElem?_getD, List.getElem?_map, List.getElem?_eq_getElem h1]
      rfl
    rw [e2] at h2
    clear e1 e2
    generalize D[t / 16] = x at *
    have b1 : t < (fl (D.map (fun x => x.1))).length := by rw [fl_len, List.length_map]; exact ht'
    have b2 : t % 16 < (encI x).length := Nat.lt_of_lt_of_eq (Nat.mod_lt _ (by decide)) (idA_leni x.1).symm
    rw [List.getElem?_eq_getElem b1, show (idA x.1).toList[t % 16]? = (encI x)[t % 16]? from rfl, List.getElem?_eq_getElem b2] at h2
    generalize t % 16 = j at *
    have b3 : t < (fl (D.map (fun x => x.1))).toArray.size := by rw [List.size_toArray]; exact b1
    rw [getElem!_pos (fl (D.map (fun x => x.1))).toArray t b3, getElem!_pos (encI x) j b2, List.getElem_toArray]
    exact (Option.some.inj h2).symm
section
variable {w : World} {g : Nat} {L : List Nat}
theorem put_fl (S L : List Nat) (m : Nat) (hS : S.length = m) (hm : m ≤ L.length) : putCells id 0 (fl S).toArray (fl L).toArray = (fl (S ++ L.drop m)).toArray := by
  apply Array.ext_getElem?
  intro k
  rw [fl_app, ← fl_drop]
  simp only [putCells, Array.getElem?_mapIdx, List.getElem?_toArray, List.size_toArray, Nat.zero_le, true_and, Nat.zero_add, Nat.sub_zero, id_eq]
  rw [List.getElem?_append]
  have hl := fl_len S
  by_cases hk : k < (fl S).length
  · rw [if_pos hk]
    have hkL : k < (fl L).length := by rw [fl_len]; omega
    rw [List.getElem?_eq_getElem hkL, Option.map_some, if_pos hk, List.getElem?_eq_getElem hk]
    congr 1
    rw [getElem!_pos (fl S).toArray k (by simpa using hk)]
    simp
  · rw [if_neg hk, List.getElem?_drop]
    have e : m * 16 + (k - (fl S).length) = k := by omega
    rw [e]
    cases (fl L)[k]? with
    | none => rfl
    | some v => rw [Option.map_some, if_neg hk]
theorem heap_sorti {α : Type} [Inhabited α] (enc : α → List Value) (n : Nat) (d : Array α) (os : Array Obj) (k : Nat) (hk : k < w.heap.size) (hne : k ≠ g) : (sortWorldK enc 16 w g 0 n d os).heap[k]? = w.heap[k]? := by
  unfold sortWorldK putRowK putRow mapBlock
  rw [heap_grow_old _ _ (by simpa [Sort.ahead] using hk)]
  simp only [Sort.ahead, Array.getElem?_modify]
  rw [if_neg (Ne.symm hne)]
theorem heap_rowi {α : Type} [Inhabited α] (enc : α → List Value) (n : Nat) (d : Array α) (os : Array Obj) (hg : w.heap[g]? = some (.cells (fl L).toArray 24 (0, 0))) : (sortWorldK enc 16 w g 0 n d os).heap[g]? = some (.cells (putCells id 0 (flatK enc 16 d) (fl L).toArray) 24 (0, 0)) := by
  unfold sortWorldK putRowK putRow mapBlock
  rw [heap_grow_old _ _ (by simpa [Sort.ahead] using lt_of_heap hg)]
  simp only [Sort.ahead, Array.getElem?_modify, if_true, hg]
  rfl
end
theorem sort_anyi (s h g m cap : Nat) (hs : s < top) (w : World) (hh : w.heap[h]? = some (.cells (idA s) 24 (0, 0))) (L : List Nat) (hL : All L) (hg : w.heap[g]? = some (.cells (fl L).toArray 24 (0, 0))) (hm : m ≤ L.length) (hlen : L.length ≤ 1000000) (hne : h ≠ g) :
    Calls Tryz.prog 66 #[.slice (some ⟨g, 0, none⟩) m cap, .func (.func 68) #[] #[.pointer (some ⟨h, 0, none⟩)]] w fun e w' => e = .returned (.tuple #[]) ∧ ∃ S : List Nat, S.Perm (L.take m) ∧ S.Pairwise (fun x y => kc s x ≤ kc s y) ∧ GroS [g] w w' ∧ w'.heap[g]? = some (.cells (fl (S ++ L.drop m)).toArray 24 (0, 0)) := by
  have inh : Inhabited (Fin top) := ⟨⟨0, top_0i⟩⟩
  obtain ⟨DD, hD⟩ := lift_all (L.take m) fun x hx => hL x (List.mem_of_mem_take hx)
  have hsz : DD.toArray.size = m := by
    have : (DD.map (fun x => x.1)).length = (L.take m).length := by rw [hD]
    rw [List.length_map, List.length_take] at this
    simp
    omega
  have eg : ∀ args w, (callFunc 68 args).run Tryz.prog w = .ok (.enter 68 args) w := Tryz.call68
  have hl := lt_of_heap hh
  have hH : HoldsK encI 16 w g 0 DD.toArray := by
    intro j hj
    rw [flat_fl, hD] at hj ⊢
    have hj' : j < (fl (L.take m)).length := by simpa using hj
    refine ⟨?_, ?_⟩
    · rw [Nat.zero_add, cell_of_row w g j _ 24 _ hg, getElem!_pos (fl (L.take m)).toArray j (by simpa using hj')]
      rw [← fl_take, List.length_take] at hj'
      simp only [List.getElem?_toArray, List.getElem_toArray, id_eq, ← fl_take, List.getElem_take]
      exact List.getElem?_eq_getElem (by omega)
    · simp [World.frozen?, hg]
  have hc : CmpLays Tryz.prog 68 #[.pointer (some ⟨h, 0, none⟩)] encI 16 (cfI s) g 0 DD.toArray.size w := fun M os dk _ x y => by
    have h1 := DI.clo_any s x.1 y.1 h hs x.2 y.2 (sortWorldK encI 16 w g 0 M dk os) (by rw [heap_sorti encI M dk os h hl hne]; exact hh)
    have e : (#[Value.agg (encI x).toArray, Value.agg (encI y).toArray] ++ #[Value.pointer (some ⟨h, 0, none⟩)] : Array Value) = #[.agg (idA x.1), .agg (idA y.1), .pointer (some ⟨h, 0, none⟩)] := by
      simp [encI]
    rw [e]
    exact h1.mono fun _ _ ⟨he, hG⟩ => ⟨he, hG.grown⟩
  have key := AnyQ.slices_SortFunc_total lay34 16 Tryz.isAgg24 Tryz.sizeOf24 encI (fun x => idA_leni x.1) (fun x v hv => Array.all_eq_true_iff_forall_mem.1 (idA_one x.1) v (by simpa [encI] using hv)) (cfI s) (swoI s) 68 #[.pointer (some ⟨h, 0, none⟩)] g 0 cap DD.toArray w eg hc hH (lt_of_heap hg) (by omega) (fun x y h1 h2 => by
    rw [ltI] at h1 h2
    simp at h1 h2
    exact Fin.ext (kc_inj hs x.1 y.1 x.2 y.2 (by omega)))
  rw [hsz] at key
  change Calls Tryz.prog 66 _ _ _ at key
  refine key.mono ?_
  rintro e w' ⟨rfl, n, os, rfl⟩
  have hp := List.mergeSort_perm DD (fun x y => !(ltOf (cfI s)) y x)
  have hq := List.pairwise_mergeSort (le := fun x y : Fin top => !(ltOf (cfI s)) y x) (fun a b c h1 h2 => by simp only [ltI] at *; simp at *; omega) (fun a b => by simp only [ltI]; simp; omega) DD
  generalize DD.mergeSort (fun x y => !(ltOf (cfI s)) y x) = E at *
  refine ⟨rfl, E.map (fun x => x.1), by rw [← hD]; exact hp.map _, ?_, ⟨rfl, rfl, rfl, ?_, fun k hk hn => heap_sorti encI n E.toArray os k hk (by simpa using hn)⟩, ?_⟩
  · rw [List.pairwise_map]
    refine List.Pairwise.imp (fun {a b} h => ?_) hq
    rw [ltI] at h
    simpa using h
  · unfold sortWorldK putRowK putRow mapBlock
    simp [Sort.ahead]
  · rw [heap_rowi encI n E.toArray os hg, flat_fl, put_fl]
    · have := hp.length_eq
      simp at hsz ⊢
      omega
    · exact hm
end Go.Proofs.YtmpnepbmpmkmkaaGreat
namespace Go.Proofs.YtmpnepbmpmkmkaaGreat
open Go.RowKit
section
variable {P : Program} {o : Oper} {A : Act}
theorem run_addIi (t : TypeId) (x y : Operand) (t2 : TypeId) (ho : o.op = .binOp .add t x y t2) (a b r : Int) (hx : A.eval x = .int .i64 a) (hy : A.eval y = .int .i64 b) (hr : a + b = r) (h1 : -9223372036854775808 ≤ r) (h2 : r < 9223372036854775808) (w : World) : (execOp A.eval o).run P w = .ok (.value (.int .i64 r)) w := by
  subst hr
  refine run_binop .add t x y t2 ho _ _ _ hx hy (by simp [eqGuard]) ?_
  simp [go_sem]
  exact wrap_in _ h1 h2
theorem run_subIi (t : TypeId) (x y : Operand) (t2 : TypeId) (ho : o.op = .binOp .sub t x y t2) (a b r : Int) (hx : A.eval x = .int .i64 a) (hy : A.eval y = .int .i64 b) (hr : a - b = r) (h1 : -9223372036854775808 ≤ r) (h2 : r < 9223372036854775808) (w : World) : (execOp A.eval o).run P w = .ok (.value (.int .i64 r)) w := by
  subst hr
  refine run_binop .sub t x y t2 ho _ _ _ hx hy (by simp [eqGuard]) ?_
  simp [go_sem]
  exact wrap_in _ h1 h2
end
/-- All of some that are written out. -/
def Alls : List Nat → Prop
  | [] => True
  | x :: r => x < top ∧ Alls r
theorem all_of : ∀ l : List Nat, Alls l → All l
  | [], _ => fun _ h => by cases h
  | x :: r, h => fun y hy => by
    rcases List.mem_cons.1 hy with rfl | hy
    · exact h.1
    · exact all_of r h.2 y hy
/-- A row is no part of a block. -/
def NEi (ao : Option Addr) (l : List Nat) (g : Nat) : Prop := ∀ ad, ao = some ad → 0 < (fl l).length → ad.block ≠ g
section
variable {w w' : World} {ao : Option Addr} {cap : Nat} {l : List Nat} {g : Nat} {B : Nat}
theorem RC.ne (h : RC w ao cap l) (e : w.heap.size = g) : NEi ao l g := fun ad ha h0 => by
  have := h.lt ad ha h0
  omega
theorem RC.st {x : Obj} (h : RC w ao cap l) (S : Stored w w' g x) (hn : NEi ao l g) : RC w' ao cap l :=
  ⟨⟨h.xc.len, h.xc.fit, h.xc.bare, fun ad ha j v hv => (World.cell?_of_block (S.old _ (by rw [add_block]; exact hn ad ha (by have := (List.getElem?_eq_some_iff.1 hv).1; omega)))).trans (h.xc.cell ad ha j v hv), h.xc.one⟩, h.all⟩
theorem OI.ne (h : OI w B ao cap l) (e : w.heap.size = g) : NEi ao l g := h.rc.ne e
theorem OI.st {x : Obj} (h : OI w B ao cap l) (S : Stored w w' g x) (hn : NEi ao l g) (h0 : 0 < l.length ∨ ∀ ad, ao = some ad → ad.block ≠ g) : OI w' B ao cap l :=
  ⟨h.own.apart S fun ad ha => h0.elim (fun h0 => hn ad ha (by rw [fl_len]; omega)) fun h => h ad ha, h.all⟩
end
/-- A call that answers a row. -/
def RowPi (w : World) (L : List Nat) (e : Ending) (w' : World) : Prop := ∃ ao cap, e = .returned (.slice ao L.length cap) ∧ Gro w w' ∧ RC w' ao cap L
/-- A call that answers the order clockwise from a place. -/
def CloP (w : World) (s : Nat) (e : Ending) (w' : World) : Prop := ∃ c, e = .returned (.func (.func 68) #[] #[.pointer (some ⟨c, 0, none⟩)]) ∧ Gro w w' ∧ w'.heap[c]? = some (.cells (idA s) 24 (0, 0))
def cloE (s : Nat) : PostE := PostE.ex (fun v x => ∃ c, v = .func (.func 68) #[] #[.pointer (some ⟨c, 0, none⟩)] ∧ x.heap[c]? = some (.cells (idA s) 24 (0, 0))) (fun _ _ _ G ⟨c, h1, h2⟩ => ⟨c, h1, G.has h2⟩)
theorem fill_cloE (s : Nat) (v : Value) : (cloE s).fill v = v := rfl
theorem run_bd0 {o : Oper} {A : Act} (ho : o.op = .build 24 #[]) (w : World) : (execOp A.eval o).run Tryz.prog w = .ok (.value (.agg (idA 0))) w := by
  have h1 : (Instr.build 24 #[]).run Tryz.prog w = .ok (.agg (idA 0)) w := by kernel_rfl
  unfold execOp
  simp only [ho, List.map_toArray, List.map_nil, Sem.run_bind, h1, Result.andThen_ok, Sem.run_pure]
theorem idA_fiti (a b : Nat) : 0 + (idA a).size ≤ (idA b).size := by rw [idA_size, idA_size]; exact Nat.le_refl _
theorem idA_szi (a b : Nat) : (idA a).size = (idA b).size := (idA_size a).trans (idA_size b).symm
theorem bs1i (a : Nat) (w : World) : (Instr.buildSlice 39 1 #[(0, .agg (idA a))]).run Tryz.prog w = .ok (.slice (some ⟨w.heap.size, 0, none⟩) 1 1) (w.alloc (.cells (fl [a]).toArray 24)) := by kernel_rfl
end Go.Proofs.YtmpnepbmpmkmkaaGreat
