import Derived.Test.YtgfnjekpafempaaGreatBP5
import Derived.Test.YtgfnjekpafempaaGreatBG6
import Derived.Test.YtgfnjekpafempaaGreatBAb
namespace Go.Proofs.YtgfnjekpafempaaGreat.D
open Go.Proofs.Tryz
open Go.RowKit
section
variable {P : Program} {ops : Array Oper} {rest : List Oper} {o : Oper} {T : List Value} {ds : List Deferred} {w : World} {Q : Exit → Act → World → Prop}
theorem jW (dst : Nat) (hd : o.dst = some dst) (hgd : o.guard = none) (ty : TypeId) (x : Operand) (ho : o.op = .box ty x) (v : Value) (hx : (⟨T.toArray, ds⟩ : Act).eval x = v) (cs : Array Value) (hc : v.cells = cs)
    (h : ∀ w' g, Gro w w' → w.heap.size = g → w'.heap[g]? = some (.cells cs ty (0, 0)) → wpList P ops Q rest ⟨(T.set dst (.pointer (some ⟨g, 0, none⟩))).toArray, ds⟩ w') : wpList P ops Q (o :: rest) ⟨T.toArray, ds⟩ w := by
  subst hc
  refine yP hgd ty x ho v hx ?_
  intro w' g G e k
  rw [hd, jX]
  exact h w' g G e k
end
set_option maxRecDepth 100000 in
set_option maxHeartbeats 4000000 in
theorem clo_any (x y : IM) (hx : x.ok) (hy : y.ok) (w : World) : Calls Tryz.prog 41 #[.agg (itA x), .agg (itA y)] w (fun e w' => e = .returned (iK (cmpN x.key y.key)) ∧ Gro w w') := by
  refine eN func41 rfl ntmps41 [iA x, iA y] ?_
  have GG := Gro.refl w
  refine qS ?_
  refine jW 2 rfl rfl 42 _ rfl _ rfl (itA x) rfl ?_
  intro w1 g1 G eg1 kg1
  have bg1 := jh GG eg1
  replace GG := GG.trans G
  clear G
  clear eg1
  refine nq ?_
  refine jW 3 rfl rfl 42 _ rfl _ rfl (itA y) rfl ?_
  intro w2 g2 G eg2 kg2
  have bg2 := jh GG eg2
  replace kg1 := G.has kg1
  replace GG := GG.trans G
  clear G
  clear eg2
  refine nq ?_
  refine mv (iK 0) rfl (nq ?_)
  refine qL (qE (qG (sv (vP g1 0) (je 42 _ 0 rfl g1 0 rfl 0 (by kernel_rfl)) rfl (sv (eA x.key) (ldItk _ rfl g1 rfl (kg1)) rfl (sv (vP g2 0) (je 42 _ 0 rfl g2 0 rfl 0 (by kernel_rfl)) rfl (sv (eA y.key) (ldItk _ rfl g2 rfl (kg2)) rfl (nq ?_)))))))
  refine jr 9 rfl rfl _ 42 call42 rfl rfl _ rfl [eA x.key, eA y.key] rfl (Vu x.key y.key hx.key hy.key _) ?_
  intro w3 G
  replace kg1 := G.has kg1
  replace kg2 := G.has kg2
  replace GG := GG.trans G
  clear G
  refine nq ?_
  refine mv (iK (cmpN x.key y.key)) rfl (nq ?_)
  refine qL (qR ?_)
  refine bodyPost_ret (results_tmp results41 _ _ _) rfl ?_
  exact ⟨rfl, GG⟩
end Go.Proofs.YtgfnjekpafempaaGreat.D
namespace Go.Proofs.YtgfnjekpafempaaGreat
open Go.Proofs.Tryz
open Go.RowKit Go.Shelf Go.Lib Go.Sort
def jal : Go.Shelf.Ren := ⟨fun | 6 => 40 | 15 => 65 | 14 => 64 | 28 => 90 | 29 => 91 | 20 => 82 | 21 => 83 | 22 => 84 | 23 => 85 | 24 => 86 | 25 => 87 | 26 => 88 | 27 => 89 | 46 => 98 | 47 => 99 | 48 => 100 | 49 => 101 | 50 => 102 | 57 => 103 | n => n, fun | 22 => 58 | 24 => 42 | 25 => 99 | 3 => 3 | 39 => 28 | 0 => 0 | 53 => 153 | 55 => 64 | 4 => 4 | 46 => 146 | 45 => 145 | 50 => 150 | 5 => 5 | 9 => 9 | 66 => 161 | 70 => 165 | 76 => 167 | 77 => 168 | n => n, fun | n => n⟩
theorem laySF : Go.Proofs.SlLaysF0.n6 Tryz.prog jal := { mixed := by kernel_rfl, f6 := ⟨Tryz.f40.name, by decide, func40.trans (congrArg some (by kernel_rfl))⟩, f14 := ⟨Tryz.f64.name, by decide, func64.trans (congrArg some (by kernel_rfl))⟩, f15 := func65.trans (congrArg some (by kernel_rfl)), f20 := ⟨Tryz.f82.name, by decide, func82.trans (congrArg some (by kernel_rfl))⟩, f21 := ⟨Tryz.f83.name, by decide, func83.trans (congrArg some (by kernel_rfl))⟩, f22 := ⟨Tryz.f84.name, by decide, func84.trans (congrArg some (by kernel_rfl))⟩, f23 := ⟨Tryz.f85.name, by decide, func85.trans (congrArg some (by kernel_rfl))⟩, f24 := ⟨Tryz.f86.name, by decide, func86.trans (congrArg some (by kernel_rfl))⟩, f25 := ⟨Tryz.f87.name, by decide, func87.trans (congrArg some (by kernel_rfl))⟩, f26 := ⟨Tryz.f88.name, by decide, func88.trans (congrArg some (by kernel_rfl))⟩, f27 := ⟨Tryz.f89.name, by decide, func89.trans (congrArg some (by kernel_rfl))⟩, f28 := func90.trans (congrArg some (by kernel_rfl)), f29 := func91.trans (congrArg some (by kernel_rfl)), f46 := ⟨Tryz.f98.name, by decide, func98.trans (congrArg some (by kernel_rfl))⟩, f47 := func99.trans (congrArg some (by kernel_rfl)), f48 := func100.trans (congrArg some (by kernel_rfl)), f49 := ⟨Tryz.f101.name, by decide, func101.trans (congrArg some (by kernel_rfl))⟩, f50 := ⟨Tryz.f102.name, by decide, func102.trans (congrArg some (by kernel_rfl))⟩, f57 := ⟨Tryz.f103.name, by decide, func103.trans (congrArg some (by kernel_rfl))⟩, t0 := underlying0, a0 := Tryz.isAgg0, z0 := Tryz.sizeOf0, v0 := Tryz.zeroValue0, t3 := underlying3, a3 := Tryz.isAgg3, z3 := Tryz.sizeOf3, v3 := Tryz.zeroValue3, t4 := underlying4, a4 := Tryz.isAgg4, z4 := Tryz.sizeOf4, v4 := Tryz.zeroValue4, t5 := underlying5, a5 := Tryz.isAgg5, z5 := Tryz.sizeOf5, v5 := Tryz.zeroValue5, t9 := underlying9, a9 := Tryz.isAgg9, z9 := Tryz.sizeOf9, v9 := Tryz.zeroValue9, t22 := underlying58, a22 := Tryz.isAgg58, z22 := Tryz.sizeOf58, v22 := Tryz.zeroValue58, t25 := underlying99, a25 := Tryz.isAgg99, z25 := Tryz.sizeOf99, v25 := Tryz.zeroValue99, t39 := underlying28, a39 := Tryz.isAgg28, z39 := Tryz.sizeOf28, v39 := Tryz.zeroValue28, t45 := underlying145, a45 := Tryz.isAgg145, z45 := Tryz.sizeOf145, v45 := Tryz.zeroValue145, t46 := underlying146, a46 := Tryz.isAgg146, z46 := Tryz.sizeOf146, v46 := Tryz.zeroValue146, t50 := underlying150, a50 := Tryz.isAgg150, z50 := Tryz.sizeOf150, v50 := Tryz.zeroValue150, t53 := underlying153, a53 := Tryz.isAgg153, z53 := Tryz.sizeOf153, v53 := Tryz.zeroValue153, t55 := underlying64, a55 := Tryz.isAgg64, z55 := Tryz.sizeOf64, v55 := Tryz.zeroValue64, t66 := underlying161, a66 := Tryz.isAgg161, z66 := Tryz.sizeOf161, v66 := Tryz.zeroValue161, t70 := underlying165, a70 := Tryz.isAgg165, z70 := Tryz.sizeOf165, v70 := Tryz.zeroValue165, t76 := underlying167, a76 := Tryz.isAgg167, z76 := Tryz.sizeOf167, v76 := Tryz.zeroValue167, t77 := underlying168, a77 := Tryz.isAgg168, z77 := Tryz.sizeOf168, v77 := Tryz.zeroValue168 }
def flM (l : List IM) : List Value := l.flatMap itL
theorem uL (l : List IM) : (flM l).length = l.length * 34 := yn vV l
theorem flM_one {l : List IM} : ∀ v ∈ flM l, v.oneCell' = true := fun v hv => by
  obtain ⟨n, _, hn⟩ := List.mem_flatMap.1 hv
  exact JD n v hn
def KNi (l : List IM) : Prop := (l.map (·.key)).Nodup
theorem KNi.perm {l m : List IM} (h : KNi l) (p : l.Perm m) : KNi m := (List.Perm.nodup_iff (p.map _)).1 h
def RisI (l : List IM) : Prop := l.Pairwise fun x y => x.key < y.key
section
variable {l : List IM}
def encM (x : {x : IM // x ∈ l}) : List Value := itL x.1
theorem Ks (x : {x : IM // x ∈ l}) : itL x.1 = encM x := rfl
def cfM (x y : {x : IM // x ∈ l}) : Int := cmpN x.1.key y.1.key
theorem ltMk (x y : {x : IM // x ∈ l}) : ltOf cfM x y = decide (x.1.key < y.1.key) := by
  unfold ltOf cfM
  rw [decide_eq_decide, cmpN_neg]
theorem swoM : @SWO {x : IM // x ∈ l} (ltOf cfM) where
  irrefl x := by rw [ltMk]; simp
  trans x y z h1 h2 := by rw [ltMk] at *; simp at *; omega
  ntrans x y z h1 h2 := by rw [ltMk] at *; simp at *; omega
theorem UD [Inhabited {x : IM // x ∈ l}] (D : List {x : IM // x ∈ l}) : flatK encM 34 D.toArray = (flM (D.map (fun x => x.1))).toArray := by
  refine ext_get! ?_ fun t ht => ?_
  · rw [size_flatK]
    simp [uL]
  · rw [size_flatK] at ht
    have ht' : t < D.length * 34 := by simpa using ht
    rw [get_flatK _ _ _ _ ht]
    have h1 : t / 34 < D.length := by omega
    have e1 : (D.toArray[t / 34]!) = D[t / 34] := by
      rw [getElem!_pos D.toArray (t / 34) (by simpa using h1)]
      simp
    rw [e1]
    have h2 := JG vV zM (D.map (fun x => x.1)) (t / 34) (by rw [List.length_map]; exact h1) (t % 34) (Nat.mod_lt _ (by decide))
    have e0 : t / 34 * 34 + t % 34 = t := by omega
    rw [e0] at h2
    have e2 : (D.map (fun x => x.1)).getD (t / 34) zM = D[t / 34].1 := by
      rw [List.getD_eq_getElem?_getD, List.getElem?_map, List.getElem?_eq_getElem h1]
      rfl
    rw [e2] at h2
    clear e1 e2 e0
    generalize D[t / 34] = x at *
    have b1 : t < (flM (D.map (fun x => x.1))).length := by rw [uL, List.length_map]; exact ht'
    have b2 : t % 34 < (encM x).length := by rw [← Ks, vV]; exact Nat.mod_lt _ (by decide)
    rw [show (D.map (fun x => x.1)).flatMap itL = flM (D.map (fun x => x.1)) from rfl, List.getElem?_eq_getElem b1, Ks x, List.getElem?_eq_getElem b2] at h2
    generalize t % 34 = j at *
    generalize encM x = LL at *
    have b3 : t < (flM (D.map (fun x => x.1))).toArray.size := by rw [List.size_toArray]; exact b1
    rw [getElem!_pos (flM (D.map (fun x => x.1))).toArray t b3, getElem!_pos LL j b2, List.getElem_toArray]
    exact (Option.some.inj h2).symm
end
section
variable {w : World} {g : Nat}
theorem jan {α : Type} [Inhabited α] (enc : α → List Value) (k0 off n : Nat) (d : Array α) (os : Array Obj) (k : Nat) (hk : k < w.heap.size) (hne : k ≠ g) : (sortWorldK enc k0 w g off n d os).heap[k]? = w.heap[k]? := by
  unfold sortWorldK putRowK putRow mapBlock
  rw [heap_grow_old _ _ (by simpa [Sort.ahead] using hk)]
  simp only [Sort.ahead, Array.getElem?_modify]
  rw [if_neg (Ne.symm hne)]
theorem jed {α : Type} [Inhabited α] (enc : α → List Value) (k0 off n : Nat) (d : Array α) (os : Array Obj) {cur : Array Value} {t : TypeId} (hg : w.heap[g]? = some (.cells cur t (0, 0))) : (sortWorldK enc k0 w g off n d os).heap[g]? = some (.cells (putCells id off (flatK enc k0 d) cur) t (0, 0)) := by
  unfold sortWorldK putRowK putRow mapBlock
  rw [heap_grow_old _ _ (by simpa [Sort.ahead] using ji hg)]
  simp only [Sort.ahead, Array.getElem?_modify, if_true, hg]
  rfl
theorem jcv (off : Nat) (l : List Value) (cur : Array Value) (h : off + l.length ≤ cur.size) : ((putCells id off l.toArray cur).toList.drop off).take l.length = l := by
  apply List.ext_getElem?
  intro k
  rw [List.getElem?_take]
  by_cases hk : k < l.length
  · rw [if_pos hk, List.getElem?_drop, Array.getElem?_toList]
    simp only [putCells, Array.getElem?_mapIdx]
    rw [Array.getElem?_eq_getElem (by omega), Option.map_some, if_pos ⟨by omega, by simpa using hk⟩, List.getElem?_eq_getElem hk]
    congr 1
    rw [id_eq, show off + k - off = k by omega, getElem!_pos l.toArray k (by simpa using hk)]
    simp
  · rw [if_neg hk, List.getElem?_eq_none (by omega)]
theorem jcw (off : Nat) (l : Array Value) (cur : Array Value) : (putCells id off l cur).size = cur.size := by simp [putCells]
end
theorem KD (w : World) (B : Nat) (ao : Option Addr) (cap : Nat) (l : List IM) (H : OW kM 42 w B ao cap l) (kn : KNi l) (hlen : l.length ≤ 1000000) :
    Calls Tryz.prog 40 #[.slice ao l.length cap, .func (.func 41) #[] #[]] w fun e w' => e = .returned (.tuple #[]) ∧ ∃ S : List IM, S.Perm l ∧ RisI S ∧ GroS (blk ao) w w' ∧ OW kM 42 w' B ao cap S := by
  cases hl0 : l with
  | nil =>
    subst hl0
    have h1 := Go.Proofs.AnyF.slices_SortFunc_none laySF ao cap (.func (.func 41) #[] #[]) w
    change Calls Tryz.prog 40 _ _ _ at h1
    refine h1.mono ?_
    rintro e w' ⟨he, rfl⟩
    exact ⟨he, [], List.Perm.refl _, by simp [RisI], .refl _ _, H⟩
  | cons x0 r0 =>
  rw [← hl0]
  have hx0 : x0 ∈ l := by rw [hl0]; exact List.mem_cons_self
  have inh : Inhabited {x : IM // x ∈ l} := ⟨⟨x0, hx0⟩⟩
  have hpos : 0 < l.length := by rw [hl0]; simp
  rcases H.own.row with ⟨_, _, h3⟩ | ⟨g, d, cur, rfl, hB, hg, hn, hc, hd, ht⟩
  · omega
  have hlc := uL l
  have hm34 : l.length * 34 ≤ cap * 34 := Nat.mul_le_mul_right _ hn
  have hatt : l.attach.map (fun x => x.1) = l := by simp
  have hsz : l.attach.toArray.size = l.length := by simp
  have eg : ∀ args w, (callFunc 41 args).run Tryz.prog w = .ok (.enter 41 args) w := call41
  have hH : HoldsK encM 34 w g d l.attach.toArray := by
    intro j hj
    rw [UD, hatt] at hj ⊢
    have hj' : j < (flM l).length := by simpa using hj
    refine ⟨?_, ?_⟩
    · have := H.own.xc.cell _ rfl j (flM l)[j] (List.getElem?_eq_getElem hj')
      rw [zQ] at this
      rw [this, getElem!_pos (flM l).toArray j (by simpa using hj')]
      simp
    · simp [World.frozen?, hg]
  have hcm : CmpLays Tryz.prog 41 #[] encM 34 (cfM (l := l)) g d l.attach.toArray.size w := fun M os dk _ x y => by
    have h1 := D.clo_any x.1 y.1 (H.all x.1 x.2) (H.all y.1 y.2) (sortWorldK encM 34 w g d M dk os)
    have e : (#[Value.agg (encM x).toArray, Value.agg (encM y).toArray] ++ #[] : Array Value) = #[iA x.1, iA y.1] := by
      simp [encM, itA]
    rw [e]
    exact h1.mono fun _ _ ⟨he, hG⟩ => ⟨he, hG.grown⟩
  have key := Go.Proofs.AnyQ.slices_SortFunc_total laySF 34 Tryz.isAgg42 Tryz.sizeOf42 encM (fun x => vV x.1) (fun x v hv => JD x.1 v hv) (cfM (l := l)) swoM 41 #[] g d cap l.attach.toArray w eg hcm hH (ji hg) (by omega) (fun x y h1 h2 => by
    rw [ltMk] at h1 h2
    simp at h1 h2
    exact Subtype.ext (JA kn x.2 y.2 (by omega)))
  rw [hsz] at key
  change Calls Tryz.prog 40 _ _ _ at key
  refine key.mono ?_
  rintro e w' ⟨rfl, n, os, rfl⟩
  have hp := List.mergeSort_perm l.attach (fun x y => !(ltOf cfM) y x)
  have hq := List.pairwise_mergeSort (le := fun x y : {x : IM // x ∈ l} => !(ltOf cfM) y x) (fun a b c h1 h2 => by simp only [ltMk] at *; simp at *; omega) (fun a b => by simp only [ltMk]; simp; omega) l.attach
  generalize l.attach.mergeSort (fun x y => !(ltOf cfM) y x) = E at *
  have hpE : (E.map (fun x => x.1)).Perm l := by
    have := hp.map (fun x => x.1)
    rwa [hatt] at this
  have hlE : (flM (E.map (fun x => x.1))).length = l.length * 34 := by rw [uL, hpE.length_eq]
  refine ⟨rfl, E.map (fun x => x.1), hpE, ?_, ⟨rfl, rfl, rfl, ?_, fun k hk hn => jan encM 34 d n E.toArray os k hk (fun e => hn (mem_blk.2 ⟨_, rfl, e.symm⟩))⟩, ⟨⟨?_, .inr ⟨g, d, _, rfl, hB, jed encM 34 d n E.toArray os hg, ?_, hc, ?_, ?_⟩, flM_one⟩, fun x hx => H.all x (hpE.mem_iff.1 hx)⟩⟩
  · have hkn : KNi (E.map (fun x => x.1)) := kn.perm hpE.symm
    have h2 : (E.map (fun x => x.1)).Pairwise fun x y => x.key ≤ y.key := by
      rw [List.pairwise_map]
      refine List.Pairwise.imp (fun {a b} h => ?_) hq
      rw [ltMk] at h
      simpa using h
    have h3 := hkn
    unfold KNi at h3
    rw [List.nodup_iff_pairwise_ne, List.pairwise_map] at h3
    unfold RisI
    refine List.Pairwise.imp (fun {a b} h => ?_) (h2.and h3)
    have := h.2
    have h1 := h.1
    have hne : a.key ≠ b.key := this
    omega
  · unfold sortWorldK putRowK putRow mapBlock
    simp [Sort.ahead]
  · exact uL _
  · rw [hpE.length_eq]; exact hn
  · rw [jcw]; exact hd
  · have hd2 : d + cap * 34 ≤ cur.size := hd
    have hz := jcv d (flM (E.map (fun x => x.1))) cur (by rw [hlE]; omega)
    rw [uL] at hz
    rw [UD]
    exact hz
end Go.Proofs.YtgfnjekpafempaaGreat
