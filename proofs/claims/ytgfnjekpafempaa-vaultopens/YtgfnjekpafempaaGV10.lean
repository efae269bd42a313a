/- slices.SortFunc over a row of items, by their keys. -/
import Derived.Test.YtgfnjekpafempaaGP5
import Derived.Test.YtgfnjekpafempaaGM1
import Derived.Test.YtgfnjekpafempaaGAb
namespace Go.Proofs.Ytgfnjekpafempaa.D
open Go.RowKit
section
variable {P : Program} {ops : Array Oper} {rest : List Oper} {o : Oper} {T : List Value} {ds : List Deferred} {w : World} {Q : Exit → Act → World → Prop}
theorem zw (dst : Nat) (hd : o.dst = some dst) (hgd : o.guard = none) (ty : TypeId) (x : Operand) (ho : o.op = .box ty x) (v : Value) (hx : (⟨T.toArray, ds⟩ : Act).eval x = v) (cs : Array Value) (hc : v.cells = cs)
    (h : ∀ w' g, Gro w w' → w.heap.size = g → w'.heap[g]? = some (.cells cs ty (0, 0)) → wpList P ops Q rest ⟨(T.set dst (.pointer (some ⟨g, 0, none⟩))).toArray, ds⟩ w') : wpList P ops Q (o :: rest) ⟨T.toArray, ds⟩ w := by
  subst hc
  refine yI hgd ty x ho v hx ?_
  intro w' g G e k
  rw [hd, jY]
  exact h w' g G e k
end
set_option maxRecDepth 100000 in
set_option maxHeartbeats 4000000 in
theorem clo_any (x y : IM) (hx : x.ok) (hy : y.ok) (w : World) : Calls Try.prog 46 #[.agg (itA x), .agg (itA y)] w (fun e w' => e = .returned (iK (cmpN x.key y.key)) ∧ Gro w w') := by
  refine js Try.func46 rfl Try.ntmps46 [.agg (itA x), .agg (itA y)] [.agg (itA x), .agg (itA y), uD, uD, uD, uD, uD, uD, uD, uD] rfl ?_
  have GG := Gro.refl w
  refine qS ?_
  refine zw 2 rfl rfl 56 _ rfl _ rfl (itA x) rfl ?_
  intro w1 g1 G eg1 kg1
  have bg1 := jk GG eg1
  replace GG := GG.trans G
  clear G
  clear eg1
  refine nr ?_; intro U h; simp only [z0, z1] at h; subst h
  refine zw 3 rfl rfl 56 _ rfl _ rfl (itA y) rfl ?_
  intro w2 g2 G eg2 kg2
  have bg2 := jk GG eg2
  replace kg1 := G.has kg1
  replace GG := GG.trans G
  clear G
  clear eg2
  refine nr ?_; intro U h; simp only [z0, z1] at h; subst h
  refine ja 4 rfl rfl (iK 0) (rfl) ?_
  refine nr ?_; intro U h; simp only [z0, z1] at h; subst h
  refine qA ?_
  refine ja 5 rfl rfl (vP g1 0) (jf 56 _ 0 rfl g1 0 rfl 0 (by kernel_rfl)) ?_
  refine ja 6 rfl rfl (.agg (idA x.key)) (ldItk _ rfl g1 rfl (kg1)) ?_
  refine ja 7 rfl rfl (vP g2 0) (jf 56 _ 0 rfl g2 0 rfl 0 (by kernel_rfl)) ?_
  refine ja 8 rfl rfl (.agg (idA y.key)) (ldItk _ rfl g2 rfl (kg2)) ?_
  refine nr ?_; intro U h; simp only [z0, z1] at h; subst h
  refine jy 9 rfl rfl _ 47 Try.call47 rfl rfl _ rfl [.agg (idA x.key), .agg (idA y.key)] rfl (Ys x.key y.key hx.key hy.key _) ?_
  intro w3 G
  replace kg1 := G.has kg1
  replace kg2 := G.has kg2
  replace GG := GG.trans G
  clear G
  refine nr ?_; intro U h; simp only [z0, z1] at h; subst h
  refine ja 4 rfl rfl (iK (cmpN x.key y.key)) (rfl) ?_
  refine nr ?_; intro U h; simp only [z0, z1] at h; subst h
  refine qL (qR ?_)
  refine bodyPost_ret (results_tmp Try.results46 _ _ _) rfl ?_
  exact ⟨rfl, GG⟩
end Go.Proofs.Ytgfnjekpafempaa.D
namespace Go.Proofs.Ytgfnjekpafempaa
open Go.RowKit Go.Shelf Go.Lib Go.Sort
def QP : Go.Shelf.Ren := ⟨fun | 6 => 45 | 15 => 72 | 14 => 71 | 28 => 93 | 29 => 94 | 20 => 85 | 21 => 86 | 22 => 87 | 23 => 88 | 24 => 89 | 25 => 90 | 26 => 91 | 27 => 92 | 46 => 100 | 47 => 101 | 48 => 102 | 49 => 103 | 50 => 104 | 57 => 105 | n => n, fun | 22 => 45 | 24 => 56 | 25 => 105 | 3 => 3 | 39 => 64 | 0 => 0 | 53 => 158 | 55 => 75 | 4 => 4 | 46 => 151 | 45 => 150 | 50 => 155 | 5 => 5 | 9 => 9 | 66 => 164 | 70 => 168 | 76 => 170 | 77 => 171 | n => n, fun | n => n⟩
theorem laySF : Go.Proofs.SlLaysF0.n6 Try.prog QP := { mixed := by kernel_rfl, f6 := ⟨Try.f45.name, by decide, Try.func45.trans (congrArg some (by kernel_rfl))⟩, f14 := ⟨Try.f71.name, by decide, Try.func71.trans (congrArg some (by kernel_rfl))⟩, f15 := Try.func72.trans (congrArg some (by kernel_rfl)), f20 := ⟨Try.f85.name, by decide, Try.func85.trans (congrArg some (by kernel_rfl))⟩, f21 := ⟨Try.f86.name, by decide, Try.func86.trans (congrArg some (by kernel_rfl))⟩, f22 := ⟨Try.f87.name, by decide, Try.func87.trans (congrArg some (by kernel_rfl))⟩, f23 := ⟨Try.f88.name, by decide, Try.func88.trans (congrArg some (by kernel_rfl))⟩, f24 := ⟨Try.f89.name, by decide, Try.func89.trans (congrArg some (by kernel_rfl))⟩, f25 := ⟨Try.f90.name, by decide, Try.func90.trans (congrArg some (by kernel_rfl))⟩, f26 := ⟨Try.f91.name, by decide, Try.func91.trans (congrArg some (by kernel_rfl))⟩, f27 := ⟨Try.f92.name, by decide, Try.func92.trans (congrArg some (by kernel_rfl))⟩, f28 := Try.func93.trans (congrArg some (by kernel_rfl)), f29 := Try.func94.trans (congrArg some (by kernel_rfl)), f46 := ⟨Try.f100.name, by decide, Try.func100.trans (congrArg some (by kernel_rfl))⟩, f47 := Try.func101.trans (congrArg some (by kernel_rfl)), f48 := Try.func102.trans (congrArg some (by kernel_rfl)), f49 := ⟨Try.f103.name, by decide, Try.func103.trans (congrArg some (by kernel_rfl))⟩, f50 := ⟨Try.f104.name, by decide, Try.func104.trans (congrArg some (by kernel_rfl))⟩, f57 := ⟨Try.f105.name, by decide, Try.func105.trans (congrArg some (by kernel_rfl))⟩, t0 := Try.underlying0, a0 := Try.isAgg0, z0 := Try.sizeOf0, v0 := Try.zeroValue0, t3 := Try.underlying3, a3 := Try.isAgg3, z3 := Try.sizeOf3, v3 := Try.zeroValue3, t4 := Try.underlying4, a4 := Try.isAgg4, z4 := Try.sizeOf4, v4 := Try.zeroValue4, t5 := Try.underlying5, a5 := Try.isAgg5, z5 := Try.sizeOf5, v5 := Try.zeroValue5, t9 := Try.underlying9, a9 := Try.isAgg9, z9 := Try.sizeOf9, v9 := Try.zeroValue9, t22 := Try.underlying45, a22 := Try.isAgg45, z22 := Try.sizeOf45, v22 := Try.zeroValue45, t25 := Try.underlying105, a25 := Try.isAgg105, z25 := Try.sizeOf105, v25 := Try.zeroValue105, t39 := Try.underlying64, a39 := Try.isAgg64, z39 := Try.sizeOf64, v39 := Try.zeroValue64, t45 := Try.underlying150, a45 := Try.isAgg150, z45 := Try.sizeOf150, v45 := Try.zeroValue150, t46 := Try.underlying151, a46 := Try.isAgg151, z46 := Try.sizeOf151, v46 := Try.zeroValue151, t50 := Try.underlying155, a50 := Try.isAgg155, z50 := Try.sizeOf155, v50 := Try.zeroValue155, t53 := Try.underlying158, a53 := Try.isAgg158, z53 := Try.sizeOf158, v53 := Try.zeroValue158, t55 := Try.underlying75, a55 := Try.isAgg75, z55 := Try.sizeOf75, v55 := Try.zeroValue75, t66 := Try.underlying164, a66 := Try.isAgg164, z66 := Try.sizeOf164, v66 := Try.zeroValue164, t70 := Try.underlying168, a70 := Try.isAgg168, z70 := Try.sizeOf168, v70 := Try.zeroValue168, t76 := Try.underlying170, a76 := Try.isAgg170, z76 := Try.sizeOf170, v76 := Try.zeroValue170, t77 := Try.underlying171, a77 := Try.isAgg171, z77 := Try.sizeOf171, v77 := Try.zeroValue171 }
def flM (l : List IM) : List Value := l.flatMap itL
theorem ur (l : List IM) : (flM l).length = l.length * 34 := yD ul l
theorem jdt {l : List IM} : ∀ v ∈ flM l, v.oneCell' = true := fun v hv => by
  obtain ⟨n, _, hn⟩ := List.mem_flatMap.1 hv
  exact JV n v hn
def KNi (l : List IM) : Prop := (l.map (·.key)).Nodup
theorem KNi.perm {l m : List IM} (h : KNi l) (p : l.Perm m) : KNi m := (List.Perm.nodup_iff (p.map _)).1 h
def RisI (l : List IM) : Prop := l.Pairwise fun x y => x.key < y.key
section
variable {l : List IM}
def encM (x : {x : IM // x ∈ l}) : List Value := itL x.1
theorem UV (x : {x : IM // x ∈ l}) : itL x.1 = encM x := rfl
def cfM (x y : {x : IM // x ∈ l}) : Int := cmpN x.1.key y.1.key
theorem ltMk (x y : {x : IM // x ∈ l}) : ltOf cfM x y = decide (x.1.key < y.1.key) := by
  unfold ltOf cfM
  rw [decide_eq_decide, jbv]
theorem swoM : @SWO {x : IM // x ∈ l} (ltOf cfM) where
  irrefl x := by rw [ltMk]; simp
  trans x y z h1 h2 := by rw [ltMk] at *; simp at *; omega
  ntrans x y z h1 h2 := by rw [ltMk] at *; simp at *; omega
theorem Vn [Inhabited {x : IM // x ∈ l}] (D : List {x : IM // x ∈ l}) : flatK encM 34 D.toArray = (flM (D.map (fun x => x.1))).toArray := by
  refine ext_get! ?_ fun t ht => ?_
  · rw [size_flatK]
    simp [ur]
  · rw [size_flatK] at ht
    have ht' : t < D.length * 34 := by simpa using ht
    rw [get_flatK _ _ _ _ ht]
    have h1 : t / 34 < D.length := by omega
    have e1 : (D.toArray[t / 34]!) = D[t / 34] := by
      rw [getElem!_pos D.toArray (t / 34) (by simpa using h1)]
      simp
    rw [e1]
    have h2 := Zv ul zM (D.map (fun x => x.1)) (t / 34) (by rw [List.length_map]; exact h1) (t % 34) (Nat.mod_lt _ (by decide))
    have e0 : t / 34 * 34 + t % 34 = t := by omega
    rw [e0] at h2
    have e2 : (D.map (fun x => x.1)).getD (t / 34) zM = D[t / 34].1 := by
      rw [List.getD_eq_getElem?_getD, List.getElem?_map, List.getElem?_eq_getElem h1]
      rfl
    rw [e2] at h2
    clear e1 e2 e0
    generalize D[t / 34] = x at *
    have b1 : t < (flM (D.map (fun x => x.1))).length := by rw [ur, List.length_map]; exact ht'
    have b2 : t % 34 < (encM x).length := by rw [← UV, ul]; exact Nat.mod_lt _ (by decide)
    rw [show (D.map (fun x => x.1)).flatMap itL = flM (D.map (fun x => x.1)) from rfl, List.getElem?_eq_getElem b1, UV x, List.getElem?_eq_getElem b2] at h2
    generalize t % 34 = j at *
    generalize encM x = LL at *
    have b3 : t < (flM (D.map (fun x => x.1))).toArray.size := by rw [List.size_toArray]; exact b1
    rw [getElem!_pos (flM (D.map (fun x => x.1))).toArray t b3, getElem!_pos LL j b2, List.getElem_toArray]
    exact (Option.some.inj h2).symm
end
section
variable {w : World} {g : Nat}
theorem QR {α : Type} [Inhabited α] (enc : α → List Value) (k0 off n : Nat) (d : Array α) (os : Array Obj) (k : Nat) (hk : k < w.heap.size) (hne : k ≠ g) : (sortWorldK enc k0 w g off n d os).heap[k]? = w.heap[k]? := by
  unfold sortWorldK putRowK putRow mapBlock
  rw [heap_grow_old _ _ (by simpa [Sort.ahead] using hk)]
  simp only [Sort.ahead, Array.getElem?_modify]
  rw [if_neg (Ne.symm hne)]
theorem jbd {α : Type} [Inhabited α] (enc : α → List Value) (k0 off n : Nat) (d : Array α) (os : Array Obj) {cur : Array Value} {t : TypeId} (hg : w.heap[g]? = some (.cells cur t (0, 0))) : (sortWorldK enc k0 w g off n d os).heap[g]? = some (.cells (putCells id off (flatK enc k0 d) cur) t (0, 0)) := by
  unfold sortWorldK putRowK putRow mapBlock
  rw [heap_grow_old _ _ (by simpa [Sort.ahead] using ji hg)]
  simp only [Sort.ahead, Array.getElem?_modify, if_true, hg]
  rfl
theorem jaa (off : Nat) (l : List Value) (cur : Array Value) (h : off + l.length ≤ cur.size) : ((putCells id off l.toArray cur).toList.drop off).take l.length = l := by
  apply List.ext_getElem?
  intro k
  rw [List.getElem?_take]
  by_cases hk : k < l.length
  · rw [if_pos hk, List.getElem?_drop, Array.getElem?_toList]
    simp only [putCells, Array.getElem?_mapIdx]
    rw [Array.getElem?_eq_getElem (by omega), Option.map_some, if_pos ⟨by omega, by simpa using hk⟩, List.getElem?_eq_getElem hk]
    congr 1
    rw [id_eq, show off + k - off = k by omega, getElem!_pos l.toArray k (by simpa using hk)]
    simp
  · rw [if_neg hk, List.getElem?_eq_none (by omega)]
theorem jab (off : Nat) (l : Array Value) (cur : Array Value) : (putCells id off l cur).size = cur.size := by simp [putCells]
end
theorem Qh (w : World) (B : Nat) (ao : Option Addr) (cap : Nat) (l : List IM) (H : OW kM 56 w B ao cap l) (kn : KNi l) (hlen : l.length ≤ 1000000) :
    Calls Try.prog 45 #[.slice ao l.length cap, .func (.func 46) #[] #[]] w fun e w' => e = .returned (.tuple #[]) ∧ ∃ S : List IM, S.Perm l ∧ RisI S ∧ GroS (blk ao) w w' ∧ OW kM 56 w' B ao cap S := by
  cases hl0 : l with
  | nil =>
    subst hl0
    have h1 := Go.Proofs.AnyF.slices_SortFunc_none laySF ao cap (.func (.func 46) #[] #[]) w
    change Calls Try.prog 45 _ _ _ at h1
    refine h1.mono ?_
    rintro e w' ⟨he, rfl⟩
    exact ⟨he, [], List.Perm.refl _, by simp [RisI], .refl _ _, H⟩
  | cons x0 r0 =>
  rw [← hl0]
  have hx0 : x0 ∈ l := by rw [hl0]; exact List.mem_cons_self
  have inh : Inhabited {x : IM // x ∈ l} := ⟨⟨x0, hx0⟩⟩
  have hpos : 0 < l.length := by rw [hl0]; simp
  rcases H.own.row with ⟨_, _, h3⟩ | ⟨g, d, cur, rfl, hB, hg, hn, hc, hd, ht⟩
  · omega
  have hlc := ur l
  have hm34 : l.length * 34 ≤ cap * 34 := Nat.mul_le_mul_right _ hn
  have hatt : l.attach.map (fun x => x.1) = l := by simp
  have hsz : l.attach.toArray.size = l.length := by simp
  have eg : ∀ args w, (callFunc 46 args).run Try.prog w = .ok (.enter 46 args) w := Try.call46
  have hH : HoldsK encM 34 w g d l.attach.toArray := by
    intro j hj
    rw [Vn, hatt] at hj ⊢
    have hj' : j < (flM l).length := by simpa using hj
    refine ⟨?_, ?_⟩
    · have := H.own.xc.cell _ rfl j (flM l)[j] (List.getElem?_eq_getElem hj')
      rw [zQ] at this
      rw [this, getElem!_pos (flM l).toArray j (by simpa using hj')]
      simp
    · simp [World.frozen?, hg]
  have hcm : CmpLays Try.prog 46 #[] encM 34 (cfM (l := l)) g d l.attach.toArray.size w := fun M os dk _ x y => by
    have h1 := D.clo_any x.1 y.1 (H.all x.1 x.2) (H.all y.1 y.2) (sortWorldK encM 34 w g d M dk os)
    have e : (#[Value.agg (encM x).toArray, Value.agg (encM y).toArray] ++ #[] : Array Value) = #[.agg (itA x.1), .agg (itA y.1)] := by
      simp [encM, itA]
    rw [e]
    exact h1.mono fun _ _ ⟨he, hG⟩ => ⟨he, hG.grown⟩
  have key := Go.Proofs.AnyQ.slices_SortFunc_total laySF 34 Try.isAgg56 Try.sizeOf56 encM (fun x => ul x.1) (fun x v hv => JV x.1 v hv) (cfM (l := l)) swoM 46 #[] g d cap l.attach.toArray w eg hcm hH (ji hg) (by omega) (fun x y h1 h2 => by
    rw [ltMk] at h1 h2
    simp at h1 h2
    exact Subtype.ext (Jd kn x.2 y.2 (by omega)))
  rw [hsz] at key
  change Calls Try.prog 45 _ _ _ at key
  refine key.mono ?_
  rintro e w' ⟨rfl, n, os, rfl⟩
  have hp := List.mergeSort_perm l.attach (fun x y => !(ltOf cfM) y x)
  have hq := List.pairwise_mergeSort (le := fun x y : {x : IM // x ∈ l} => !(ltOf cfM) y x) (fun a b c h1 h2 => by simp only [ltMk] at *; simp at *; omega) (fun a b => by simp only [ltMk]; simp; omega) l.attach
  generalize l.attach.mergeSort (fun x y => !(ltOf cfM) y x) = E at *
  have hpE : (E.map (fun x => x.1)).Perm l := by
    have := hp.map (fun x => x.1)
    rwa [hatt] at this
  have hlE : (flM (E.map (fun x => x.1))).length = l.length * 34 := by rw [ur, hpE.length_eq]
  refine ⟨rfl, E.map (fun x => x.1), hpE, ?_, ⟨rfl, rfl, rfl, ?_, fun k hk hn => QR encM 34 d n E.toArray os k hk (fun e => hn (mem_blk.2 ⟨_, rfl, e.symm⟩))⟩, ⟨⟨?_, .inr ⟨g, d, _, rfl, hB, jbd encM 34 d n E.toArray os hg, ?_, hc, ?_, ?_⟩, jdt⟩, fun x hx => H.all x (hpE.mem_iff.1 hx)⟩⟩
  · have hkn : KNi (E.map (fun x => x.1)) := kn.perm hpE.symm
    have h2 : (E.map (fun x => x.1)).Pairwise fun x y => x.key ≤ y.key := by
      rw [List.pairwise_map]
      refine List.Pairwise.imp (fun {a b} h => ?_) hq
      rw [ltMk] at h
      simpa using h
    have h3 := hkn
    unfold KNi at h3
    rw [List.nodup_iff_pairwise_ne, List.pairwise_map] at h3
    unfold RisI
    refine List.Pairwise.imp (fun {a b} h => ?_) (h2.and h3)
    have := h.2
    have h1 := h.1
    have hne : a.key ≠ b.key := this
    omega
  · unfold sortWorldK putRowK putRow mapBlock
    simp [Sort.ahead]
  · exact ur _
  · rw [hpE.length_eq]; exact hn
  · rw [jab]; exact hd
  · have hd2 : d + cap * 34 ≤ cur.size := hd
    have hz := jaa d (flM (E.map (fun x => x.1))) cur (by rw [hlE]; omega)
    rw [ur] at hz
    rw [Vn]
    exact hz
end Go.Proofs.Ytgfnjekpafempaa
