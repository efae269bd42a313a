/- The examples; a nil table; what is asked of keys and entries. -/
import Derived.Test.YtmpnepbmpmkmkaaGreatHP11
import Derived.Test.YtmpnepbmpmkmkaaGreatHW6
import Derived.Test.YtmpnepbmpmkmkaaGreatHI1
import Derived.Test.YtmpnepbmpmkmkaaGreatRows
import Derived.Test.YtmpnepbmpmkmkaaGreatHB4
import Derived.ProofKit
import Derived.OpenShut
import Derived.SizedLaws
import Derived.JoinedCond
import Derived.Test.YtmpnepbmpmkmkaaGreatHQ0
namespace Go.Proofs.YtmpnepbmpmkmkaaGreat
open Go.RowKit Go.Maps
section
variable {w w' : World} {ao : Option Addr} {cap : Nat} {l L : List En} {B b : Nat}
theorem TM.cell (h : TM w b L) {ad : Addr} {v : Value} (hc : w.cell? ad = some v) : ad.block ≠ b := fun e => by
  obtain ⟨Y, c, h⟩ := h
  have := h.at_
  rw [← e] at this
  simp [World.cell?, this] at hc
theorem RE.mapw (h : RE w ao cap l) (HT : TM w b L) (G : GroS [b] w w') : RE w' ao cap l := h.gros G fun ad ha h0 => by
  have := h.xc.cell ad ha 0 (flE l)[0] (List.getElem?_eq_getElem h0)
  have h1 := HT.cell this
  rw [add_block] at h1
  simpa using h1
theorem RQ.gros {S : List Nat} {l : List Oq} (h : RQ w ao cap l) (G : GroS S w w') (hs : ∀ ad, ao = some ad → 0 < (flO l).length → ad.block ∉ S) : RQ w' ao cap l :=
  ⟨⟨h.xc.len, h.xc.fit, h.xc.bare, fun ad ha j v hv => by
    have h0 : 0 < (flO l).length := by have := (List.getElem?_eq_some_iff.1 hv).1; omega
    exact (World.cell?_of_block (by rw [add_block]; exact G.old _ (h.lt ad ha h0) (hs ad ha h0))).trans (h.xc.cell ad ha j v hv), h.xc.one⟩, h.all⟩
theorem RQ.mapw {l : List Oq} (h : RQ w ao cap l) (HT : TM w b L) (G : GroS [b] w w') : RQ w' ao cap l := h.gros G fun ad ha h0 => by
  have := h.xc.cell ad ha 0 (flO l)[0] (List.getElem?_eq_getElem h0)
  have h1 := HT.cell this
  rw [add_block] at h1
  simpa using h1
theorem OE.mapw (h : OE w B ao cap l) (HT : TM w b L) (G : GroS [b] w w') : OE w' B ao cap l := h.gros G fun k hk hm => by
  obtain ⟨_, cur, hc⟩ := h.own.at k hk
  exact HT.nec hc (by simpa using hm)
end
theorem othI_ok {x : En} (hx : x.ok) : othI x < top := by
  unfold othI
  split
  · exact hx.b
  · exact hx.a
/-- The chapter's example. -/
def x1 : En := ⟨⟨0, 1⟩, 0, 1329227995784915872903807060280344576, -1, 2⟩
end Go.Proofs.YtmpnepbmpmkmkaaGreat
namespace Go.Proofs.YtmpnepbmpmkmkaaGreat
open Go.RowKit Go.Maps
abbrev ownL (L : List En) : List En := L.filter ownF
def frdL (L : List En) (s : Nat) : List Nat := lin (kc 0) s ((ownL L).map othI)
def sprL (L : List En) (s : Nat) (half : Int) : List Pa := ((ownL L).filter fun x => !decide (othI x ∈ want s (frdL L s) half)).map (·.p)
/-- Twins among the first ones. -/
def twT (l : List En) : Nat → List Pa
  | 0 => []
  | i + 1 => twT l i ++ if decide (othI (l.getD i zE) ∈ (l.take i).map othI) = true then [(l.getD i zE).p] else []
def twnL (L : List En) : List Pa := twT (ownL L) (ownL L).length
/-- No two own ones lead to the same end; none leads home. -/
def Dst (M : List En) : Prop := ∀ x ∈ M, ∀ y ∈ M, ownF x = true → ownF y = true → othI x = othI y → x = y
def NoS (s : Nat) (M : List En) : Prop := ∀ x ∈ M, ownF x = true → othI x ≠ s
def Sub (M L : List En) : Prop := ∀ x ∈ M, x ∈ L
section
variable {L M N : List En} {x y : En} {s : Nat} {p : Pa}
theorem ownL_mem : x ∈ ownL L ↔ x ∈ L ∧ ownF x = true := List.mem_filter
theorem Sub.refl (L : List En) : Sub L L := fun _ h => h
theorem Sub.trans (h : Sub M L) (k : Sub N M) : Sub N L := fun x hx => h x (k x hx)
theorem Dst.sub (h : Dst L) (k : Sub M L) : Dst M := fun x hx y hy => h x (k x hx) y (k y hy)
theorem NoS.sub (h : NoS s L) (k : Sub M L) : NoS s M := fun x hx => h x (k x hx)
theorem del_sub (p : Pa) (L : List En) : Sub (delL p L) L := fun _ hx => (delL_mem.1 hx).1
theorem endL_sub (L : List En) (p : Pa) : Sub (endL L p) L := by
  unfold endL
  split
  · exact del_sub p L
  · exact Sub.refl L
theorem oth_all (h : AllE L) : All ((ownL L).map othI) := fun i hi => by
  obtain ⟨x, hx, rfl⟩ := List.mem_map.1 hi
  exact othI_ok (h x (ownL_mem.1 hx).1)
theorem frd_ris (h : AllE L) (s : Nat) : Risi (kc 0) (frdL L s) := lin_ris (kc_inj top_0) (oth_all h)
theorem frd_mem (h : AllE L) (s i : Nat) : i ∈ frdL L s ↔ i ∈ (ownL L).map othI ∧ i ≠ s := lin_mem (kc_inj top_0) (oth_all h) i
theorem frd_all (h : AllE L) (s : Nat) : All (frdL L s) := lin_all (kc_inj top_0) (oth_all h)
theorem ends_of (hk : KN M) (hx : x ∈ M) (ho : ownF x = true) : ends M x.p = true ∧ getV M x.p = x := by
  have h := getL_mem hk hx
  have hg : getV M x.p = x := by unfold getV; rw [h]; rfl
  have hh : hasL M x.p = true := by unfold hasL; rw [h]; rfl
  refine ⟨?_, hg⟩
  unfold ends
  rw [hg, hh, ho]
  rfl
/-- An own one that is ended is gone. -/
theorem endL_gone (hk : KN M) (ho : ∀ x ∈ M, x.p = p → ownF x = true) (hx : x ∈ endL M p) : x ∈ M ∧ x.p ≠ p := by
  have hm := endL_sub M p x hx
  refine ⟨hm, fun e => ?_⟩
  subst e
  have he := (ends_of hk hm (ho x hm rfl)).1
  unfold endL at hx
  rw [if_pos he] at hx
  exact (delL_mem.1 hx).2 rfl
theorem endL_len (hk : KN M) (hx : x ∈ M) (ho : ownF x = true) : (ownL (endL M x.p)).length + 1 = (ownL M).length := by
  unfold endL
  rw [if_pos (ends_of hk hx ho).1]
  have h1 : ownL (delL x.p M) = delL x.p (ownL M) := by
    unfold ownL delL
    rw [List.filter_filter, List.filter_filter]
    congr 1
    funext z
    exact Bool.and_comm _ _
  rw [h1]
  exact delL_len (l := ownL M) (hk.filter _) (ownL_mem.2 ⟨hx, ho⟩)
theorem TI.endp {room : Nat} (h : TI room M) (p : Pa) : TI room (endL M p) := by
  unfold endL
  split
  · exact h.del p
  · exact h
/-! ### Twins -/
theorem tw_mem (l : List En) : ∀ (n : Nat), n ≤ l.length → ∀ p, p ∈ twT l n ↔ ∃ j, j < n ∧ othI (l.getD j zE) ∈ (l.take j).map othI ∧ p = (l.getD j zE).p
  | 0, _, p => by
    constructor
    · intro h; cases h
    · rintro ⟨j, hj, _⟩; omega
  | n + 1, hn, p => by
    show p ∈ twT l n ++ _ ↔ _
    rw [List.mem_append, tw_mem l n (by omega)]
    constructor
    · rintro (⟨j, hj, h⟩ | h)
      · exact ⟨j, by omega, h⟩
      · split at h
        · rename_i h1
          exact ⟨n, by omega, of_decide_eq_true h1, List.mem_singleton.1 h⟩
        · cases h
    · rintro ⟨j, hj, h1, h2⟩
      by_cases e : j = n
      · subst e
        refine .inr ?_
        rw [if_pos (decide_eq_true h1)]
        exact List.mem_singleton.2 h2
      · exact .inl ⟨j, by omega, h1, h2⟩
theorem getD_at {l : List En} {j : Nat} (hj : j < l.length) : l.getD j zE = l[j] := by simp [List.getD_eq_getElem?_getD, hj]
/-- Twins are own. -/
theorem twn_own (h : p ∈ twnL L) : ∃ x ∈ L, ownF x = true ∧ x.p = p := by
  obtain ⟨j, hj, _, e⟩ := (tw_mem (ownL L) _ (Nat.le_refl _) p).1 h
  have hm : (ownL L).getD j zE ∈ ownL L := by rw [getD_at hj]; exact List.getElem_mem hj
  obtain ⟨h1, h2⟩ := ownL_mem.1 hm
  exact ⟨_, h1, h2, e.symm⟩
/-- Without twins no two lead to the same end. -/
theorem twn_dst (hs : Sub M L) (ht : ∀ x ∈ M, x.p ∉ twnL L) : Dst M := by
  intro x hx y hy ox oy e
  obtain ⟨i, hi, ei⟩ := List.getElem_of_mem (ownL_mem.2 ⟨hs x hx, ox⟩)
  obtain ⟨j, hj, ej⟩ := List.getElem_of_mem (ownL_mem.2 ⟨hs y hy, oy⟩)
  have key : ∀ (a b : Nat) (ha : a < (ownL L).length) (hb : b < (ownL L).length), a < b → othI (ownL L)[a] = othI (ownL L)[b] → (ownL L)[b].p ∈ twnL L := by
    intro a b ha hb hab e2
    refine (tw_mem (ownL L) _ (Nat.le_refl _) _).2 ⟨b, hb, ?_, by rw [getD_at hb]⟩
    rw [getD_at hb, ← e2]
    refine List.mem_map.2 ⟨(ownL L)[a], ?_, rfl⟩
    rw [List.mem_take_iff_getElem]
    exact ⟨a, by omega, rfl⟩
  rcases Nat.lt_trichotomy i j with h | h | h
  · exact absurd (ej ▸ key i j hi hj h (by rw [ei, ej]; exact e)) (ht y hy)
  · subst h
    rw [← ei, ← ej]
  · exact absurd (ei ▸ key j i hj hi h (by rw [ei, ej]; exact e.symm)) (ht x hx)
/-- No two lead to the same end: no twins. -/
theorem dst_twn (hk : KN M) (hd : Dst M) : twnL M = [] := by
  rw [List.eq_nil_iff_forall_not_mem]
  intro p hp
  obtain ⟨j, hj, h1, _⟩ := (tw_mem (ownL M) _ (Nat.le_refl _) p).1 hp
  obtain ⟨x, hx, e⟩ := List.mem_map.1 h1
  obtain ⟨i, hi, ei⟩ := List.mem_take_iff_getElem.1 hx
  have hij : i < j := by omega
  have hil : i < (ownL M).length := by omega
  rw [getD_at hj] at e
  have m1 := ownL_mem.1 (List.getElem_mem hil)
  have m2 := ownL_mem.1 (List.getElem_mem hj)
  have e2 := hd _ m1.1 _ m2.1 m1.2 m2.2 (by rw [← e, ← ei])
  have hn : (ownL M).Nodup := KN.nodup (hk.filter ownF)
  exact absurd e2 (List.pairwise_iff_getElem.1 hn i j hil hj hij)
/-! ### The end -/
theorem dst_len (ha : AllE M) (hk : KN M) (hd : Dst M) (hs : NoS s M) : (ownL M).length = (frdL M s).length := by
  have hn : (ownL M).Nodup := KN.nodup (hk.filter ownF)
  have h1 : ((ownL M).map othI).Nodup := by
    unfold List.Nodup
    rw [List.pairwise_map]
    exact List.Pairwise.imp_of_mem (fun {a b} ma mb hne e => hne (hd a (ownL_mem.1 ma).1 b (ownL_mem.1 mb).1 (ownL_mem.1 ma).2 (ownL_mem.1 mb).2 e)) hn
  have h2 : ((ownL M).map othI).Perm (frdL M s) := (List.perm_ext_iff_of_nodup h1 (frd_ris ha s).nodup).2 fun i => by
    rw [frd_mem ha]
    refine ⟨fun h => ⟨h, fun e => ?_⟩, fun h => h.1⟩
    obtain ⟨x, hx, e2⟩ := List.mem_map.1 h
    exact hs x (ownL_mem.1 hx).1 (ownL_mem.1 hx).2 (e2.trans e)
  rw [← h2.length_eq, List.length_map]
theorem lin_same {l : List Nat} {s : Nat} (h : Risi (kc 0) l) (ha : All l) (hs : s ∉ l) : lin (kc 0) s l = l :=
  (lin_eq (kc_inj top_0) ha h fun x => ⟨fun hx => ⟨hx, fun e => hs (by rw [← e]; exact hx)⟩, fun hx => hx.1⟩).symm
theorem spr_want {half : Int} (ha : AllE M) (h : sprL M s half = []) : want s (frdL M s) half = frdL M s := by
  have hF := frd_all ha s
  have hns : s ∉ frdL M s := fun hm => ((frd_mem ha s s).1 hm).2 rfl
  have hl := lin_same (frd_ris ha s) hF hns
  unfold sprL at h
  rw [List.map_eq_nil_iff, List.filter_eq_nil_iff] at h
  have hw : ∀ i ∈ frdL M s, i ∈ want s (frdL M s) half := fun i hi => by
    obtain ⟨h1, _⟩ := (frd_mem ha s i).1 hi
    obtain ⟨x, hx, e⟩ := List.mem_map.1 h1
    have := h x hx
    subst e
    simpa using this
  have e0 : want s (frdL M s) half = (frdL M s).filter (isW s (lin (kc 0) s (frdL M s)) half) := by
    show (lin (kc 0) s (frdL M s)).filter (isW s (lin (kc 0) s (frdL M s)) half) = _
    rw [hl]
  rw [e0, List.filter_eq_self]
  intro i hi
  exact ((want_mem hF half i).1 (hw i hi)).2
theorem spr_own {half : Int} (h : p ∈ sprL M s half) : ∃ x ∈ M, ownF x = true ∧ x.p = p := by
  obtain ⟨x, hx, e⟩ := List.mem_map.1 h
  obtain ⟨h1, h2⟩ := ownL_mem.1 (List.mem_filter.1 hx).1
  exact ⟨x, h1, h2, e⟩
end
end Go.Proofs.YtmpnepbmpmkmkaaGreat
namespace Go.Proofs.YtmpnepbmpmkmkaaGreat
open Go.ChangeShapes Go.WideShapes Go.ChangeAt Go.RowKit
theorem Tryz.own : ownKnob Tryz.prog.godebug = none := by kernel_rfl
theorem Tryz.laidOut : laidOutB Tryz.prog = true := by kernel_rfl
theorem cells24 : Tryz.prog.cellsOf 24 = 16 := by kernel_rfl
theorem cells5 : Tryz.prog.cellsOf 5 = 1 := by kernel_rfl
theorem num_of (f : Nat → Nat) (hf : ∀ i, f i < 256) : ∀ k, ∃ n, n < 256 ^ k ∧ ∀ i, i < k → n / 256 ^ (k - 1 - i) % 256 = f i := by
  intro k
  induction k with
  | zero => exact ⟨0, by decide, fun i hi => by omega⟩
  | succ k ih =>
    obtain ⟨n, h1, h2⟩ := ih
    have hk := hf k
    refine ⟨n * 256 + f k, ?_, fun i hi => ?_⟩
    · rw [Nat.pow_succ]; omega
    · by_cases e : i = k
      · subst e
        have : i + 1 - 1 - i = 0 := by omega
        rw [this, Nat.pow_zero, Nat.div_one]
        omega
      · have h3 := h2 i (by omega)
        have : k + 1 - 1 - i = (k - 1 - i) + 1 := by omega
        rw [this, Nat.pow_succ, Nat.mul_comm (256 ^ (k - 1 - i)) 256, ← Nat.div_div_eq_div_mul]
        have : (n * 256 + f k) / 256 = n := by omega
        rw [this]
        exact h3
theorem num_of16 (f : Nat → Nat) (hf : ∀ i, f i < 256) : ∃ n, n < top ∧ ∀ i, i < 16 → byt n i = f i := by
  obtain ⟨n, h1, h2⟩ := num_of f hf 16
  exact ⟨n, h1, fun i hi => h2 i hi⟩
/-- Sixteen bytes are an identity. -/
theorem id_of_cells (cs : Array Value) (hs : cs.size = 16) (h : ∀ i, i < 16 → ∃ z : Int, cs[i]? = some (.int .u8 z) ∧ 0 ≤ z ∧ z ≤ 255) : ∃ n, n < top ∧ cs = idA n := by
  have h' : ∀ i, ∃ m : Nat, m < 256 ∧ (i < 16 → cs[i]? = some (.int .u8 (m : Int))) := by
    intro i
    by_cases hi : i < 16
    · obtain ⟨z, h1, h2, h3⟩ := h i hi
      exact ⟨z.toNat, by omega, fun _ => by rw [h1, Int.toNat_of_nonneg h2]⟩
    · exact ⟨0, by omega, fun h => absurd h hi⟩
  obtain ⟨f, hf⟩ := Classical.axiomOfChoice h'
  obtain ⟨n, hn, hb⟩ := num_of16 f (fun i => (hf i).1)
  refine ⟨n, hn, ?_⟩
  apply Array.ext_getElem?
  intro i
  by_cases hi : i < 16
  · rw [idA_get n i hi, hb i hi]; exact (hf i).2 hi
  · rw [Array.getElem?_eq_none (by omega), Array.getElem?_eq_none (by rw [idA_size]; omega)]
section
variable {H : Type} {enc : TypeId × Value → H} {w : World} {base : Nat} {spare : Nat → Bool} {held : Bool}
theorem id_of_trod {fuel : Nat} {l : List Value} {x : DataW H × List MemPlace} (h : DataW.trod enc Tryz.prog w base spare held fuel 24 l = some x) : ∃ n, n < top ∧ l = (idA n).toList := by
  obtain ⟨xs, m, _, _, hl, hx, he⟩ := DataW.trod_array Tryz.underlying24 h
  rw [cells24] at hl
  have := id_of_cells l.toArray (by simpa using hl) fun i hi => by
    have h1 := he i hi
    rw [List.getElem?_eq_getElem (by omega)] at h1
    obtain ⟨n, h2, _, h3⟩ := DataW.trod_int Tryz.underlying5 h1
    rw [cells5, Nat.mul_one] at h2
    refine ⟨n, ?_, ?_⟩
    · have h4 : (List.take 1 (List.drop i l))[0]? = some (.int .u8 n) := by rw [h2]; rfl
      rw [List.getElem?_take] at h4
      simpa using h4
    · have e1 : IntKind.u8.min = 0 := rfl
      have e2 : IntKind.u8.max = 255 := rfl
      simpa [Lit.wf, e1, e2] using h3
  obtain ⟨n, hn, hh⟩ := this
  exact ⟨n, hn, by rw [← hh]⟩
set_option maxRecDepth 100000 in
theorem open_id {r : Reach} {b0 : Nat} {v : Value} {d : DataW H} {ps : List MemPlace} (hval : Value.okWide Tryz.prog w r b0 24 v) (hd : DataW.Trod enc Tryz.prog w base spare held 24 v d ps) : ∃ n, n < top ∧ v = idV n := by
  have hu := Tryz.underlying24
  simp only [Value.okWide, hu] at hval
  obtain ⟨cs, rfl, _, _⟩ := hval
  obtain ⟨fuel, hf⟩ := hd
  obtain ⟨n, hn, hh⟩ := id_of_trod hf
  refine ⟨n, hn, ?_⟩
  unfold idV
  have : cs.toList = (idA n).toList := hh
  rw [Array.toList_inj.1 this]
end
end Go.Proofs.YtmpnepbmpmkmkaaGreat
namespace Go.Proofs.YtmpnepbmpmkmkaaGreat
open Go.ChangeShapes Go.WideShapes Go.ChangeAt Go.RowKit
theorem cells3 : Tryz.prog.cellsOf 3 = 1 := by kernel_rfl
structure IC (w : World) (ao : Option Addr) (cap : Nat) (xs : List Int) : Prop where
  fit : xs.length ≤ cap
  bare : ao = none → cap = 0
  cell : ∀ ad, ao = some ad → ∀ j, j < xs.length → w.cell? (ad.add j) = some (.int .i64 (xs.getD j 0))
theorem IC.at {w : World} {ao : Option Addr} {cap : Nat} {xs : List Int} (h : IC w ao cap xs) {j : Nat} (hj : j < xs.length) : ∃ ad, ao = some ad ∧ w.cell? (ad.add j) = some (.int .i64 (xs.getD j 0)) := by
  cases hao : ao with
  | none => have := h.bare hao; have := h.fit; omega
  | some ad => exact ⟨ad, rfl, h.cell ad hao j hj⟩
end Go.Proofs.YtmpnepbmpmkmkaaGreat
