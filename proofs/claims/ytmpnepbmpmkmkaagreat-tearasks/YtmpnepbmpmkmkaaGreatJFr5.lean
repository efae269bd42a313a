/- The examples; a nil table; what is asked of keys and entries. -/
import Derived.Test.YtmpnepbmpmkmkaaGreatJP11
import Derived.Test.YtmpnepbmpmkmkaaGreatJW6
import Derived.Test.YtmpnepbmpmkmkaaGreatJI1
import Derived.Test.YtmpnepbmpmkmkaaGreatRows
import Derived.Test.YtmpnepbmpmkmkaaGreatJB4
import Derived.ProofKit
import Derived.OpenShut
import Derived.SizedLaws
import Derived.JoinedCond
import Derived.Test.YtmpnepbmpmkmkaaGreatJQ0
namespace Go.Proofs.YtmpnepbmpmkmkaaGreat
open Go.RowKit Go.Maps
section
variable {w w' : World} {ao : Option Addr} {cap : Nat} {l L : List En} {B b : Nat}
theorem TM.cell (h : TM w b L) {ad : Addr} {v : Value} (hc : w.cell? ad = some v) : ad.block ≠ b := fun e => by
  obtain ⟨Y, c, h⟩ := h
  have := h.at_
  rw [← e] at this
  simp [World.cell?, this] at hc
theorem RE.mapw (h : RE w ao cap l) (HT : TM w b L) (G : GroS [b] w w') : RE w' ao cap l := h.gros G fun ad ha h0 => by
  have := h.xc.cell ad ha 0 (flE l)[0] (List.getElem?_eq_getElem h0)
  have h1 := HT.cell this
  rw [add_block] at h1
  simpa using h1
theorem RQ.gros {S : List Nat} {l : List Oq} (h : RQ w ao cap l) (G : GroS S w w') (hs : ∀ ad, ao = some ad → 0 < (flO l).length → ad.block ∉ S) : RQ w' ao cap l :=
  ⟨⟨h.xc.len, h.xc.fit, h.xc.bare, fun ad ha j v hv => by
    have h0 : 0 < (flO l).length := by have := (List.getElem?_eq_some_iff.1 hv).1; omega
    exact (World.cell?_of_block (by rw [add_block]; exact G.old _ (h.lt ad ha h0) (hs ad ha h0))).trans (h.xc.cell ad ha j v hv), h.xc.one⟩, h.all⟩
theorem RQ.mapw {l : List Oq} (h : RQ w ao cap l) (HT : TM w b L) (G : GroS [b] w w') : RQ w' ao cap l := h.gros G fun ad ha h0 => by
  have := h.xc.cell ad ha 0 (flO l)[0] (List.getElem?_eq_getElem h0)
  have h1 := HT.cell this
  rw [add_block] at h1
  simpa using h1
theorem OE.mapw (h : OE w B ao cap l) (HT : TM w b L) (G : GroS [b] w w') : OE w' B ao cap l := h.gros G fun k hk hm => by
  obtain ⟨_, cur, hc⟩ := h.own.at k hk
  exact HT.nec hc (by simpa using hm)
end
theorem othI_ok {x : En} (hx : x.ok) : othI x < top := by
  unfold othI
  split
  · exact hx.b
  · exact hx.a
/-- The chapter's example. -/
def x1 : En := ⟨⟨0, 1⟩, 0, 1329227995784915872903807060280344576, -1, 2⟩
end Go.Proofs.YtmpnepbmpmkmkaaGreat
namespace Go.Proofs.YtmpnepbmpmkmkaaGreat
open Go.RowKit Go.Maps
abbrev ownL (L : List En) : List En := L.filter ownF
def frdL (L : List En) (s : Nat) : List Nat := lin (kc 0) s ((ownL L).map othI)
def sprL (L : List En) (s : Nat) (half : Int) : List Pa := ((ownL L).filter fun x => !decide (othI x ∈ want s (frdL L s) half)).map (·.p)
/-- Twins among the first ones. -/
def twT (l : List En) : Nat → List Pa
  | 0 => []
  | i + 1 => twT l i ++ if decide (othI (l.getD i zE) ∈ (l.take i).map othI) = true then [(l.getD i zE).p] else []
def twnL (L : List En) : List Pa := twT (ownL L) (ownL L).length
def fstE (L : List En) (i : Nat) : Option En := (ownL L).find? fun x => decide (othI x = i)
/-- No two own ones lead to the same end; none leads home. -/
def Dst (M : List En) : Prop := ∀ x ∈ M, ∀ y ∈ M, ownF x = true → ownF y = true → othI x = othI y → x = y
def NoS (s : Nat) (M : List En) : Prop := ∀ x ∈ M, ownF x = true → othI x ≠ s
def Sub (M L : List En) : Prop := ∀ x ∈ M, x ∈ L
section
variable {L M N : List En} {x y : En} {s : Nat} {p : Pa}
theorem ownL_mem : x ∈ ownL L ↔ x ∈ L ∧ ownF x = true := List.mem_filter
theorem Sub.refl (L : List En) : Sub L L := fun _ h => h
theorem Sub.trans (h : Sub M L) (k : Sub N M) : Sub N L := fun x hx => h x (k x hx)
theorem Dst.sub (h : Dst L) (k : Sub M L) : Dst M := fun x hx y hy => h x (k x hx) y (k y hy)
theorem NoS.sub (h : NoS s L) (k : Sub M L) : NoS s M := fun x hx => h x (k x hx)
/-! ### Twins -/
/-! ### The end -/
end
end Go.Proofs.YtmpnepbmpmkmkaaGreat
namespace Go.Proofs.YtmpnepbmpmkmkaaGreat
open Go.ChangeShapes Go.WideShapes Go.ChangeAt Go.RowKit
theorem Tryz.own : ownKnob Tryz.prog.godebug = none := by kernel_rfl
theorem Tryz.laidOut : laidOutB Tryz.prog = true := by kernel_rfl
theorem cells24 : Tryz.prog.cellsOf 24 = 16 := by kernel_rfl
theorem cells5 : Tryz.prog.cellsOf 5 = 1 := by kernel_rfl
theorem num_of (f : Nat → Nat) (hf : ∀ i, f i < 256) : ∀ k, ∃ n, n < 256 ^ k ∧ ∀ i, i < k → n / 256 ^ (k - 1 - i) % 256 = f i := by
  intro k
  induction k with
  | zero => exact ⟨0, by decide, fun i hi => by omega⟩
  | succ k ih =>
    obtain ⟨n, h1, h2⟩ := ih
    have hk := hf k
    refine ⟨n * 256 + f k, ?_, fun i hi => ?_⟩
    · rw [Nat.pow_succ]; omega
    · by_cases e : i = k
      · subst e
        have : i + 1 - 1 - i = 0 := by omega
        rw [this, Nat.pow_zero, Nat.div_one]
        omega
      · have h3 := h2 i (by omega)
        have : k + 1 - 1 - i = (k - 1 - i) + 1 := by omega
        rw [this, Nat.pow_succ, Nat.mul_comm (256 ^ (k - 1 - i)) 256, ← Nat.div_div_eq_div_mul]
        have : (n * 256 + f k) / 256 = n := by omega
        rw [this]
        exact h3
theorem num_of16 (f : Nat → Nat) (hf : ∀ i, f i < 256) : ∃ n, n < top ∧ ∀ i, i < 16 → byt n i = f i := by
  obtain ⟨n, h1, h2⟩ := num_of f hf 16
  exact ⟨n, h1, fun i hi => h2 i hi⟩
/-- Sixteen bytes are an identity. -/
theorem id_of_cells (cs : Array Value) (hs : cs.size = 16) (h : ∀ i, i < 16 → ∃ z : Int, cs[i]? = some (.int .u8 z) ∧ 0 ≤ z ∧ z ≤ 255) : ∃ n, n < top ∧ cs = idA n := by
  have h' : ∀ i, ∃ m : Nat, m < 256 ∧ (i < 16 → cs[i]? = some (.int .u8 (m : Int))) := by
    intro i
    by_cases hi : i < 16
    · obtain ⟨z, h1, h2, h3⟩ := h i hi
      exact ⟨z.toNat, by omega, fun _ => by rw [h1, Int.toNat_of_nonneg h2]⟩
    · exact ⟨0, by omega, fun h => absurd h hi⟩
  obtain ⟨f, hf⟩ := Classical.axiomOfChoice h'
  obtain ⟨n, hn, hb⟩ := num_of16 f (fun i => (hf i).1)
  refine ⟨n, hn, ?_⟩
  apply Array.ext_getElem?
  intro i
  by_cases hi : i < 16
  · rw [idA_get n i hi, hb i hi]; exact (hf i).2 hi
  · rw [Array.getElem?_eq_none (by omega), Array.getElem?_eq_none (by rw [idA_size]; omega)]
section
variable {H : Type} {enc : TypeId × Value → H} {w : World} {base : Nat} {spare : Nat → Bool} {held : Bool}
theorem id_of_trod {fuel : Nat} {l : List Value} {x : DataW H × List MemPlace} (h : DataW.trod enc Tryz.prog w base spare held fuel 24 l = some x) : ∃ n, n < top ∧ l = (idA n).toList := by
  obtain ⟨xs, m, _, _, hl, hx, he⟩ := DataW.trod_array Tryz.underlying24 h
  rw [cells24] at hl
  have := id_of_cells l.toArray (by simpa using hl) fun i hi => by
    have h1 := he i hi
    rw [List.getElem?_eq_getElem (by omega)] at h1
    obtain ⟨n, h2, _, h3⟩ := DataW.trod_int Tryz.underlying5 h1
    rw [cells5, Nat.mul_one] at h2
    refine ⟨n, ?_, ?_⟩
    · have h4 : (List.take 1 (List.drop i l))[0]? = some (.int .u8 n) := by rw [h2]; rfl
      rw [List.getElem?_take] at h4
      simpa using h4
    · have e1 : IntKind.u8.min = 0 := rfl
      have e2 : IntKind.u8.max = 255 := rfl
      simpa [Lit.wf, e1, e2] using h3
  obtain ⟨n, hn, hh⟩ := this
  exact ⟨n, hn, by rw [← hh]⟩
end
end Go.Proofs.YtmpnepbmpmkmkaaGreat
namespace Go.Proofs.YtmpnepbmpmkmkaaGreat
open Go.ChangeShapes Go.WideShapes Go.ChangeAt Go.RowKit
theorem cells3 : Tryz.prog.cellsOf 3 = 1 := by kernel_rfl
structure IC (w : World) (ao : Option Addr) (cap : Nat) (xs : List Int) : Prop where
  fit : xs.length ≤ cap
  bare : ao = none → cap = 0
  cell : ∀ ad, ao = some ad → ∀ j, j < xs.length → w.cell? (ad.add j) = some (.int .i64 (xs.getD j 0))
theorem IC.at {w : World} {ao : Option Addr} {cap : Nat} {xs : List Int} (h : IC w ao cap xs) {j : Nat} (hj : j < xs.length) : ∃ ad, ao = some ad ∧ w.cell? (ad.add j) = some (.int .i64 (xs.getD j 0)) := by
  cases hao : ao with
  | none => have := h.bare hao; have := h.fit; omega
  | some ad => exact ⟨ad, rfl, h.cell ad hao j hj⟩
end Go.Proofs.YtmpnepbmpmkmkaaGreat
