import Derived.Test.YtgfnjekpafempaaGreatRows
import Derived.Test.YtgfnjekpafempaaGreatBB2
import Derived.ProofKit
import Derived.OpenShut
import Derived.Test.YtgfnjekpafempaaGreatBX1
import Derived.SizedLaws
import Derived.JoinedCond
import Derived.Test.YtgfnjekpafempaaGreatBQ0
import Derived.Test.YtgfnjekpafempaaGreatBV1
namespace Go.Proofs.YtgfnjekpafempaaGreat
open Go.Proofs.Tryz
open Go.ChangeShapes Go.WideShapes Go.ChangeAt Go.RowKit
theorem Tryz.own : ownKnob Tryz.prog.godebug = none := by kernel_rfl
theorem Tryz.laidOut : laidOutB Tryz.prog = true := by kernel_rfl
theorem cells38 : Tryz.prog.cellsOf 38 = 16 := by kernel_rfl
theorem cells5 : Tryz.prog.cellsOf 5 = 1 := by kernel_rfl
theorem num_of (f : Nat → Nat) (hf : ∀ i, f i < 256) : ∀ k, ∃ n, n < 256 ^ k ∧ ∀ i, i < k → n / 256 ^ (k - 1 - i) % 256 = f i := by
  intro k
  induction k with
  | zero => exact ⟨0, by decide, fun i hi => by omega⟩
  | succ k ih =>
    obtain ⟨n, h1, h2⟩ := ih
    have hk := hf k
    refine ⟨n * 256 + f k, ?_, fun i hi => ?_⟩
    · rw [Nat.pow_succ]; omega
    · by_cases e : i = k
      · subst e
        have : i + 1 - 1 - i = 0 := by omega
        rw [this, Nat.pow_zero, Nat.div_one]
        omega
      · have h3 := h2 i (by omega)
        have : k + 1 - 1 - i = (k - 1 - i) + 1 := by omega
        rw [this, Nat.pow_succ, Nat.mul_comm (256 ^ (k - 1 - i)) 256, ← Nat.div_div_eq_div_mul]
        have : (n * 256 + f k) / 256 = n := by omega
        rw [this]
        exact h3
theorem jdp (f : Nat → Nat) (hf : ∀ i, f i < 256) : ∃ n, n < top ∧ ∀ i, i < 16 → byt n i = f i := by
  obtain ⟨n, h1, h2⟩ := num_of f hf 16
  exact ⟨n, h1, fun i hi => h2 i hi⟩
theorem Uu (cs : Array Value) (hs : cs.size = 16) (h : ∀ i, i < 16 → ∃ z : Int, cs[i]? = some (.int .u8 z) ∧ 0 ≤ z ∧ z ≤ 255) : ∃ n, n < top ∧ cs = idA n := by
  have h' : ∀ i, ∃ m : Nat, m < 256 ∧ (i < 16 → cs[i]? = some (.int .u8 (m : Int))) := by
    intro i
    by_cases hi : i < 16
    · obtain ⟨z, h1, h2, h3⟩ := h i hi
      exact ⟨z.toNat, by omega, fun _ => by rw [h1, Int.toNat_of_nonneg h2]⟩
    · exact ⟨0, by omega, fun h => absurd h hi⟩
  obtain ⟨f, hf⟩ := Classical.axiomOfChoice h'
  obtain ⟨n, hn, hb⟩ := jdp f (fun i => (hf i).1)
  refine ⟨n, hn, ?_⟩
  apply Array.ext_getElem?
  intro i
  by_cases hi : i < 16
  · rw [zX n i hi, hb i hi]; exact (hf i).2 hi
  · rw [Array.getElem?_eq_none (by omega), Array.getElem?_eq_none (by rw [zI]; omega)]
section
variable {H : Type} {enc : TypeId × Value → H} {w : World} {base : Nat} {spare : Nat → Bool} {held : Bool}
theorem Ya {fuel : Nat} {l : List Value} {x : DataW H × List MemPlace} (h : DataW.trod enc Tryz.prog w base spare held fuel 38 l = some x) : ∃ n, n < top ∧ l = (idA n).toList := by
  obtain ⟨xs, m, _, _, hl, hx, he⟩ := DataW.trod_array underlying38 h
  rw [cells38] at hl
  have := Uu l.toArray (by simpa using hl) fun i hi => by
    have h1 := he i hi
    rw [List.getElem?_eq_getElem (by omega)] at h1
    obtain ⟨n, h2, _, h3⟩ := DataW.trod_int underlying5 h1
    rw [cells5, Nat.mul_one] at h2
    refine ⟨n, ?_, ?_⟩
    · have h4 : (List.take 1 (List.drop i l))[0]? = some (.int .u8 n) := by rw [h2]; rfl
      rw [List.getElem?_take] at h4
      simpa using h4
    · have e1 : IntKind.u8.min = 0 := rfl
      have e2 : IntKind.u8.max = 255 := rfl
      simpa [Lit.wf, e1, e2] using h3
  obtain ⟨n, hn, hh⟩ := this
  exact ⟨n, hn, by rw [← hh]⟩
end
theorem getD_mem {α : Type} (l : List α) (d : α) (k : Nat) (h : k < l.length) : l.getD k d ∈ l := by
  rw [List.getD_eq_getElem?_getD, List.getElem?_eq_getElem h]
  exact List.getElem_mem h
theorem bytes5 : Tryz.prog.bytesOf 5 = 1 := by kernel_rfl
section
variable {H : Type} {enc : TypeId × Value → H} {w : World} {base : Nat} {spare : Nat → Bool} {held : Bool}
def asLong (d : DataW H) (l : List Nat) : Prop := (d = .nil ∧ l = []) ∨ ∃ el sp, d = .slice el sp ∧ el.length = l.length
theorem jdk {t e : TypeId} {k : IntKind} {b : Nat} (T : NumT Tryz.prog t e k b) (hc : Tryz.prog.cellsOf e = 1) (hk : k.min = 0) {fuel : Nat} {cs : List Value} {x : DataW H × List MemPlace} (hd : DataW.trod enc Tryz.prog w base spare held fuel t cs = some x) :
    ∃ ao cap l, cs = [.slice ao (List.length l) cap] ∧ NC w k ao cap l ∧ cap ≤ maxLen ∧ asLong x.1 l := by
  rcases open_ints T.und T.ue hc hd with ⟨hcs, hx⟩ | ⟨a, len, cap, zs, hcs, _, hl, hm, hz, hx, hcell, hwz⟩
  · exact ⟨none, 0, [], hcs, NC.nil _ _, by decide, .inl ⟨by rw [hx], rfl⟩⟩
  · have hle : len ≤ zs.length := by rw [hz]; split <;> omega
    have hlen : ((zs.take len).map Int.toNat).length = len := by simp; omega
    have hb : ∀ z ∈ zs, 0 ≤ z ∧ z ≤ k.max := fun z hz => by
      have := hwz z hz
      simp [Lit.wf, hk] at this
      exact this
    refine ⟨some a, cap, (zs.take len).map Int.toNat, by rw [hlen]; exact hcs, ⟨by omega, fun h => by (cases h), fun ad ha j hj => ?_, fun x hx => ?_⟩, hm, .inr ⟨_, _, by rw [hx], by rw [hlen]; simp [lits]; omega⟩⟩
    · cases ha
      rw [hlen] at hj
      rw [hcell j (by omega)]
      have h1 : zs.getD j 0 ∈ zs := getD_mem zs 0 j (by omega)
      have h2 := hb _ h1
      have h3 : ((zs.take len).map Int.toNat).getD j 0 = (zs.getD j 0).toNat := by
        rw [List.getD_eq_getElem?_getD, List.getElem?_map, List.getElem?_take, if_pos hj, List.getD_eq_getElem?_getD, List.getElem?_eq_getElem (by omega)]
        rfl
      rw [h3, Int.toNat_of_nonneg h2.1]
    · obtain ⟨z, hz1, rfl⟩ := List.mem_map.1 hx
      have := hb z (List.mem_of_mem_take hz1)
      omega
end
structure IC (w : World) (ao : Option Addr) (cap : Nat) (xs : List Int) : Prop where
  fit : xs.length ≤ cap
  bare : ao = none → cap = 0
  cell : ∀ ad, ao = some ad → ∀ j, j < xs.length → w.cell? (ad.add j) = some (.int .i64 (xs.getD j 0))
theorem IC.at {w : World} {ao : Option Addr} {cap : Nat} {xs : List Int} (h : IC w ao cap xs) {j : Nat} (hj : j < xs.length) : ∃ ad, ao = some ad ∧ w.cell? (ad.add j) = some (.int .i64 (xs.getD j 0)) := by
  cases hao : ao with
  | none => have := h.bare hao; have := h.fit; omega
  | some ad => exact ⟨ad, rfl, h.cell ad hao j hj⟩
section
variable {H : Type} {enc : TypeId × Value → H} {w : World} {base : Nat} {spare : Nat → Bool} {held : Bool}
theorem Za {P : Program} {e : TypeId} : ∀ (l : List (DataW H)) (d : DataW H), d ∈ l → ∀ y ∈ d.weights P e, y ∈ DataW.weightsAll P e l
  | [], _, h, _, _ => by cases h
  | x :: l, d, h, y, hy => by
    rw [DataW.weightsAll, List.mem_append]
    rcases List.mem_cons.1 h with rfl | h
    · exact .inl hy
    · exact .inr (Za l d h y hy)
end
theorem cellsIt : Tryz.prog.cellsOf 42 = 34 := by kernel_rfl
theorem cellsVe : Tryz.prog.cellsOf 40 = 17 := by kernel_rfl
theorem cellBy : Tryz.prog.cellsOf 27 = 1 := by kernel_rfl
theorem cells2 : Tryz.prog.cellsOf 2 = 1 := by kernel_rfl
theorem I64.of {x : Int} (h : (Lit.int .i64 x).wf = true) : I64 x := by
  have e1 : IntKind.i64.min = -9223372036854775808 := rfl
  have e2 : IntKind.i64.max = 9223372036854775807 := rfl
  simp [Lit.wf, e1, e2] at h
  unfold I64
  omega
theorem cutVe (l : List Value) (h : l.length = 17) : l = (l.drop 0).take 1 ++ (l.drop 1).take 16 := by
  rw [List.drop_zero]
  have e1 : (l.drop 1).take 16 = l.drop 1 := List.take_of_length_le (by rw [List.length_drop]; omega)
  rw [e1, List.take_append_drop]
theorem cutIt (l : List Value) (h : l.length = 34) : l = (l.drop 0).take 16 ++ ((l.drop 16).take 17 ++ (l.drop 33).take 1) := by
  rw [List.drop_zero]
  have e1 : (l.drop 33).take 1 = l.drop 33 := List.take_of_length_le (by rw [List.length_drop]; omega)
  have e2 : (l.drop 16).take 17 ++ l.drop 33 = l.drop 16 := by rw [show 33 = 16 + 17 from rfl, ← List.drop_drop, List.take_append_drop]
  rw [e1, e2, List.take_append_drop]
section
variable {H : Type} {enc : TypeId × Value → H} {w : World} {base : Nat} {spare : Nat → Bool} {held : Bool}
theorem UL {fuel : Nat} {l : List Value} {x : DataW H × List MemPlace} (h : DataW.trod enc Tryz.prog w base spare held fuel 40 l = some x) : ∃ p : VM, p.ok ∧ l = veL p := by
  obtain ⟨xs, n, rfl, hx, hl, hxl, hf⟩ := DataW.trod_struct underlying40 h
  have hxl2 : xs.length = 2 := hxl
  have h0 : DataW.trod enc Tryz.prog w base spare held n 2 ((l.drop 0).take (Tryz.prog.cellsOf 2)) = xs[0]? := hf 0 _ rfl
  rw [cells2, List.getElem?_eq_getElem (by omega)] at h0
  have h1 : DataW.trod enc Tryz.prog w base spare held n 38 ((l.drop 1).take (Tryz.prog.cellsOf 38)) = xs[1]? := hf 1 _ rfl
  rw [cells38, List.getElem?_eq_getElem (by omega)] at h1
  rw [cellsVe] at hl
  obtain ⟨k, e0, _, wf0⟩ := DataW.trod_int underlying2 h0
  obtain ⟨u, hu, e1⟩ := Ya h1
  refine ⟨⟨k, u⟩, ⟨I64.of wf0, hu⟩, ?_⟩
  rw [cutVe l hl, e0, e1]
  rfl
theorem bytes_le {x : DataW H × List MemPlace} {l : List Nat} (h : asLong x.1 l) : ∀ m, (∀ y ∈ x.1.weights Tryz.prog 27, y ≤ m) → l.length ≤ m := fun m hm => by
  rcases h with ⟨_, rfl⟩ | ⟨el, sp, h1, h2⟩
  · exact Nat.zero_le _
  · have := hm ((el.length + sp.length) * Tryz.prog.bytesOf 5) (by
      rw [h1, DataW.weights, underlying27]
      simp)
    rw [bytes5] at this
    omega
theorem Qn {fuel : Nat} {l : List Value} {x : DataW H × List MemPlace} (h : DataW.trod enc Tryz.prog w base spare held fuel 42 l = some x) : ∃ p : IM, (p.ok ∧ NC w .u8 p.ao p.cap p.val) ∧ l = itL p ∧ ∀ m, (∀ y ∈ x.1.weights Tryz.prog 42, y ≤ m) → p.val.length ≤ m := by
  obtain ⟨xs, n, rfl, hx, hl, hxl, hf⟩ := DataW.trod_struct underlying42 h
  have hxl2 : xs.length = 3 := hxl
  have h0 : DataW.trod enc Tryz.prog w base spare held n 38 ((l.drop 0).take (Tryz.prog.cellsOf 38)) = xs[0]? := hf 0 _ rfl
  have h1 : DataW.trod enc Tryz.prog w base spare held n 40 ((l.drop 16).take (Tryz.prog.cellsOf 40)) = xs[1]? := hf 1 _ rfl
  have h2 : DataW.trod enc Tryz.prog w base spare held n 27 ((l.drop 33).take (Tryz.prog.cellsOf 27)) = xs[2]? := hf 2 _ rfl
  obtain ⟨y0, y1, y2, rfl⟩ : ∃ a b c, xs = [a, b, c] := by
    match xs, hxl2 with
    | [a, b, c], _ => exact ⟨a, b, c, rfl⟩
  rw [cells38] at h0
  rw [cellsVe] at h1
  rw [cellBy] at h2
  rw [cellsIt] at hl
  obtain ⟨u, hu, e0⟩ := Ya (show _ = some y0 from h0)
  obtain ⟨v, hv, e1⟩ := UL (show _ = some y1 from h1)
  obtain ⟨ao, cap, b, e2, nb, _, al⟩ := jdk bT cells5 rfl (show _ = some y2 from h2)
  refine ⟨⟨u, v.n, v.who, ao, cap, b⟩, ⟨⟨hu, hv.n, hv.who⟩, nb⟩, ?_, fun m hm => bytes_le al m fun y hy => hm y ?_⟩
  · rw [cutIt l hl, e0, e1, e2]
    rfl
  · have hd2 : x.1 = .agg [y0.1, y1.1, y2.1] := congrArg Prod.fst hx
    rw [hd2, DataW.weights, underlying42]
    exact DataW.weights_mem_each (j := 2) (t := 27) (d := y2.1) rfl rfl _ hy
end
end Go.Proofs.YtgfnjekpafempaaGreat
