/- What is torn, of lists of entries (ahead of stage 15): pure. -/
import Derived.Test.YtmpnepbmpmkmkaaCP1
import Derived.Test.YtmpnepbmpmkmkaaCP10
namespace Go.Proofs.Ytmpnepbmpmkmkaa
open Classical
open Go.RowKit Go.Maps
/-- What was told to neighbours, and what was lost. -/
structure Tn where
  out : List (Int × Pa)
  lost : List Pa
def tn0 : Tn := ⟨[], []⟩
def sideT (n : Int) (p : Pa) : Tn := if n < 0 then ⟨[], [p]⟩ else ⟨[(n, p)], []⟩
def appT (a b : Tn) : Tn := ⟨a.out ++ b.out, a.lost ++ b.lost⟩
theorem appT_0 (a : Tn) : appT a tn0 = a := by simp [appT, tn0]
theorem appT_assoc (a b c : Tn) : appT (appT a b) c = appT a (appT b c) := by simp [appT]
theorem sideT_lost {n : Int} {p : Pa} (h : n < 0) : sideT n p = ⟨[], [p]⟩ := if_pos h
theorem sideT_out {n : Int} {p : Pa} (h : ¬ n < 0) : sideT n p = ⟨[(n, p)], []⟩ := if_neg h
/-- The other side of an entry. -/
def othS (x : En) (n : Int) : Int := if x.na = n then x.nb else x.na
def hits (L : List En) (fr : Int) (p : Pa) : Bool := decide (0 ≤ fr) && (hasL L p && (decide ((getV L p).na = fr) || decide ((getV L p).nb = fr)))
def drpT (L : List En) (fr : Int) (p : Pa) : Tn := if hits L fr p = true then sideT (othS (getV L p) fr) p else tn0
def drpL (L : List En) (fr : Int) (p : Pa) : List En := if hits L fr p = true then delL p L else L
/-- A session died: of each entry over it. -/
def sidesT (n : Int) (l : List En) : Tn := l.foldl (fun a x => appT a (sideT (othS x n) x.p)) tn0
def deadT (L : List En) (n : Int) : Tn := sidesT n (L.filter (viaF n))
def deadL (L : List En) (n : Int) : List En := L.filter fun x => !viaF n x
def deadK (l L : List En) : List En := l.foldl (fun M x => delL x.p M) L
section
variable {L M : List En} {x y : En} {n : Int} {p : Pa}
theorem hits_of (hk : KN M) (hx : x ∈ M) (hv : viaF n x = true) : hits M n x.p = true ∧ getV M x.p = x := by
  have h := getL_mem hk hx
  have hg : getV M x.p = x := by unfold getV; rw [h]; rfl
  have hh : hasL M x.p = true := by unfold hasL; rw [h]; rfl
  unfold viaF at hv
  simp only [Bool.and_eq_true, Bool.or_eq_true, decide_eq_true_eq] at hv
  refine ⟨?_, hg⟩
  unfold hits
  rw [hg, hh]
  simp only [Bool.and_eq_true, Bool.or_eq_true, decide_eq_true_eq]
  exact ⟨hv.1, trivial, hv.2⟩
theorem drp_hit (hk : KN M) (hx : x ∈ M) (hv : viaF n x = true) : drpT M n x.p = sideT (othS x n) x.p ∧ drpL M n x.p = delL x.p M := by
  obtain ⟨h1, h2⟩ := hits_of hk hx hv
  unfold drpT drpL
  rw [if_pos h1, if_pos h1, h2]
  exact ⟨rfl, rfl⟩
theorem KN.filter (hk : KN M) (f : En → Bool) : KN (M.filter f) := by
  unfold KN at *
  exact List.Pairwise.sublist (List.filter_sublist.map _) hk
theorem KN.del (hk : KN M) (p : Pa) : KN (delL p M) := hk.filter _
theorem deadK_take {l : List En} {i : Nat} (hi : i < l.length) : deadK (l.take (i + 1)) L = delL (l.getD i zE).p (deadK (l.take i) L) := by
  have e : l.take (i + 1) = l.take i ++ [l.getD i zE] := by
    rw [List.take_add_one, List.getElem?_eq_getElem hi, List.getD_eq_getElem?_getD, List.getElem?_eq_getElem hi]
    rfl
  rw [e]
  simp [deadK]
theorem sidesT_take {l : List En} {i : Nat} (hi : i < l.length) : sidesT n (l.take (i + 1)) = appT (sidesT n (l.take i)) (sideT (othS (l.getD i zE) n) (l.getD i zE).p) := by
  have e : l.take (i + 1) = l.take i ++ [l.getD i zE] := by
    rw [List.take_add_one, List.getElem?_eq_getElem hi, List.getD_eq_getElem?_getD, List.getElem?_eq_getElem hi]
    rfl
  rw [e]
  simp [sidesT]
theorem deadK_mem : ∀ (l : List En) {L : List En} {y : En}, y ∈ deadK l L ↔ y ∈ L ∧ ∀ z ∈ l, y.p ≠ z.p
  | [], L, y => by simp [deadK]
  | z :: r, L, y => by
    show y ∈ deadK r (delL z.p L) ↔ _
    rw [deadK_mem r, delL_mem]
    simp only [List.mem_cons]
    constructor
    · rintro ⟨⟨h1, h2⟩, h3⟩
      refine ⟨h1, fun u hu => ?_⟩
      rcases hu with rfl | hu
      · exact h2
      · exact h3 u hu
    · rintro ⟨h1, h2⟩
      exact ⟨⟨h1, h2 z (.inl rfl)⟩, fun u hu => h2 u (.inr hu)⟩
theorem deadK_eq : ∀ (l L : List En), deadK l L = L.filter fun y => l.all fun z => !decide (y.p = z.p)
  | [], L => by
    show L = _
    exact (List.filter_eq_self.2 fun _ _ => rfl).symm
  | z :: r, L => by
    show deadK r (delL z.p L) = _
    rw [deadK_eq r]
    unfold delL
    rw [List.filter_filter]
    congr 1
    funext y
    simp [Bool.and_comm]
theorem KN.eq (hk : KN L) (hx : x ∈ L) (hy : y ∈ L) (h : x.p = y.p) : x = y := by
  have h1 := getL_mem hk hx
  have h2 := getL_mem hk hy
  rw [h, h2] at h1
  exact (Option.some.inj h1).symm
/-- All that went over it is gone, all else stays. -/
theorem deadK_all (hk : KN L) : deadK (L.filter (viaF n)) L = deadL L n := by
  rw [deadK_eq]
  unfold deadL
  apply List.filter_congr
  intro y hy
  cases hv : viaF n y
  · rw [Bool.not_false, List.all_eq_true]
    intro z hz
    obtain ⟨hz1, hz2⟩ := List.mem_filter.1 hz
    simp only [Bool.not_eq_true', decide_eq_false_iff_not]
    intro e
    rw [KN.eq hk hy hz1 e, hz2] at hv
    cases hv
  · rw [Bool.not_true, List.all_eq_false]
    exact ⟨y, List.mem_filter.2 ⟨hy, hv⟩, by simp⟩
theorem deadK_kn (hk : KN L) : ∀ l : List En, KN (deadK l L) := fun l => by
  rw [deadK_eq]
  exact hk.filter _
/-- The next one that went over it is still there. -/
theorem deadK_next (hk : KN L) {i : Nat} (hi : i < (L.filter (viaF n)).length) : (L.filter (viaF n)).getD i zE ∈ deadK ((L.filter (viaF n)).take i) L ∧ viaF n ((L.filter (viaF n)).getD i zE) = true := by
  have hg : (L.filter (viaF n)).getD i zE = (L.filter (viaF n))[i] := by simp [List.getD_eq_getElem?_getD, hi]
  have hm : (L.filter (viaF n)).getD i zE ∈ L.filter (viaF n) := by rw [hg]; exact List.getElem_mem hi
  obtain ⟨h1, h2⟩ := List.mem_filter.1 hm
  refine ⟨(deadK_mem _).2 ⟨h1, fun z hz e => ?_⟩, h2⟩
  have hkf : KN (L.filter (viaF n)) := hk.filter _
  obtain ⟨j, hj, rfl⟩ := List.getElem_of_mem hz
  have hj2 : j < i := by rw [List.length_take] at hj; omega
  rw [List.getElem_take] at e
  rw [hg] at e
  have hjl : j < (L.filter (viaF n)).length := by omega
  unfold KN at hkf
  have := List.pairwise_iff_getElem.1 hkf j i (by rw [List.length_map]; exact hjl) (by rw [List.length_map]; exact hi) hj2
  rw [List.getElem_map, List.getElem_map] at this
  exact this e.symm
end
end Go.Proofs.Ytmpnepbmpmkmkaa
