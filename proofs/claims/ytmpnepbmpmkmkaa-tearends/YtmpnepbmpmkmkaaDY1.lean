/- What is torn, of lists of entries (ahead of stage 15): pure. -/
import Derived.Test.YtmpnepbmpmkmkaaDP1
import Derived.Test.YtmpnepbmpmkmkaaDP10
namespace Go.Proofs.Ytmpnepbmpmkmkaa
open Classical
open Go.RowKit Go.Maps
/-- What was told to neighbours, and what was lost. -/
structure Tn where
  out : List (Int × Pa)
  lost : List Pa
def tn0 : Tn := ⟨[], []⟩
def sideT (n : Int) (p : Pa) : Tn := if n < 0 then ⟨[], [p]⟩ else ⟨[(n, p)], []⟩
def appT (a b : Tn) : Tn := ⟨a.out ++ b.out, a.lost ++ b.lost⟩
theorem appT_0 (a : Tn) : appT a tn0 = a := by simp [appT, tn0]
theorem appT_assoc (a b c : Tn) : appT (appT a b) c = appT a (appT b c) := by simp [appT]
theorem sideT_lost {n : Int} {p : Pa} (h : n < 0) : sideT n p = ⟨[], [p]⟩ := if_pos h
theorem sideT_out {n : Int} {p : Pa} (h : ¬ n < 0) : sideT n p = ⟨[(n, p)], []⟩ := if_neg h
/-- The other side of an entry. -/
def othS (x : En) (n : Int) : Int := if x.na = n then x.nb else x.na
def hits (L : List En) (fr : Int) (p : Pa) : Bool := decide (0 ≤ fr) && (hasL L p && (decide ((getV L p).na = fr) || decide ((getV L p).nb = fr)))
def drpT (L : List En) (fr : Int) (p : Pa) : Tn := if hits L fr p = true then sideT (othS (getV L p) fr) p else tn0
def drpL (L : List En) (fr : Int) (p : Pa) : List En := if hits L fr p = true then delL p L else L
/-- Own, and there. -/
def ends (L : List En) (p : Pa) : Bool := hasL L p && ownF (getV L p)
def endT (L : List En) (p : Pa) : Tn := if ends L p = true then appT (sideT (getV L p).na p) (sideT (getV L p).nb p) else tn0
def endL (L : List En) (p : Pa) : List En := if ends L p = true then delL p L else L
/-- A session died: of each entry over it. -/
def sidesT (n : Int) (l : List En) : Tn := l.foldl (fun a x => appT a (sideT (othS x n) x.p)) tn0
def deadT (L : List En) (n : Int) : Tn := sidesT n (L.filter (viaF n))
def deadL (L : List En) (n : Int) : List En := L.filter fun x => !viaF n x
def deadK (l L : List En) : List En := l.foldl (fun M x => delL x.p M) L
section
variable {L M : List En} {x y : En} {n : Int} {p : Pa}
theorem KN.filter (hk : KN M) (f : En → Bool) : KN (M.filter f) := by
  unfold KN at *
  exact List.Pairwise.sublist (List.filter_sublist.map _) hk
theorem KN.del (hk : KN M) (p : Pa) : KN (delL p M) := hk.filter _
theorem deadK_take {l : List En} {i : Nat} (hi : i < l.length) : deadK (l.take (i + 1)) L = delL (l.getD i zE).p (deadK (l.take i) L) := by
  have e : l.take (i + 1) = l.take i ++ [l.getD i zE] := by
    rw [List.take_add_one, List.getElem?_eq_getElem hi, List.getD_eq_getElem?_getD, List.getElem?_eq_getElem hi]
    rfl
  rw [e]
  simp [deadK]
theorem sidesT_take {l : List En} {i : Nat} (hi : i < l.length) : sidesT n (l.take (i + 1)) = appT (sidesT n (l.take i)) (sideT (othS (l.getD i zE) n) (l.getD i zE).p) := by
  have e : l.take (i + 1) = l.take i ++ [l.getD i zE] := by
    rw [List.take_add_one, List.getElem?_eq_getElem hi, List.getD_eq_getElem?_getD, List.getElem?_eq_getElem hi]
    rfl
  rw [e]
  simp [sidesT]
theorem deadK_eq : ∀ (l L : List En), deadK l L = L.filter fun y => l.all fun z => !decide (y.p = z.p)
  | [], L => by
    show L = _
    exact (List.filter_eq_self.2 fun _ _ => rfl).symm
  | z :: r, L => by
    show deadK r (delL z.p L) = _
    rw [deadK_eq r]
    unfold delL
    rw [List.filter_filter]
    congr 1
    funext y
    simp [Bool.and_comm]
theorem KN.eq (hk : KN L) (hx : x ∈ L) (hy : y ∈ L) (h : x.p = y.p) : x = y := by
  have h1 := getL_mem hk hx
  have h2 := getL_mem hk hy
  rw [h, h2] at h1
  exact (Option.some.inj h1).symm
/-- All that went over it is gone, all else stays. -/
theorem deadK_all (hk : KN L) : deadK (L.filter (viaF n)) L = deadL L n := by
  rw [deadK_eq]
  unfold deadL
  apply List.filter_congr
  intro y hy
  cases hv : viaF n y
  · rw [Bool.not_false, List.all_eq_true]
    intro z hz
    obtain ⟨hz1, hz2⟩ := List.mem_filter.1 hz
    simp only [Bool.not_eq_true', decide_eq_false_iff_not]
    intro e
    rw [KN.eq hk hy hz1 e, hz2] at hv
    cases hv
  · rw [Bool.not_true, List.all_eq_false]
    exact ⟨y, List.mem_filter.2 ⟨hy, hv⟩, by simp⟩
end
end Go.Proofs.Ytmpnepbmpmkmkaa
