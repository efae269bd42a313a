/- What is torn, counted (ahead of stage 15): pure. -/
import Derived.Test.YtmpnepbmpmkmkaaEY1
namespace Go.Proofs.Ytmpnepbmpmkmkaa
open Classical
open Go.RowKit Go.Maps
section
variable {L : List En} {x y : En} {n : Int} {p : Pa}
theorem sides_from : ∀ (l : List En) (a : Tn), l.foldl (fun a x => appT a (sideT (othS x n) x.p)) a = ⟨a.out ++ (l.filter fun x => !decide (othS x n < 0)).map fun x => (othS x n, x.p), a.lost ++ (l.filter fun x => decide (othS x n < 0)).map (·.p)⟩
  | [], a => by simp
  | x :: r, a => by
    rw [List.foldl_cons, sides_from r]
    by_cases h : othS x n < 0
    · rw [sideT_lost h]
      simp [appT, h]
    · rw [sideT_out h]
      simp [appT, h]
theorem deadT_out (L : List En) (n : Int) : (deadT L n).out = ((L.filter (viaF n)).filter fun x => !decide (othS x n < 0)).map fun x => (othS x n, x.p) := by
  unfold deadT sidesT
  rw [sides_from]
  simp [tn0]
theorem deadT_lost (L : List En) (n : Int) : (deadT L n).lost = ((L.filter (viaF n)).filter fun x => decide (othS x n < 0)).map (·.p) := by
  unfold deadT sidesT
  rw [sides_from]
  simp [tn0]
theorem deadT_len (L : List En) (n : Int) : (deadT L n).out.length + (deadT L n).lost.length = (L.filter (viaF n)).length := by
  rw [deadT_out, deadT_lost, List.length_map, List.length_map]
  generalize L.filter (viaF n) = l
  induction l with
  | nil => rfl
  | cons x r ih =>
    by_cases h : othS x n < 0
    · simp [h] at ih ⊢
      omega
    · simp [h] at ih ⊢
      omega
/-- A key stands once in a list with unlike keys. -/
theorem cnt_one (hk : KN L) (hy : y ∈ L) : L.countP (fun x => decide (x.p = y.p)) = 1 := by
  have h : (L.map (·.p)).Nodup := hk
  have h1 := h.count (a := y.p)
  rw [if_pos (List.mem_map.2 ⟨y, hy, rfl⟩)] at h1
  rw [List.count, List.countP_map] at h1
  rw [← h1]
  apply List.countP_congr
  intro x _
  simp
/-- The other side, as a sum. -/
theorem othS_sum (hr : rgt y = true) (hv : viaF n y = true) : y.na + y.nb - n = othS y n ∧ (othS y n < 0 ↔ othS y n = -1) := by
  obtain ⟨_, h1, h2, h3⟩ := rgt_iff.1 hr
  unfold viaF at hv
  simp only [Bool.and_eq_true, Bool.or_eq_true, decide_eq_true_eq] at hv
  unfold othS
  split
  · constructor
    · omega
    · omega
  · constructor
    · omega
    · omega
/-- Each entry that is gone is told to its other side, or lost, once. -/
theorem told_once (hk : KN L) (hr : ∀ x ∈ L, rgt x = true) (hy : y ∈ L) (hv : viaF n y = true) :
    (deadT L n).out.countP (fun h => decide (h.2 = y.p) && decide (h.1 = othS y n)) + (if othS y n = -1 then (deadT L n).lost.countP (fun q => decide (q = y.p)) else 0) = 1 := by
  have hkf := hk.filter (viaF n)
  have hyf : y ∈ L.filter (viaF n) := List.mem_filter.2 ⟨hy, hv⟩
  have hs := (othS_sum (hr y hy) hv).2
  rw [deadT_out, deadT_lost, List.countP_map, List.countP_map]
  by_cases h : othS y n < 0
  · rw [if_pos (hs.1 h)]
    have h1 : ((L.filter (viaF n)).filter fun x => !decide (othS x n < 0)).countP ((fun h : Int × Pa => decide (h.2 = y.p) && decide (h.1 = othS y n)) ∘ fun x => (othS x n, x.p)) = 0 := by
      rw [List.countP_eq_zero]
      intro x hx
      obtain ⟨hx1, hx2⟩ := List.mem_filter.1 hx
      simp only [Function.comp, Bool.and_eq_true, decide_eq_true_eq]
      rintro ⟨e, _⟩
      have := KN.eq hkf hx1 hyf e
      rw [this] at hx2
      simp [h] at hx2
    rw [h1, Nat.zero_add]
    exact cnt_one (hkf.filter _) (List.mem_filter.2 ⟨hyf, by simpa using h⟩)
  · rw [if_neg (fun e => h (by omega)), Nat.add_zero]
    have h2 := cnt_one (hkf.filter fun x => !decide (othS x n < 0)) (List.mem_filter.2 ⟨hyf, by simpa using h⟩)
    rw [← h2]
    apply List.countP_congr
    intro x hx
    obtain ⟨hx1, _⟩ := List.mem_filter.1 hx
    simp only [Function.comp, Bool.and_eq_true, decide_eq_true_eq]
    exact ⟨fun e => e.1, fun e => ⟨e, by rw [KN.eq hkf hx1 hyf e]⟩⟩
theorem dead_has (hk : KN L) (hy : y ∈ L) : hasL (deadL L n) y.p = !viaF n y := by
  unfold deadL
  cases hv : viaF n y
  · rw [Bool.not_false, hasL_iff]
    exact ⟨y, List.mem_filter.2 ⟨hy, by simp [hv]⟩, rfl⟩
  · rw [Bool.not_true, Bool.eq_false_iff]
    intro h
    obtain ⟨z, hz, e⟩ := hasL_iff.1 h
    obtain ⟨hz1, hz2⟩ := List.mem_filter.1 hz
    rw [KN.eq hk hz1 hy e, hv] at hz2
    cases hz2
theorem dead_get (hk : KN L) (hy : y ∈ L) (hv : viaF n y = false) : getV (deadL L n) y.p = y := by
  have := getL_mem (l := deadL L n) (hk.filter _) (List.mem_filter.2 ⟨hy, by simp [hv]⟩ : y ∈ deadL L n)
  unfold getV
  rw [this]
  rfl
theorem dead_via (L : List En) (n : Int) : (deadL L n).filter (viaF n) = [] := by
  rw [List.filter_eq_nil_iff]
  intro x hx
  have := (List.mem_filter.1 hx).2
  simpa using this
end
end Go.Proofs.Ytmpnepbmpmkmkaa
