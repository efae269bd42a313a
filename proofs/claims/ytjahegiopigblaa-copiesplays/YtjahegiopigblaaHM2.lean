/- A walk over a map in which what has come may be taken away. -/
import Derived.Test.YtjahegiopigblaaHM1
namespace Go.Proofs.Ytjahegiopigblaa
open Go.RowKit Go.Maps
section
variable {κ ε : Type} {t k v : TypeId} {kv : κ → Value} {ok : κ → Prop} {ev : ε → Value} {zv : Value}
variable {w w' : World} {b r g : Nat} {L R : List (κ × ε)} {Y : List ((κ × ε) × Nat)} {c : Nat}
theorem MQM.del [DecidableEq κ] (M : MT t k v kv ok ev zv) (h : MQM kv ok ev b L w Y c) {p : κ} (hp : ok p) (ty : TypeId) :
    ∃ w' Y', (Builtin.delete_ #[t, k] ty #[.map (some b), kv p]).run Try.prog w = .ok (.tuple #[]) w' ∧ MQM kv ok ev b (delM L p) w' Y' c ∧ (∀ y ∈ Y', y ∈ Y) ∧ GroS [b] w w' := by
  obtain ⟨kl, hk⟩ := M.key p hp
  rcases h.find M w hp with ⟨h1, h2⟩ | ⟨j, y, h1, hj, hyp, h2⟩
  · refine ⟨ChangeMaps.setBlock w b (.map (Y.map (entM kv ev)).toArray c), Y, ?_, ?_, fun _ h => h, groS_setM h.at_ _⟩
    · simp [Builtin.delete_, run_underlying M.und, MapKept.run_getObj_map h.at_, M.keyed.check w _ hk, h1, MapKept.run_setObj_map _ h.at_, Result.andThen, ChangeMaps.setBlock]
    · rw [delM_out h2]
      exact ⟨ChangeMaps.heap_setBlock_same h.at_ _, h.perm, h.lt, h.nd, h.all, h.kn⟩
  · have hjl : j < Y.length := (List.getElem?_eq_some_iff.1 hj).1
    have hyj : Y[j] = y := (List.getElem?_eq_some_iff.1 hj).2
    have hsub : (Y.map (entM kv ev)).toArray.eraseIdxIfInBounds j = ((Y.eraseIdx j).map (entM kv ev)).toArray := by
      apply Array.toList_inj.1
      unfold Array.eraseIdxIfInBounds
      rw [dif_pos (by simpa using hjl)]
      simp [erase_mapM]
    have hp1 : (y :: Y.eraseIdx j).Perm Y := by
      have := erase_permM Y j hjl
      rwa [hyj] at this
    have hy := List.mem_of_getElem? hj
    subst hyp
    refine ⟨ChangeMaps.setBlock w b (.map ((Y.eraseIdx j).map (entM kv ev)).toArray c), Y.eraseIdx j, ?_, ⟨ChangeMaps.heap_setBlock_same h.at_ _, ?_, fun z hz => h.lt z (List.mem_of_mem_eraseIdx hz), ?_, fun x hx => h.all x (List.mem_filter.1 hx).1, delM_kn h.kn _⟩, fun _ hz => List.mem_of_mem_eraseIdx hz, groS_setM h.at_ _⟩
    · rw [← hsub]
      simp [Builtin.delete_, run_underlying M.und, MapKept.run_getObj_map h.at_, M.keyed.check w _ hk, h1, MapKept.run_setObj_map _ h.at_, Result.andThen, ChangeMaps.setBlock]
    · refine List.Perm.cons_inv (a := y.1) ?_
      exact ((hp1.map (·.1)).trans h.perm).trans (delM_perm h.kn (h.mem hy)).symm
    · have := (hp1.map (·.2)).nodup_iff.2 h.nd
      rw [List.map_cons, List.nodup_cons] at this
      exact this.2
/-- A walk over the map is under way: these are still to come. -/
def RgDM (kv : κ → Value) (ok : κ → Prop) (ev : ε → Value) (w : World) (b r : Nat) (L R : List (κ × ε)) : Prop :=
  ∃ (Y : List ((κ × ε) × Nat)) (c : Nat) (seen : Array Nat), MQM kv ok ev b L w Y c ∧ w.heap[r]? = some (.mapIter (some b) c seen c) ∧ (∀ y ∈ Y, seen.contains y.2 = false ↔ y.1 ∈ R) ∧ ∀ x ∈ R, x ∈ L
theorem RgDM.tm (h : RgDM kv ok ev w b r L R) : TMM kv ok ev w b L := by
  obtain ⟨Y, c, seen, h1, _⟩ := h
  exact ⟨Y, c, h1⟩
theorem RgDM.sub (h : RgDM kv ok ev w b r L R) : ∀ x ∈ R, x ∈ L := by
  obtain ⟨Y, c, seen, _, _, _, h4⟩ := h
  exact h4
theorem RgDM.lt (h : RgDM kv ok ev w b r L R) : r < w.heap.size := by
  obtain ⟨Y, c, seen, h1, h2, _⟩ := h
  exact lt_of_heap h2
theorem RgDM.gros {S : List Nat} (h : RgDM kv ok ev w b r L R) (G : GroS S w w') (hb : b ∉ S) (hr : r ∉ S) : RgDM kv ok ev w' b r L R := by
  obtain ⟨Y, c, seen, h1, h2, h3⟩ := h
  exact ⟨Y, c, seen, ⟨G.has h1.at_ hb, h1.perm, h1.lt, h1.nd, h1.all, h1.kn⟩, G.has h2 hr, h3⟩
theorem RgDM.gro (h : RgDM kv ok ev w b r L R) (G : Gro w w') : RgDM kv ok ev w' b r L R := h.gros (S := []) (.of G) (by simp) (by simp)
theorem RgDM.ne (h : RgDM kv ok ev w b r L R) (e : w.heap.size = g) : b ≠ g ∧ r ≠ g := by
  have h1 := h.tm.lt
  have h2 := h.lt
  omega
theorem RgDM.st {x : Obj} (h : RgDM kv ok ev w b r L R) (St : Stored w w' g x) (hn : b ≠ g ∧ r ≠ g) : RgDM kv ok ev w' b r L R := h.gros St.gros (by simpa using hn.1) (by simpa using hn.2)
/-- What is not to come may be taken away. -/
theorem RgDM.del [DecidableEq κ] (M : MT t k v kv ok ev zv) (h : RgDM kv ok ev w b r L R) {p : κ} (hp : ok p) (hR : ∀ x ∈ R, x.1 ≠ p) (ty : TypeId) :
    ∃ w', (Builtin.delete_ #[t, k] ty #[.map (some b), kv p]).run Try.prog w = .ok (.tuple #[]) w' ∧ RgDM kv ok ev w' b r (delM L p) R ∧ GroS [b] w w' := by
  obtain ⟨Y, c, seen, h1, h2, h3, h4⟩ := h
  obtain ⟨w', Y', hr, hq, hs, hg⟩ := h1.del M hp ty
  have hne : r ≠ b := fun e => by rw [e, h1.at_] at h2; cases h2
  exact ⟨w', hr, ⟨Y', c, seen, hq, hg.has h2 (by simpa using hne), fun y hy => h3 y (hs y hy), fun x hx => List.mem_filter.2 ⟨h4 x hx, decide_eq_true (hR x hx)⟩⟩, hg⟩
theorem RgDM.len_lt [DecidableEq κ] {x : κ × ε} (hx : x ∈ R) : (delM R x.1).length < R.length := by
  unfold delM
  rw [List.length_eq_countP_add_countP (fun y : κ × ε => decide (y.1 ≠ x.1)) (l := R), ← List.countP_eq_length_filter]
  have : 0 < R.countP (fun y : κ × ε => decide ¬(decide (y.1 ≠ x.1)) = true) := List.countP_pos_iff.2 ⟨x, hx, by simp⟩
  omega
/-- The next one: none is left, or one that is still to come. -/
theorem RgDM.next [DecidableEq κ] (h : RgDM kv ok ev w b r L R) (ty : TypeId) :
    (R = [] ∧ (Instr.next (.pointer (some ⟨r, 0, none⟩)) false ty).run Try.prog w = .ok (.tuple #[.bool false]) w) ∨
    ∃ x w', x ∈ R ∧ (Instr.next (.pointer (some ⟨r, 0, none⟩)) false ty).run Try.prog w = .ok (.tuple #[.bool true, kv x.1, ev x.2]) w' ∧ RgDM kv ok ev w' b r L (delM R x.1) ∧ GroS [r] w w' ∧
      (Instr.entry (.pointer (some ⟨r, 0, none⟩))).run Try.prog w' = .ok (.tuple #[kv x.1, ev x.2]) w' := by
  obtain ⟨Y, c, seen, h1, h2, h3, h4⟩ := h
  rcases run_next_at (P := Try.prog) w ty r b c c seen (Y.map (entM kv ev)).toArray c h2 h1.at_ (fun x hx => by
      obtain ⟨y, hy, rfl⟩ := List.mem_map.1 hx
      exact h1.lt y hy) (Nat.le_refl _) with ⟨h0, hrun⟩ | ⟨e, he, w1, hal, hrun⟩
  · refine .inl ⟨?_, hrun⟩
    have hall := all_seen _ _ h0
    cases R with
    | nil => rfl
    | cons x R =>
      obtain ⟨y, hy, e⟩ := List.mem_map.1 (h1.perm.mem_iff.2 (h4 x List.mem_cons_self))
      have e1 : seen.contains y.2 = true := hall (entM kv ev y) (List.mem_map_of_mem hy)
      rw [(h3 y hy).2 (by rw [e]; exact List.mem_cons_self)] at e1
      cases e1
  · obtain ⟨hem, hes⟩ := mem_left he
    obtain ⟨y, hy, rfl⟩ := List.mem_map.1 hem
    have hyR : y.1 ∈ R := (h3 y hy).1 hes
    have hne : r ≠ b := fun e => by rw [e, h1.at_] at h2; cases h2
    have hr1 : w1.heap[r]? = some (.mapIter (some b) c seen c) := by rcases hal with rfl | rfl <;> exact h2
    have hb1 : w1.heap[b]? = some (.map (Y.map (entM kv ev)).toArray c) := by rcases hal with rfl | rfl <;> exact h1.at_
    have hset := MapKept.heap_set (o' := .mapIter (some b) c (seen.push y.2) c) hr1
    have hb' : (ChangeMaps.setBlock w1 r (.mapIter (some b) c (seen.push y.2) c)).heap[b]? = some (.map (Y.map (entM kv ev)).toArray c) := (hset.2 b (fun e1 => hne e1.symm)).trans hb1
    refine .inr ⟨y.1, _, hyR, hrun, ⟨Y, c, seen.push y.2, ⟨hb', h1.perm, h1.lt, h1.nd, h1.all, h1.kn⟩, hset.1, ?_, fun x hx => h4 x (List.mem_filter.1 hx).1⟩, ?_, ?_⟩
    · intro z hz
      have e1 : (seen.push y.2).contains z.2 = (seen.contains z.2 || decide (z.2 = y.2)) := by
        rw [Bool.eq_iff_iff]
        simp
      rw [e1, Bool.or_eq_false_iff, h3 z hz, decide_eq_false_iff_not]
      unfold delM
      rw [List.mem_filter, decide_eq_true_iff]
      refine and_congr_right fun hzR => not_congr ⟨fun e => ?_, fun e => ?_⟩
      · rw [nd_injM h1.nd hz hy e]
      · have hk : KNM (Y.map (·.1)) := h1.kn.perm h1.perm.symm
        have : z.1 = y.1 := nd_injM (f := fun q : κ × ε => q.1) (l := Y.map fun q : (κ × ε) × Nat => q.1) hk (List.mem_map_of_mem hz) (List.mem_map_of_mem hy) e
        have hYn : (Y.map (·.1)).Nodup := nd_ofM hk
        rw [nd_injM hYn hz hy this]
    · rcases hal with rfl | rfl <;> exact ⟨rfl, rfl, rfl, by simp [ChangeMaps.setBlock], fun i _ hi => hset.2 i (by simpa using hi)⟩
    · exact run_entry_at _ r b c seen (Y.map (entM kv ev)).toArray c (entM kv ev y) hset.1 hb' (List.mem_map_of_mem hy) (by
        rw [show ((Y.map (entM kv ev)).toArray.toList.map (·.born)) = Y.map (·.2) by simp [entM]]
        exact h1.nd)
theorem RgMM.all0 (h : RgMM kv ok ev w b r L []) : RgDM kv ok ev w b r L L := by
  obtain ⟨Y, c, Z, seen, h1, h2, h3, h4, _, _⟩ := h
  have hz : Z = [] := by simpa using h4.symm
  subst hz
  have hs : seen = #[] := by
    apply Array.toList_inj.1
    rw [h3]
    rfl
  subst hs
  refine ⟨Y, c, #[], h1, h2, fun y hy => ⟨fun _ => h1.mem hy, fun _ => by simp⟩, fun _ h => h⟩
end
/-! ### Operations -/
section
variable {κ ε : Type} {t k v : TypeId} {kv : κ → Value} {ok : κ → Prop} {ev : ε → Value} {zv : Value} {w w' : World} {b r g : Nat} {L R : List (κ × ε)} {ops : Array Oper} {rest : List Oper} {o : Oper} {T : List Value} {ds : List Deferred} {Q : Exit → Act → World → Prop}
theorem s_nextD [DecidableEq κ] (dst : Nat) (hd : o.dst = some dst) (hgd : o.guard = none) (it : Operand) (ho : o.op = .next it false) (h : RgDM kv ok ev w b r L R) (hi : (⟨T.toArray, ds⟩ : Act).eval it = .pointer (some ⟨r, 0, none⟩))
    (h0 : R = [] → wpList Try.prog ops Q rest ⟨(T.set dst (.tuple #[.bool false])).toArray, ds⟩ w)
    (h1 : ∀ x w', x ∈ R → RgDM kv ok ev w' b r L (delM R x.1) → GroS [r] w w' → (Instr.entry (.pointer (some ⟨r, 0, none⟩))).run Try.prog w' = .ok (.tuple #[kv x.1, ev x.2]) w' → wpList Try.prog ops Q rest ⟨(T.set dst (.tuple #[.bool true, kv x.1, ev x.2])).toArray, ds⟩ w') : wpList Try.prog ops Q (o :: rest) ⟨T.toArray, ds⟩ w := by
  refine wpList_plain hgd fun _ hK => ?_
  unfold Oper.wp
  rcases h.next o.type with ⟨hp, hr⟩ | ⟨x, w', hx, hr, h2, h3, h4⟩
  · have he : (execOp (Act.eval ⟨T.toArray, ds⟩) o).run Try.prog w = .ok (.value (.tuple #[.bool false])) w := by
      unfold execOp
      simp only [ho, hi, Sem.run_bind, hr, Result.andThen_ok, Sem.run_pure]
    rw [he, Oper.upon_value, hd, put_list]
    exact hK _ _ (h0 hp)
  · have he : (execOp (Act.eval ⟨T.toArray, ds⟩) o).run Try.prog w = .ok (.value (.tuple #[.bool true, kv x.1, ev x.2])) w' := by
      unfold execOp
      simp only [ho, hi, Sem.run_bind, hr, Result.andThen_ok, Sem.run_pure]
    rw [he, Oper.upon_value, hd, put_list]
    exact hK _ _ (h1 x w' hx h2 h3 h4)
theorem s_delD [DecidableEq κ] (M : MT t k v kv ok ev zv) (hgd : o.guard = none) (hdst : o.dst = none) (m x : Operand) (ho : o.op = .call { callee := .builtin .delete, args := #[m, x], argTypes := #[t, k] }) (h : RgDM kv ok ev w b r L R) (hm : (⟨T.toArray, ds⟩ : Act).eval m = .map (some b)) (p : κ) (hx : (⟨T.toArray, ds⟩ : Act).eval x = kv p) (hp : ok p) (hR : ∀ y ∈ R, y.1 ≠ p)
    (hk : ∀ w', RgDM kv ok ev w' b r (delM L p) R → GroS [b] w w' → wpList Try.prog ops Q rest ⟨T.toArray, ds⟩ w') : wpList Try.prog ops Q (o :: rest) ⟨T.toArray, ds⟩ w := by
  refine wpList_plain hgd fun _ hK => ?_
  obtain ⟨w', hr, h1, h2⟩ := h.del M hp hR o.type
  have he : (execOp (Act.eval ⟨T.toArray, ds⟩) o).run Try.prog w = .ok (.value (.tuple #[])) w' := by
    unfold execOp
    simp [ho, resolve, invoke, builtin, hm, hx, hr, Result.andThen]
  have := hK _ _ (hk w' h1 h2)
  unfold Oper.wp
  rw [he, Oper.upon_value, hdst]
  exact this
end
end Go.Proofs.Ytjahegiopigblaa
