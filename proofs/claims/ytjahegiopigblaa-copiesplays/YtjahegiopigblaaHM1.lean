/- Maps with keys and values of whatever kind, in memory. -/
import Derived.Test.YtjahegiopigblaaHA1
import Derived.Maps.RangeWalk
import Derived.DeepKeys4
import Derived.WideKeyEntry
namespace Go.Proofs.Ytjahegiopigblaa
open Go.RowKit Go.Maps
theorem idA_inj {a b : Nat} (ha : a < top) (hb : b < top) (h : idA a = idA b) : a = b := by
  refine eq_of_bytes ha hb ?_
  intro i hi
  have h1 := idA_get a i hi
  have h2 := idA_get b i hi
  rw [h, h2] at h1
  simp only [Option.some.injEq, Value.int.injEq, true_and] at h1
  omega
theorem laidM : laidOutB Try.prog = true := by kernel_rfl
theorem cellsMI : Try.prog.cellsOf 23 = 16 := by kernel_rfl
theorem cellsM5 : Try.prog.cellsOf 5 = 1 := by kernel_rfl
theorem mapM_someM {α β : Type} (f : α → Option β) : ∀ l : List α, (∀ x ∈ l, ∃ y, f x = some y) → ∃ r, l.mapM f = some r
  | [], _ => ⟨[], rfl⟩
  | x :: r, h => by
    obtain ⟨y, hy⟩ := h x List.mem_cons_self
    obtain ⟨s, hs⟩ := mapM_someM f r fun z hz => h z (List.mem_cons_of_mem _ hz)
    exact ⟨y :: s, by simp [List.mapM_cons, hy, hs]⟩
/-! ### Lists of keys with what belongs to them -/
theorem erase_mapM {α β : Type} (f : α → β) : ∀ (l : List α) (j : Nat), (l.map f).eraseIdx j = (l.eraseIdx j).map f
  | [], _ => rfl
  | _ :: _, 0 => rfl
  | x :: r, j + 1 => by simp [erase_mapM f r j]
theorem erase_permM {α : Type} : ∀ (l : List α) (j : Nat) (hj : j < l.length), (l[j] :: l.eraseIdx j).Perm l
  | [], _, hj => by simp at hj
  | _ :: _, 0, _ => List.Perm.refl _
  | x :: r, j + 1, hj => by
    have := erase_permM r j (by simpa using hj)
    exact (List.Perm.swap x _ _).trans (this.cons x)
theorem set_permM {α : Type} : ∀ (l : List α) (j : Nat) (_ : j < l.length) (x : α), (l.set j x).Perm (x :: l.eraseIdx j)
  | [], _, hj, _ => by simp at hj
  | _ :: _, 0, _, _ => List.Perm.refl _
  | y :: r, j + 1, hj, x => by
    have := set_permM r j (by simpa using hj) x
    exact (this.cons y).trans (List.Perm.swap x y _)
theorem nd_injM {α β : Type} {f : α → β} : ∀ {l : List α}, (l.map f).Nodup → ∀ {x y : α}, x ∈ l → y ∈ l → f x = f y → x = y
  | [], _, _, _, hx, _, _ => by cases hx
  | z :: r, h, x, y, hx, hy, e => by
    rw [List.map_cons, List.nodup_cons] at h
    rcases List.mem_cons.1 hx with e1 | hx1
    · rcases List.mem_cons.1 hy with e2 | hy1
      · rw [e1, e2]
      · exact absurd (by rw [← e1, e]; exact List.mem_map_of_mem hy1) h.1
    · rcases List.mem_cons.1 hy with e2 | hy1
      · exact absurd (by rw [← e2, ← e]; exact List.mem_map_of_mem hx1) h.1
      · exact nd_injM h.2 hx1 hy1 e
theorem nd_ofM {α β : Type} {f : α → β} {l : List α} (h : (l.map f).Nodup) : l.Nodup := by
  rw [List.nodup_iff_pairwise_ne] at *
  rw [List.pairwise_map] at h
  exact h.imp fun h e => h (by rw [e])
section
variable {κ ε : Type}
def KNM (L : List (κ × ε)) : Prop := (L.map (·.1)).Nodup
theorem KNM.perm {L M : List (κ × ε)} (h : KNM L) (p : L.Perm M) : KNM M := (List.Perm.nodup_iff (p.map (fun x : κ × ε => x.1))).1 h
variable [DecidableEq κ]
def getM (L : List (κ × ε)) (p : κ) : Option ε := (L.find? fun x => decide (x.1 = p)).map (·.2)
def delM (L : List (κ × ε)) (p : κ) : List (κ × ε) := L.filter fun x => decide (x.1 ≠ p)
def putM (L : List (κ × ε)) (p : κ) (e : ε) : List (κ × ε) := (p, e) :: delM L p
theorem getM_some {L : List (κ × ε)} {p : κ} {e : ε} (h : getM L p = some e) : (p, e) ∈ L := by
  unfold getM at h
  cases g : L.find? fun x => decide (x.1 = p) with
  | none => rw [g] at h; cases h
  | some x =>
    rw [g] at h
    cases h
    have h1 : x.1 = p := by simpa using List.find?_some g
    have h2 := List.mem_of_find?_eq_some g
    obtain ⟨a, b⟩ := x
    simp only at h1
    subst h1
    exact h2
theorem getM_none {L : List (κ × ε)} {p : κ} (h : getM L p = none) : ∀ x ∈ L, x.1 ≠ p := fun x hx e => by
  unfold getM at h
  rw [Option.map_eq_none_iff] at h
  have := List.find?_eq_none.1 h x hx
  simp [e] at this
theorem getM_mem {L : List (κ × ε)} (hk : KNM L) {x : κ × ε} (h : x ∈ L) : getM L x.1 = some x.2 := by
  cases g : getM L x.1 with
  | none => exact absurd rfl (getM_none g x h)
  | some e =>
    have := nd_injM hk (getM_some g) h rfl
    rw [← this]
theorem getM_iff {L : List (κ × ε)} (hk : KNM L) {p : κ} {e : ε} : getM L p = some e ↔ (p, e) ∈ L := ⟨getM_some, fun h => getM_mem hk h⟩
theorem delM_kn {L : List (κ × ε)} (h : KNM L) (p : κ) : KNM (delM L p) := List.Nodup.sublist (List.Sublist.map _ List.filter_sublist) h
theorem putM_kn {L : List (κ × ε)} (h : KNM L) (p : κ) (e : ε) : KNM (putM L p e) := by
  unfold KNM putM
  rw [List.map_cons, List.nodup_cons]
  refine ⟨fun hm => ?_, delM_kn h p⟩
  obtain ⟨x, hx, e1⟩ := List.mem_map.1 hm
  exact of_decide_eq_true (List.mem_filter.1 hx).2 e1
theorem delM_out {L : List (κ × ε)} {p : κ} (h : getM L p = none) : delM L p = L := List.filter_eq_self.2 fun x hx => decide_eq_true (getM_none h x hx)
theorem delM_perm {L : List (κ × ε)} (hk : KNM L) {x : κ × ε} (h : x ∈ L) : (x :: delM L x.1).Perm L := by
  induction L with
  | nil => cases h
  | cons y L ih =>
    unfold KNM at hk
    rw [List.map_cons, List.nodup_cons] at hk
    rcases List.mem_cons.1 h with rfl | h
    · have : delM (x :: L) x.1 = L := by
        unfold delM
        rw [List.filter_cons, if_neg (by simp)]
        exact List.filter_eq_self.2 fun z hz => decide_eq_true fun e => hk.1 (e ▸ List.mem_map_of_mem hz)
      rw [this]
    · have hne : y.1 ≠ x.1 := fun e => hk.1 (e ▸ List.mem_map_of_mem h)
      have : delM (y :: L) x.1 = y :: delM L x.1 := by unfold delM; rw [List.filter_cons, if_pos (decide_eq_true hne)]
      rw [this]
      exact (List.Perm.swap y x _).trans ((ih hk.2 h).cons y)
theorem getM_put {L : List (κ × ε)} (h : KNM L) (p q : κ) (e : ε) : getM (putM L p e) q = if q = p then some e else getM L q := by
  by_cases c : q = p
  · rw [if_pos c, c]; exact (getM_iff (putM_kn h p e)).2 (by simp [putM])
  · rw [if_neg c]
    cases g : getM L q with
    | some u => exact (getM_iff (putM_kn h p e)).2 (List.mem_cons_of_mem _ (List.mem_filter.2 ⟨getM_some g, decide_eq_true c⟩))
    | none =>
      cases f : getM (putM L p e) q with
      | none => rfl
      | some u =>
        rcases List.mem_cons.1 (getM_some f) with k | k
        · exact absurd (congrArg Prod.fst k) c
        · exact absurd rfl (getM_none g _ (List.mem_filter.1 k).1)
theorem getM_del {L : List (κ × ε)} (h : KNM L) (p q : κ) : getM (delM L p) q = if q = p then none else getM L q := by
  by_cases c : q = p
  · rw [if_pos c]
    cases f : getM (delM L p) q with
    | none => rfl
    | some u => exact absurd c (of_decide_eq_true (List.mem_filter.1 (getM_some f)).2)
  · rw [if_neg c]
    cases g : getM L q with
    | some u => exact (getM_iff (delM_kn h p)).2 (List.mem_filter.2 ⟨getM_some g, decide_eq_true c⟩)
    | none =>
      cases f : getM (delM L p) q with
      | none => rfl
      | some u => exact absurd rfl (getM_none g _ (List.mem_filter.1 (getM_some f)).1)
end
/-! ### The map in memory -/
structure MT {κ ε : Type} (t k v : TypeId) (kv : κ → Value) (ok : κ → Prop) (ev : ε → Value) (zv : Value) : Prop where
  und : Try.prog.underlying t = some (.map k v)
  keyed : Keyed Try.prog k
  key : ∀ p, ok p → ∃ kl, keyOf Try.prog k (kv p) = some kl
  inj : ∀ p q, ok p → ok q → kv p = kv q → p = q
  zero : ∀ w, (zeroValue v).run Try.prog w = .ok zv w
section
variable {κ ε : Type} {t k v : TypeId} {kv : κ → Value} {ok : κ → Prop} {ev : ε → Value} {zv : Value}
def entM (kv : κ → Value) (ev : ε → Value) (y : (κ × ε) × Nat) : MapEntry := ⟨kv y.1.1, ev y.1.2, y.2⟩
structure MQM (kv : κ → Value) (ok : κ → Prop) (ev : ε → Value) (b : Nat) (L : List (κ × ε)) (w : World) (Y : List ((κ × ε) × Nat)) (c : Nat) : Prop where
  at_ : w.heap[b]? = some (.map (Y.map (entM kv ev)).toArray c)
  perm : (Y.map (·.1)).Perm L
  lt : ∀ y ∈ Y, y.2 < c
  nd : (Y.map (·.2)).Nodup
  all : ∀ x ∈ L, ok x.1
  kn : KNM L
def TMM (kv : κ → Value) (ok : κ → Prop) (ev : ε → Value) (w : World) (b : Nat) (L : List (κ × ε)) : Prop := ∃ Y c, MQM kv ok ev b L w Y c
variable {w w' : World} {b : Nat} {L : List (κ × ε)} {Y : List ((κ × ε) × Nat)} {c : Nat}
theorem MQM.mem (h : MQM kv ok ev b L w Y c) {y : (κ × ε) × Nat} (hy : y ∈ Y) : y.1 ∈ L := h.perm.mem_iff.1 (List.mem_map_of_mem hy)
theorem MQM.keys (M : MT t k v kv ok ev zv) (h : MQM kv ok ev b L w Y c) : ∀ e ∈ Y.map (entM kv ev), ∃ l, keyOf Try.prog k e.key = some l := fun e he => by
  obtain ⟨y, hy, rfl⟩ := List.mem_map.1 he
  exact M.key _ (h.all _ (h.mem hy))
theorem MQM.find [DecidableEq κ] (M : MT t k v kv ok ev zv) (h : MQM kv ok ev b L w Y c) (x : World) {p : κ} (hp : ok p) :
    ((Instr.findKey k (kv p) (Y.map (entM kv ev))).run Try.prog x = .ok none x ∧ getM L p = none) ∨ ∃ j y, (Instr.findKey k (kv p) (Y.map (entM kv ev))).run Try.prog x = .ok (some (j, ev y.1.2)) x ∧ Y[j]? = some y ∧ y.1.1 = p ∧ getM L p = some y.1.2 := by
  obtain ⟨kl, hk⟩ := M.key p hp
  rcases M.keyed.find x hk (Y.map (entM kv ev)) (h.keys M) with ⟨h1, h2⟩ | ⟨j, e, h1, h2, h3⟩
  · refine .inl ⟨h1, ?_⟩
    cases e : getM L p with
    | none => rfl
    | some z =>
      obtain ⟨y, hy, hyz⟩ := List.mem_map.1 (h.perm.mem_iff.2 (getM_some e))
      exact absurd (by show kv y.1.1 = _; rw [hyz]) (h2 (entM kv ev y) (List.mem_map_of_mem hy))
  · rw [List.getElem?_map] at h2
    cases e2 : Y[j]? with
    | none => rw [e2] at h2; cases h2
    | some y =>
      rw [e2] at h2
      cases h2
      have hy := List.mem_of_getElem? e2
      have hpp : y.1.1 = p := M.inj _ _ (h.all _ (h.mem hy)) hp h3
      exact .inr ⟨j, y, h1, e2, hpp, by rw [← hpp]; exact getM_mem h.kn (h.mem hy)⟩
theorem TMM.lt (h : TMM kv ok ev w b L) : b < w.heap.size := by
  obtain ⟨Y, c, h⟩ := h
  exact lt_of_heap h.at_
theorem TMM.kn (h : TMM kv ok ev w b L) : KNM L := by
  obtain ⟨Y, c, h⟩ := h
  exact h.kn
theorem TMM.all (h : TMM kv ok ev w b L) : ∀ x ∈ L, ok x.1 := by
  obtain ⟨Y, c, h⟩ := h
  exact h.all
theorem TMM.gros {S : List Nat} (h : TMM kv ok ev w b L) (G : GroS S w w') (hb : b ∉ S) : TMM kv ok ev w' b L := by
  obtain ⟨Y, c, h⟩ := h
  exact ⟨Y, c, G.has h.at_ hb, h.perm, h.lt, h.nd, h.all, h.kn⟩
theorem TMM.gro (h : TMM kv ok ev w b L) (G : Gro w w') : TMM kv ok ev w' b L := h.gros (S := []) (.of G) (by simp)
theorem TMM.nec (h : TMM kv ok ev w b L) {g : Nat} {cs : Array Value} {t : TypeId} {fr : Nat × Nat} (hg : w.heap[g]? = some (.cells cs t fr)) : g ≠ b := fun e => by
  obtain ⟨Y, c, h⟩ := h
  rw [e, h.at_] at hg
  cases hg
theorem TMM.perm {M : List (κ × ε)} (h : TMM kv ok ev w b L) (p : L.Perm M) : TMM kv ok ev w b M := by
  obtain ⟨Y, c, h⟩ := h
  exact ⟨Y, c, h.at_, h.perm.trans p, h.lt, h.nd, fun x hx => h.all x (p.mem_iff.2 hx), h.kn.perm p⟩
theorem TMM.made (kv : κ → Value) (ok : κ → Prop) (ev : ε → Value) (w : World) : TMM kv ok ev (w.alloc (.map #[] 0)) w.heap.size [] := ⟨[], 0, heap_alloc_new _ _, List.Perm.refl _, by simp, by simp, by simp, by simp [KNM]⟩
def evO (ev : ε → Value) (zv : Value) : Option ε → Value
  | some e => ev e
  | none => zv
theorem TMM.look1 [DecidableEq κ] (M : MT t k v kv ok ev zv) (h : TMM kv ok ev w b L) {p : κ} (hp : ok p) : (Instr.lookup t (.map (some b)) (kv p) false).run Try.prog w = .ok (evO ev zv (getM L p)) w := by
  obtain ⟨Y, c, h⟩ := h
  obtain ⟨kl, hk⟩ := M.key p hp
  rcases h.find M w hp with ⟨h1, h2⟩ | ⟨j, y, h1, _, _, h2⟩
  · simp [Instr.lookup, run_underlying M.und, MapKept.run_getObj_map h.at_, M.keyed.check w _ hk, h1, Result.andThen, h2, M.zero, evO]
  · simp [Instr.lookup, run_underlying M.und, MapKept.run_getObj_map h.at_, M.keyed.check w _ hk, h1, Result.andThen, h2, evO]
theorem groS_setM (hb : w.heap[b]? = some (.map (Y.map (entM kv ev)).toArray c)) (o : Obj) : GroS [b] w (ChangeMaps.setBlock w b o) :=
  ⟨rfl, rfl, rfl, by simp [ChangeMaps.setBlock], fun k _ hk => ChangeMaps.heap_setBlock_other hb _ (by simpa using hk)⟩
theorem modify_set {α β : Type} (f : α → β) (Y : List α) (j : Nat) (hj : j < Y.length) (g : β → β) (y : α) (hy : g (f Y[j]) = f y) : (Y.map f).toArray.modify j g = ((Y.set j y).map f).toArray := by
  apply Array.toList_inj.1
  rw [Array.toList_modify]
  apply List.ext_getElem?
  intro i
  rw [List.getElem?_modify, List.getElem?_map, List.getElem?_map, List.getElem?_set]
  by_cases e : j = i
  · subst e
    rw [if_pos rfl, if_pos hj, List.getElem?_eq_getElem hj]
    simp [hy]
  · rw [if_neg e]
    simp [e]
/-- One is put in, or written over. -/
theorem TMM.put [DecidableEq κ] (M : MT t k v kv ok ev zv) (h : TMM kv ok ev w b L) {p : κ} (hp : ok p) (e : ε) :
    ∃ w', (Instr.mapUpdate t (.map (some b)) (kv p) (ev e)).run Try.prog w = .ok () w' ∧ TMM kv ok ev w' b (putM L p e) ∧ GroS [b] w w' := by
  obtain ⟨Y, c, h⟩ := h
  obtain ⟨kl, hk⟩ := M.key p hp
  have hall : ∀ x ∈ putM L p e, ok x.1 := fun x hx => by
    rcases List.mem_cons.1 hx with rfl | hx
    · exact hp
    · exact h.all x (List.mem_filter.1 hx).1
  rcases h.find M w hp with ⟨h1, h2⟩ | ⟨j, y, h1, hj, hyp, h2⟩
  · refine ⟨ChangeMaps.setBlock w b (.map ((Y ++ [((p, e), c)]).map (entM kv ev)).toArray (c + 1)), ?_, ⟨Y ++ [((p, e), c)], c + 1, ChangeMaps.heap_setBlock_same h.at_ _, ?_, ?_, ?_, hall, putM_kn h.kn p e⟩, groS_setM h.at_ _⟩
    · have e1 : ((Y ++ [((p, e), c)]).map (entM kv ev)).toArray = (Y.map (entM kv ev)).toArray.push ⟨kv p, ev e, c⟩ := by simp [entM]
      rw [e1]
      simp [Instr.mapUpdate, run_underlying M.und, MapKept.run_getObj_map h.at_, M.keyed.check w false hk, h1, MapKept.run_setObj_map _ h.at_, Result.andThen, ChangeMaps.setBlock]
    · rw [List.map_append]
      unfold putM
      rw [delM_out h2]
      exact List.perm_append_comm.trans (h.perm.cons (p, e))
    · intro y hy
      rcases List.mem_append.1 hy with hy | hy
      · have := h.lt y hy
        omega
      · rw [List.mem_singleton.1 hy]
        exact Nat.lt_succ_self c
    · rw [List.map_append, List.nodup_append]
      refine ⟨h.nd, by simp, fun a ha d hd => ?_⟩
      obtain ⟨y, hy, rfl⟩ := List.mem_map.1 ha
      have := h.lt y hy
      simp at hd
      omega
  · have hjl : j < Y.length := (List.getElem?_eq_some_iff.1 hj).1
    have hyj : Y[j] = y := (List.getElem?_eq_some_iff.1 hj).2
    have hy := List.mem_of_getElem? hj
    have hsub : (Y.map (entM kv ev)).toArray.modify j (fun x => { x with key := kv p, val := ev e }) = ((Y.set j ((p, e), y.2)).map (entM kv ev)).toArray := modify_set (entM kv ev) Y j hjl _ ((p, e), y.2) (by rw [hyj]; rfl)
    have hkj : (((Y.map (entM kv ev)).toArray[j]?).map (·.key)).getD (kv p) = kv p := by
      simp [hj, entM, hyp]
    have hb2 : ((Y.set j ((p, e), y.2)).map (·.2)) = Y.map (·.2) := by
      rw [List.map_set]
      apply List.ext_getElem?
      intro i
      rw [List.getElem?_set]
      by_cases q : j = i
      · subst q
        rw [if_pos rfl, if_pos (by simpa using hjl), List.getElem?_map, hj]
        rfl
      · rw [if_neg q]
    refine ⟨ChangeMaps.setBlock w b (.map ((Y.set j ((p, e), y.2)).map (entM kv ev)).toArray c), ?_, ⟨Y.set j ((p, e), y.2), c, ChangeMaps.heap_setBlock_same h.at_ _, ?_, ?_, by rw [hb2]; exact h.nd, hall, putM_kn h.kn p e⟩, groS_setM h.at_ _⟩
    · rw [← hsub]
      have hst := M.keyed.stays w hk
      simp only [Instr.mapUpdate, Sem.run_bind, run_underlying M.und, Result.andThen_ok, MapKept.run_getObj_map h.at_, M.keyed.check w false hk, h1, hkj, hst]
      simp [MapKept.run_setObj_map _ h.at_, ChangeMaps.setBlock]
    · have p1 : ((Y.set j ((p, e), y.2)).map (·.1)).Perm ((p, e) :: (Y.eraseIdx j).map (·.1)) := (set_permM Y j hjl ((p, e), y.2)).map (·.1)
      have p2 : (y.1 :: (Y.eraseIdx j).map (·.1)).Perm L := by
        have := erase_permM Y j hjl
        rw [hyj] at this
        exact (this.map (·.1)).trans h.perm
      have p3 : ((Y.eraseIdx j).map (·.1)).Perm (delM L p) := by
        refine List.Perm.cons_inv (a := y.1) (p2.trans ?_)
        have := delM_perm h.kn (h.mem hy)
        rw [hyp] at this
        exact this.symm
      exact p1.trans (p3.cons (p, e))
    · intro z hz
      rcases List.mem_or_eq_of_mem_set hz with hz | rfl
      · exact h.lt z hz
      · exact h.lt y hy
theorem TMM.del [DecidableEq κ] (M : MT t k v kv ok ev zv) (h : TMM kv ok ev w b L) {p : κ} (hp : ok p) (ty : TypeId) :
    ∃ w', (Builtin.delete_ #[t, k] ty #[.map (some b), kv p]).run Try.prog w = .ok (.tuple #[]) w' ∧ TMM kv ok ev w' b (delM L p) ∧ GroS [b] w w' := by
  obtain ⟨Y, c, h⟩ := h
  obtain ⟨kl, hk⟩ := M.key p hp
  rcases h.find M w hp with ⟨h1, h2⟩ | ⟨j, y, h1, hj, hyp, h2⟩
  · refine ⟨ChangeMaps.setBlock w b (.map (Y.map (entM kv ev)).toArray c), ?_, ?_, groS_setM h.at_ _⟩
    · simp [Builtin.delete_, run_underlying M.und, MapKept.run_getObj_map h.at_, M.keyed.check w _ hk, h1, MapKept.run_setObj_map _ h.at_, Result.andThen, ChangeMaps.setBlock]
    · rw [delM_out h2]
      exact ⟨Y, c, ChangeMaps.heap_setBlock_same h.at_ _, h.perm, h.lt, h.nd, h.all, h.kn⟩
  · have hjl : j < Y.length := (List.getElem?_eq_some_iff.1 hj).1
    have hyj : Y[j] = y := (List.getElem?_eq_some_iff.1 hj).2
    have hsub : (Y.map (entM kv ev)).toArray.eraseIdxIfInBounds j = ((Y.eraseIdx j).map (entM kv ev)).toArray := by
      apply Array.toList_inj.1
      unfold Array.eraseIdxIfInBounds
      rw [dif_pos (by simpa using hjl)]
      simp [erase_mapM]
    have hp1 : (y :: Y.eraseIdx j).Perm Y := by
      have := erase_permM Y j hjl
      rwa [hyj] at this
    have hy := List.mem_of_getElem? hj
    subst hyp
    refine ⟨ChangeMaps.setBlock w b (.map ((Y.eraseIdx j).map (entM kv ev)).toArray c), ?_, ⟨Y.eraseIdx j, c, ChangeMaps.heap_setBlock_same h.at_ _, ?_, fun z hz => h.lt z (List.mem_of_mem_eraseIdx hz), ?_, fun x hx => h.all x (List.mem_filter.1 hx).1, delM_kn h.kn _⟩, groS_setM h.at_ _⟩
    · rw [← hsub]
      simp [Builtin.delete_, run_underlying M.und, MapKept.run_getObj_map h.at_, M.keyed.check w _ hk, h1, MapKept.run_setObj_map _ h.at_, Result.andThen, ChangeMaps.setBlock]
    · refine List.Perm.cons_inv (a := y.1) ?_
      exact ((hp1.map (·.1)).trans h.perm).trans (delM_perm h.kn (h.mem hy)).symm
    · have := (hp1.map (·.2)).nodup_iff.2 h.nd
      rw [List.map_cons, List.nodup_cons] at this
      exact this.2
theorem TMM.len (M : MT t k v kv ok ev zv) (h : TMM kv ok ev w b L) (ty : TypeId) : (Builtin.len_ #[t] ty #[.map (some b)]).run Try.prog w = .ok (.int .i64 ((L.length : Nat) : Int)) w := by
  obtain ⟨Y, c, h⟩ := h
  have := h.perm.length_eq
  rw [List.length_map] at this
  simp [Builtin.len_, run_underlying M.und, MapKept.run_getObj_map h.at_, Result.andThen, goInt, this]
/-- A walk over the map is under way: these have come. -/
def RgMM (kv : κ → Value) (ok : κ → Prop) (ev : ε → Value) (w : World) (b r : Nat) (L S : List (κ × ε)) : Prop := ∃ (Y : List ((κ × ε) × Nat)) (c : Nat) (Z : List ((κ × ε) × Nat)) (seen : Array Nat), MQM kv ok ev b L w Y c ∧ w.heap[r]? = some (.mapIter (some b) c seen c) ∧ seen.toList = Z.map (·.2) ∧ S = Z.map (·.1) ∧ (∀ z ∈ Z, z ∈ Y) ∧ Z.Nodup
theorem RgMM.tm {r : Nat} {S : List (κ × ε)} (h : RgMM kv ok ev w b r L S) : TMM kv ok ev w b L := by
  obtain ⟨Y, c, Z, seen, h1, _⟩ := h
  exact ⟨Y, c, h1⟩
theorem RgMM.lt {r : Nat} {S : List (κ × ε)} (h : RgMM kv ok ev w b r L S) : r < w.heap.size := by
  obtain ⟨Y, c, Z, seen, h1, h2, _⟩ := h
  exact lt_of_heap h2
theorem RgMM.below {r B : Nat} {S : List (κ × ε)} (h : RgMM kv ok ev w b r L S) (G : Below B w w') (hb : b < B) (hr : r < B) : RgMM kv ok ev w' b r L S := by
  obtain ⟨Y, c, Z, seen, h1, h2, h3⟩ := h
  exact ⟨Y, c, Z, seen, ⟨(G.block b hb).trans h1.at_, h1.perm, h1.lt, h1.nd, h1.all, h1.kn⟩, (G.block r hr).trans h2, h3⟩
theorem RgMM.gro {r : Nat} {S : List (κ × ε)} (h : RgMM kv ok ev w b r L S) (G : Gro w w') : RgMM kv ok ev w' b r L S := h.below G h.tm.lt h.lt
theorem TMM.range (M : MT t k v kv ok ev zv) (h : TMM kv ok ev w b L) : (Instr.range t (.map (some b))).run Try.prog w = .ok (.pointer (some ⟨w.heap.size, 0, none⟩)) (w.alloc (.mapIter (some b) (match w.heap[b]? with | some (.map _ c) => c | _ => 0) #[] (match w.heap[b]? with | some (.map _ c) => c | _ => 0))) ∧ RgMM kv ok ev (w.alloc (.mapIter (some b) (match w.heap[b]? with | some (.map _ c) => c | _ => 0) #[] (match w.heap[b]? with | some (.map _ c) => c | _ => 0))) b w.heap.size L [] := by
  obtain ⟨Y, c, h⟩ := h
  rw [h.at_]
  refine ⟨run_range_map w t k v b _ c M.und h.at_, Y, c, [], #[], ⟨?_, h.perm, h.lt, h.nd, h.all, h.kn⟩, heap_alloc_new _ _, rfl, rfl, by simp, by simp⟩
  exact (gro_alloc w _).has h.at_
theorem nd_fstM {Y Z : List ((κ × ε) × Nat)} (hY : (Y.map (·.2)).Nodup) (hZ : Z.Nodup) (hs : ∀ z ∈ Z, z ∈ Y) : Z.length ≤ Y.length := by
  have hz2 : (Z.map (·.2)).Nodup := by
    rw [List.nodup_iff_pairwise_ne, List.pairwise_map]
    exact List.Pairwise.imp_of_mem (fun {a c} ha hc hne e => hne (nd_injM hY (hs a ha) (hs c hc) e)) (List.nodup_iff_pairwise_ne.1 hZ)
  have : (Z.map (·.2)).Perm ((Y.map (·.2)).filter fun y => decide (y ∈ Z.map (·.2))) := (List.perm_ext_iff_of_nodup hz2 (List.Nodup.sublist List.filter_sublist hY)).2 fun z => by
    rw [List.mem_filter, decide_eq_true_eq]
    exact ⟨fun h => ⟨by obtain ⟨a, ha, e⟩ := List.mem_map.1 h; exact List.mem_map.2 ⟨a, hs a ha, e⟩, h⟩, fun h => h.2⟩
  have h2 := this.length_eq
  rw [List.length_map] at h2
  have h3 := List.length_filter_le (fun y => decide (y ∈ Z.map (·.2))) (Y.map (·.2))
  rw [List.length_map] at h3
  omega
theorem RgMM.len {r : Nat} {S : List (κ × ε)} (h : RgMM kv ok ev w b r L S) : S.length ≤ L.length := by
  obtain ⟨Y, c, Z, seen, h1, _, _, h3, h4, h5⟩ := h
  have := nd_fstM h1.nd h5 h4
  have e := h1.perm.length_eq
  rw [List.length_map] at e
  rw [h3, List.length_map]
  omega
/-- The next one: none is left, or one that hasn't come. -/
theorem RgMM.next {r : Nat} {S : List (κ × ε)} (h : RgMM kv ok ev w b r L S) (ty : TypeId) :
    (S.Perm L ∧ (Instr.next (.pointer (some ⟨r, 0, none⟩)) false ty).run Try.prog w = .ok (.tuple #[.bool false]) w) ∨
    ∃ x w', x ∈ L ∧ (Instr.next (.pointer (some ⟨r, 0, none⟩)) false ty).run Try.prog w = .ok (.tuple #[.bool true, kv x.1, ev x.2]) w' ∧ RgMM kv ok ev w' b r L (S ++ [x]) ∧ GroS [r] w w' ∧
      (Instr.entry (.pointer (some ⟨r, 0, none⟩))).run Try.prog w' = .ok (.tuple #[kv x.1, ev x.2]) w' := by
  obtain ⟨Y, c, Z, seen, h1, h2, h3, h4, h5, h6⟩ := h
  have hsz : ∀ y ∈ Y, (seen.contains y.2 = true ↔ y ∈ Z) := fun y hy => by
    rw [Array.contains_iff_mem, ← Array.mem_toList_iff, h3]
    constructor
    · intro hm
      obtain ⟨z, hz, e⟩ := List.mem_map.1 hm
      have : z = y := nd_injM h1.nd (h5 z hz) hy e
      exact this ▸ hz
    · intro hm
      exact List.mem_map_of_mem hm
  rcases run_next_at (P := Try.prog) w ty r b c c seen (Y.map (entM kv ev)).toArray c h2 h1.at_ (fun x hx => by
      obtain ⟨y, hy, rfl⟩ := List.mem_map.1 hx
      exact h1.lt y hy) (Nat.le_refl _) with ⟨h0, hrun⟩ | ⟨e, he, w1, hal, hrun⟩
  · refine .inl ⟨?_, hrun⟩
    have hall := all_seen _ _ h0
    have hYZ : ∀ y ∈ Y, y ∈ Z := fun y hy => (hsz y hy).1 (hall (entM kv ev y) (List.mem_map_of_mem hy))
    have hYn : Y.Nodup := nd_ofM h1.nd
    have hp : Z.Perm Y := (List.perm_ext_iff_of_nodup h6 hYn).2 fun z => ⟨h5 z, hYZ z⟩
    rw [h4]
    exact (hp.map _).trans h1.perm
  · obtain ⟨hem, hes⟩ := mem_left he
    obtain ⟨y, hy, rfl⟩ := List.mem_map.1 hem
    have hyZ : y ∉ Z := fun hz => by
      have := (hsz y hy).2 hz
      rw [show (entM kv ev y).born = y.2 from rfl] at hes
      rw [hes] at this
      cases this
    have hne : r ≠ b := fun e => by rw [e, h1.at_] at h2; cases h2
    have hr1 : w1.heap[r]? = some (.mapIter (some b) c seen c) := by rcases hal with rfl | rfl <;> exact h2
    have hb1 : w1.heap[b]? = some (.map (Y.map (entM kv ev)).toArray c) := by rcases hal with rfl | rfl <;> exact h1.at_
    have hset := MapKept.heap_set (o' := .mapIter (some b) c (seen.push y.2) c) hr1
    have hb' : (ChangeMaps.setBlock w1 r (.mapIter (some b) c (seen.push y.2) c)).heap[b]? = some (.map (Y.map (entM kv ev)).toArray c) := (hset.2 b (fun e1 => hne e1.symm)).trans hb1
    refine .inr ⟨y.1, _, h1.mem hy, hrun, ⟨Y, c, Z ++ [y], seen.push y.2, ⟨hb', h1.perm, h1.lt, h1.nd, h1.all, h1.kn⟩, hset.1, by simp [h3], by simp [h4], ?_, ?_⟩, ?_, ?_⟩
    · intro z hz
      rcases List.mem_append.1 hz with hz | hz
      · exact h5 z hz
      · rw [List.mem_singleton.1 hz]; exact hy
    · rw [List.nodup_append]
      exact ⟨h6, by simp, fun a ha d hd => by rw [List.mem_singleton.1 hd]; rintro rfl; exact hyZ ha⟩
    · rcases hal with rfl | rfl <;> exact ⟨rfl, rfl, rfl, by simp [ChangeMaps.setBlock], fun i _ hi => hset.2 i (by simpa using hi)⟩
    · exact run_entry_at _ r b c seen (Y.map (entM kv ev)).toArray c (entM kv ev y) hset.1 hb' (List.mem_map_of_mem hy) (by
        rw [show ((Y.map (entM kv ev)).toArray.toList.map (·.born)) = Y.map (·.2) by simp [entM]]
        exact h1.nd)
end
/-! ### Operations on maps -/
section
variable {κ ε : Type} {t k v : TypeId} {kv : κ → Value} {ok : κ → Prop} {ev : ε → Value} {zv : Value} {w w' : World} {b r g : Nat} {L S : List (κ × ε)} {ops : Array Oper} {rest : List Oper} {o : Oper} {T : List Value} {ds : List Deferred} {Q : Exit → Act → World → Prop}
theorem TMM.ne (h : TMM kv ok ev w b L) (e : w.heap.size = g) : b ≠ g := by have := h.lt; omega
theorem TMM.st {x : Obj} (h : TMM kv ok ev w b L) (St : Stored w w' g x) (hn : b ≠ g) : TMM kv ok ev w' b L := h.gros St.gros (by simpa using hn)
theorem RgMM.ne (h : RgMM kv ok ev w b r L S) (e : w.heap.size = g) : b ≠ g ∧ r ≠ g := by
  have h1 := h.tm.lt
  have h2 := h.lt
  omega
theorem RgMM.st {x : Obj} (h : RgMM kv ok ev w b r L S) (St : Stored w w' g x) (hn : b ≠ g ∧ r ≠ g) : RgMM kv ok ev w' b r L S := by
  obtain ⟨Y, c, Z, seen, h1, h2, h3⟩ := h
  exact ⟨Y, c, Z, seen, ⟨St.has hn.1 h1.at_, h1.perm, h1.lt, h1.nd, h1.all, h1.kn⟩, St.has hn.2 h2, h3⟩
theorem run_lk1M [DecidableEq κ] {A : Act} (M : MT t k v kv ok ev zv) (h : TMM kv ok ev w b L) (x y : Operand) (ho : o.op = .lookup t x y false) (hx : A.eval x = .map (some b)) (p : κ) (hy : A.eval y = kv p) (hp : ok p) :
    (execOp A.eval o).run Try.prog w = .ok (.value (evO ev zv (getM L p))) w := by
  unfold execOp
  simp only [ho, hx, hy, Sem.run_bind, TMM.look1 M h hp, Result.andThen_ok, Sem.run_pure]
theorem s_mkMM (kv : κ → Value) (ok : κ → Prop) (ev : ε → Value) (dst : Nat) (hd : o.dst = some dst) (hgd : o.guard = none) (ho : o.op = .makeMap t none)
    (h : ∀ w' g, Gro w w' → w.heap.size = g → TMM kv ok ev w' g [] → wpList Try.prog ops Q rest ⟨(T.set dst (.map (some g))).toArray, ds⟩ w') : wpList Try.prog ops Q (o :: rest) ⟨T.toArray, ds⟩ w := by
  refine wpList_plain hgd fun _ hK => ?_
  have he : (execOp (Act.eval ⟨T.toArray, ds⟩) o).run Try.prog w = .ok (.value (.map (some w.heap.size))) (w.alloc (.map #[] 0)) := by
    unfold execOp
    simp only [ho, Option.map_none, Sem.run_bind, run_makeMap, Result.andThen_ok, Sem.run_pure]
  unfold Oper.wp
  rw [he, Oper.upon_value, hd, put_list]
  exact hK _ _ (h _ _ (gro_alloc _ _) rfl (TMM.made kv ok ev w))
theorem s_mputM [DecidableEq κ] (M : MT t k v kv ok ev zv) (hgd : o.guard = none) (hdst : o.dst = none) (m x u : Operand) (ho : o.op = .mapUpdate t m x u) (h : TMM kv ok ev w b L) (hm : (⟨T.toArray, ds⟩ : Act).eval m = .map (some b)) (p : κ) (hx : (⟨T.toArray, ds⟩ : Act).eval x = kv p) (hp : ok p) (e : ε) (hv : (⟨T.toArray, ds⟩ : Act).eval u = ev e)
    (hk : ∀ w', TMM kv ok ev w' b (putM L p e) → GroS [b] w w' → wpList Try.prog ops Q rest ⟨T.toArray, ds⟩ w') : wpList Try.prog ops Q (o :: rest) ⟨T.toArray, ds⟩ w := by
  refine wpList_plain hgd fun _ hK => ?_
  obtain ⟨w', hr, h1, h2⟩ := h.put M hp e
  have he : (execOp (Act.eval ⟨T.toArray, ds⟩) o).run Try.prog w = .ok (.value undef) w' ∨ (execOp (Act.eval ⟨T.toArray, ds⟩) o).run Try.prog w = .ok .skip w' := by
    unfold execOp
    simp [ho, hm, hx, hv, hr]
  have := hK _ _ (hk w' h1 h2)
  unfold Oper.wp
  rcases he with he | he <;> rw [he] <;> first | (rw [Oper.upon_value, hdst]; exact this) | (simp only [Oper.upon, hdst]; exact this)
theorem s_delM [DecidableEq κ] (M : MT t k v kv ok ev zv) (hgd : o.guard = none) (hdst : o.dst = none) (m x : Operand) (ho : o.op = .call { callee := .builtin .delete, args := #[m, x], argTypes := #[t, k] }) (h : TMM kv ok ev w b L) (hm : (⟨T.toArray, ds⟩ : Act).eval m = .map (some b)) (p : κ) (hx : (⟨T.toArray, ds⟩ : Act).eval x = kv p) (hp : ok p)
    (hk : ∀ w', TMM kv ok ev w' b (delM L p) → GroS [b] w w' → wpList Try.prog ops Q rest ⟨T.toArray, ds⟩ w') : wpList Try.prog ops Q (o :: rest) ⟨T.toArray, ds⟩ w := by
  refine wpList_plain hgd fun _ hK => ?_
  obtain ⟨w', hr, h1, h2⟩ := h.del M hp o.type
  have he : (execOp (Act.eval ⟨T.toArray, ds⟩) o).run Try.prog w = .ok (.value (.tuple #[])) w' := by
    unfold execOp
    simp [ho, resolve, invoke, builtin, hm, hx, hr, Result.andThen]
  have := hK _ _ (hk w' h1 h2)
  unfold Oper.wp
  rw [he, Oper.upon_value, hdst]
  exact this
theorem s_rangeM (M : MT t k v kv ok ev zv) (dst : Nat) (hd : o.dst = some dst) (hgd : o.guard = none) (m : Operand) (ho : o.op = .range t m) (h : TMM kv ok ev w b L) (hm : (⟨T.toArray, ds⟩ : Act).eval m = .map (some b))
    (hk : ∀ w' r, RgMM kv ok ev w' b r L [] → Gro w w' → w.heap.size = r → w'.heap.size = r + 1 → wpList Try.prog ops Q rest ⟨(T.set dst (.pointer (some ⟨r, 0, none⟩))).toArray, ds⟩ w') : wpList Try.prog ops Q (o :: rest) ⟨T.toArray, ds⟩ w := by
  refine wpList_plain hgd fun _ hK => ?_
  have h' : ∃ w', (Instr.range t (.map (some b))).run Try.prog w = .ok (.pointer (some ⟨w.heap.size, 0, none⟩)) w' ∧ RgMM kv ok ev w' b w.heap.size L [] ∧ Gro w w' ∧ w'.heap.size = w.heap.size + 1 := ⟨_, (h.range M).1, (h.range M).2, gro_alloc _ _, by simp⟩
  obtain ⟨w', hr, h1, h2, h3⟩ := h'
  have he : (execOp (Act.eval ⟨T.toArray, ds⟩) o).run Try.prog w = .ok (.value (.pointer (some ⟨w.heap.size, 0, none⟩))) w' := by
    unfold execOp
    simp only [ho, hm, Sem.run_bind, hr, Result.andThen_ok, Sem.run_pure]
  unfold Oper.wp
  rw [he, Oper.upon_value, hd, put_list]
  exact hK _ _ (hk _ _ h1 h2 rfl h3)
theorem run_entM {A : Act} {u : Value} (it : Operand) (ho : o.op = .entry it) (p : Value) (hi : A.eval it = p) (h : (Instr.entry p).run Try.prog w = .ok u w) : (execOp A.eval o).run Try.prog w = .ok (.value u) w := by
  unfold execOp
  simp only [ho, hi, Sem.run_bind, h, Result.andThen_ok, Sem.run_pure]
end
end Go.Proofs.Ytjahegiopigblaa
