import Derived.Test.YtgfnjekpafempaaGreatBA1
import Derived.Maps.RangeWalk
import Derived.DeepKeys4
import Derived.WideKeyEntry
import Derived.Test.YtgfnjekpafempaaGreatBV2
namespace Go.Proofs.YtgfnjekpafempaaGreat
open Go.Proofs.Tryz
open Go.RowKit Go.Maps
theorem idA_inj {a b : Nat} (ha : a < top) (hb : b < top) (h : idA a = idA b) : a = b := by
  refine ul ha hb ?_
  intro i hi
  have h1 := zX a i hi
  have h2 := zX b i hi
  rw [h, h2] at h1
  simp only [Option.some.injEq, Value.int.injEq, true_and] at h1
  omega
theorem laidM : laidOutB Tryz.prog = true := by kernel_rfl
theorem rowMI : (38 : TypeId) < Tryz.prog.types.size := of_decide_eq_true (by kernel_rfl)
theorem wideMI : (match Tryz.prog.underlying 38 with | some (.array _ _) | some (.struct _) => true | _ => false) = true := by rw [underlying38]
theorem cellsMI : Tryz.prog.cellsOf 38 = 16 := by kernel_rfl
theorem cellsM5 : Tryz.prog.cellsOf 5 = 1 := by kernel_rfl
set_option maxRecDepth 100000 in
theorem lawMI : WideMaps.KeyLaw Tryz.prog 38 := deep_law_laid laidM (m := 2) (by omega) rowMI (by kernel_rfl) wideMI
theorem keyedI : Keyed Tryz.prog 38 := Keyed.of_law lawMI
theorem ZX {α β : Type} (f : α → Option β) : ∀ l : List α, (∀ x ∈ l, ∃ y, f x = some y) → ∃ r, l.mapM f = some r
  | [], _ => ⟨[], rfl⟩
  | x :: r, h => by
    obtain ⟨y, hy⟩ := h x List.mem_cons_self
    obtain ⟨s, hs⟩ := ZX f r fun z hz => h z (List.mem_cons_of_mem _ hz)
    exact ⟨y :: s, by simp [List.mapM_cons, hy, hs]⟩
theorem keyI (p : Nat) : ∃ kl, keyOf Tryz.prog 38 (.agg (idA p)) = some kl := by
  have hk : Tryz.prog.keyType 38 = true := by kernel_rfl
  have hf : (eA p).formed Tryz.prog 38 = true := by simp [Value.formed, underlying38, cellsMI, zI]
  obtain ⟨m, hm⟩ : ∃ m, Tryz.prog.types.size + 1 = m + 1 + 1 := ⟨Tryz.prog.types.size - 1, by kernel_rfl⟩
  have h5 : ∀ b : Nat, b < 256 → Tryz.prog.keyLits (m + 1) 5 [.int .u8 (b : Int)] = some [.int .u8 (b : Int)] := fun b hb => by
    unfold Program.keyLits
    rw [underlying5]
    refine if_pos ⟨rfl, ?_⟩
    simp [Lit.wf, IntKind.min, IntKind.max, IntKind.signed, IntKind.bits]
    omega
  have h29 : ∃ r, Tryz.prog.keyLits (m + 1 + 1) 38 (idA p).toList = some r := by
    unfold Program.keyLits
    rw [underlying38]
    simp only []
    rw [if_pos (by rw [cellsMI]; exact uG _)]
    obtain ⟨r, hr⟩ := ZX (fun i => Tryz.prog.keyLits (m + 1) 5 (((idA p).toList.drop (i * Tryz.prog.cellsOf 5)).take (Tryz.prog.cellsOf 5))) (List.range 16) fun i hi => by
      have hi16 : i < 16 := by simpa using hi
      have e : ((idA p).toList.drop (i * Tryz.prog.cellsOf 5)).take (Tryz.prog.cellsOf 5) = [.int .u8 (byt p i : Int)] := by
        rw [cellsM5, Nat.mul_one, List.drop_eq_getElem_cons (by rw [uG]; exact hi16), List.take_succ_cons, List.take_zero]
        have := zX p i hi16
        rw [← Array.getElem?_toList] at this
        rw [(List.getElem?_eq_some_iff.1 this).2]
      exact ⟨_, by rw [e]; exact h5 _ (Qv _ _)⟩
    exact ⟨_, by rw [hr]; rfl⟩
  obtain ⟨r, hr⟩ := h29
  refine ⟨.string (keyBytes r), ?_⟩
  unfold keyOf
  rw [underlying38]
  simp only [hk, hf, Bool.and_self, if_true]
  rw [hm, show (eA p).cells.toList = (idA p).toList from rfl, hr]
  rfl
/-! ### Lists of keys with what belongs to them -/
theorem Zf {α : Type} : ∀ (l : List α) (j : Nat) (hj : j < l.length), (l[j] :: l.eraseIdx j).Perm l
  | [], _, hj => by simp at hj
  | _ :: _, 0, _ => List.Perm.refl _
  | x :: r, j + 1, hj => by
    have := Zf r j (by simpa using hj)
    exact (List.Perm.swap x _ _).trans (this.cons x)
theorem Yr {α : Type} : ∀ (l : List α) (j : Nat) (_ : j < l.length) (x : α), (l.set j x).Perm (x :: l.eraseIdx j)
  | [], _, hj, _ => by simp at hj
  | _ :: _, 0, _, _ => List.Perm.refl _
  | y :: r, j + 1, hj, x => by
    have := Yr r j (by simpa using hj) x
    exact (this.cons y).trans (List.Perm.swap x y _)
theorem JA {α β : Type} {f : α → β} : ∀ {l : List α}, (l.map f).Nodup → ∀ {x y : α}, x ∈ l → y ∈ l → f x = f y → x = y
  | [], _, _, _, hx, _, _ => by cases hx
  | z :: r, h, x, y, hx, hy, e => by
    rw [List.map_cons, List.nodup_cons] at h
    rcases List.mem_cons.1 hx with e1 | hx1
    · rcases List.mem_cons.1 hy with e2 | hy1
      · rw [e1, e2]
      · exact absurd (by rw [← e1, e]; exact List.mem_map_of_mem hy1) h.1
    · rcases List.mem_cons.1 hy with e2 | hy1
      · exact absurd (by rw [← e2, ← e]; exact List.mem_map_of_mem hx1) h.1
      · exact JA h.2 hx1 hy1 e
theorem nd_ofM {α β : Type} {f : α → β} {l : List α} (h : (l.map f).Nodup) : l.Nodup := by
  rw [List.nodup_iff_pairwise_ne] at *
  rw [List.pairwise_map] at h
  exact h.imp fun h e => h (by rw [e])
section
variable {κ ε : Type}
def KNM (L : List (κ × ε)) : Prop := (L.map (·.1)).Nodup
theorem KNM.perm {L M : List (κ × ε)} (h : KNM L) (p : L.Perm M) : KNM M := (List.Perm.nodup_iff (p.map (fun x : κ × ε => x.1))).1 h
variable [DecidableEq κ]
def getM (L : List (κ × ε)) (p : κ) : Option ε := (L.find? fun x => decide (x.1 = p)).map (·.2)
def delM (L : List (κ × ε)) (p : κ) : List (κ × ε) := L.filter fun x => decide (x.1 ≠ p)
def putM (L : List (κ × ε)) (p : κ) (e : ε) : List (κ × ε) := (p, e) :: delM L p
theorem zh {L : List (κ × ε)} {p : κ} {e : ε} (h : getM L p = some e) : (p, e) ∈ L := by
  unfold getM at h
  cases g : L.find? fun x => decide (x.1 = p) with
  | none => rw [g] at h; cases h
  | some x =>
    rw [g] at h
    cases h
    have h1 : x.1 = p := by simpa using List.find?_some g
    have h2 := List.mem_of_find?_eq_some g
    obtain ⟨a, b⟩ := x
    simp only at h1
    subst h1
    exact h2
theorem uI {L : List (κ × ε)} {p : κ} (h : getM L p = none) : ∀ x ∈ L, x.1 ≠ p := fun x hx e => by
  unfold getM at h
  rw [Option.map_eq_none_iff] at h
  have := List.find?_eq_none.1 h x hx
  simp [e] at this
theorem Yd {L : List (κ × ε)} (hk : KNM L) {x : κ × ε} (h : x ∈ L) : getM L x.1 = some x.2 := by
  cases g : getM L x.1 with
  | none => exact absurd rfl (uI g x h)
  | some e =>
    have := JA hk (zh g) h rfl
    rw [← this]
theorem Uy {L : List (κ × ε)} (hk : KNM L) {p : κ} {e : ε} : getM L p = some e ↔ (p, e) ∈ L := ⟨zh, fun h => Yd hk h⟩
theorem delM_kn {L : List (κ × ε)} (h : KNM L) (p : κ) : KNM (delM L p) := List.Nodup.sublist (List.Sublist.map _ List.filter_sublist) h
theorem Zw {L : List (κ × ε)} (h : KNM L) (p : κ) (e : ε) : KNM (putM L p e) := by
  unfold KNM putM
  rw [List.map_cons, List.nodup_cons]
  refine ⟨fun hm => ?_, delM_kn h p⟩
  obtain ⟨x, hx, e1⟩ := List.mem_map.1 hm
  exact of_decide_eq_true (List.mem_filter.1 hx).2 e1
theorem delM_out {L : List (κ × ε)} {p : κ} (h : getM L p = none) : delM L p = L := List.filter_eq_self.2 fun x hx => decide_eq_true (uI h x hx)
theorem jaz {L : List (κ × ε)} (hk : KNM L) {x : κ × ε} (h : x ∈ L) : (x :: delM L x.1).Perm L := by
  induction L with
  | nil => cases h
  | cons y L ih =>
    unfold KNM at hk
    rw [List.map_cons, List.nodup_cons] at hk
    rcases List.mem_cons.1 h with rfl | h
    · have : delM (x :: L) x.1 = L := by
        unfold delM
        rw [List.filter_cons, if_neg (by simp)]
        exact List.filter_eq_self.2 fun z hz => decide_eq_true fun e => hk.1 (e ▸ List.mem_map_of_mem hz)
      rw [this]
    · have hne : y.1 ≠ x.1 := fun e => hk.1 (e ▸ List.mem_map_of_mem h)
      have : delM (y :: L) x.1 = y :: delM L x.1 := by unfold delM; rw [List.filter_cons, if_pos (decide_eq_true hne)]
      rw [this]
      exact (List.Perm.swap y x _).trans ((ih hk.2 h).cons y)
theorem getM_put {L : List (κ × ε)} (h : KNM L) (p q : κ) (e : ε) : getM (putM L p e) q = if q = p then some e else getM L q := by
  by_cases c : q = p
  · rw [if_pos c, c]; exact (Uy (Zw h p e)).2 (by simp [putM])
  · rw [if_neg c]
    cases g : getM L q with
    | some u => exact (Uy (Zw h p e)).2 (List.mem_cons_of_mem _ (List.mem_filter.2 ⟨zh g, decide_eq_true c⟩))
    | none =>
      cases f : getM (putM L p e) q with
      | none => rfl
      | some u =>
        rcases List.mem_cons.1 (zh f) with k | k
        · exact absurd (congrArg Prod.fst k) c
        · exact absurd rfl (uI g _ (List.mem_filter.1 k).1)
end
/-! ### The map in memory -/
structure MT {κ ε : Type} (t k v : TypeId) (kv : κ → Value) (ok : κ → Prop) (ev : ε → Value) (zv : Value) : Prop where
  und : Tryz.prog.underlying t = some (.map k v)
  keyed : Keyed Tryz.prog k
  key : ∀ p, ok p → ∃ kl, keyOf Tryz.prog k (kv p) = some kl
  inj : ∀ p q, ok p → ok q → kv p = kv q → p = q
  zero : ∀ w, (zeroValue v).run Tryz.prog w = .ok zv w
section
variable {κ ε : Type} {t k v : TypeId} {kv : κ → Value} {ok : κ → Prop} {ev : ε → Value} {zv : Value}
def entM (kv : κ → Value) (ev : ε → Value) (y : (κ × ε) × Nat) : MapEntry := ⟨kv y.1.1, ev y.1.2, y.2⟩
structure MQM (kv : κ → Value) (ok : κ → Prop) (ev : ε → Value) (b : Nat) (L : List (κ × ε)) (w : World) (Y : List ((κ × ε) × Nat)) (c : Nat) : Prop where
  at_ : w.heap[b]? = some (.map (Y.map (entM kv ev)).toArray c)
  perm : (Y.map (·.1)).Perm L
  lt : ∀ y ∈ Y, y.2 < c
  nd : (Y.map (·.2)).Nodup
  all : ∀ x ∈ L, ok x.1
  kn : KNM L
def TMM (kv : κ → Value) (ok : κ → Prop) (ev : ε → Value) (w : World) (b : Nat) (L : List (κ × ε)) : Prop := ∃ Y c, MQM kv ok ev b L w Y c
variable {w w' : World} {b : Nat} {L : List (κ × ε)} {Y : List ((κ × ε) × Nat)} {c : Nat}
theorem MQM.mem (h : MQM kv ok ev b L w Y c) {y : (κ × ε) × Nat} (hy : y ∈ Y) : y.1 ∈ L := h.perm.mem_iff.1 (List.mem_map_of_mem hy)
theorem MQM.keys (M : MT t k v kv ok ev zv) (h : MQM kv ok ev b L w Y c) : ∀ e ∈ Y.map (entM kv ev), ∃ l, keyOf Tryz.prog k e.key = some l := fun e he => by
  obtain ⟨y, hy, rfl⟩ := List.mem_map.1 he
  exact M.key _ (h.all _ (h.mem hy))
theorem MQM.find [DecidableEq κ] (M : MT t k v kv ok ev zv) (h : MQM kv ok ev b L w Y c) (x : World) {p : κ} (hp : ok p) :
    ((Instr.findKey k (kv p) (Y.map (entM kv ev))).run Tryz.prog x = .ok none x ∧ getM L p = none) ∨ ∃ j y, (Instr.findKey k (kv p) (Y.map (entM kv ev))).run Tryz.prog x = .ok (some (j, ev y.1.2)) x ∧ Y[j]? = some y ∧ y.1.1 = p ∧ getM L p = some y.1.2 := by
  obtain ⟨kl, hk⟩ := M.key p hp
  rcases M.keyed.find x hk (Y.map (entM kv ev)) (h.keys M) with ⟨h1, h2⟩ | ⟨j, e, h1, h2, h3⟩
  · refine .inl ⟨h1, ?_⟩
    cases e : getM L p with
    | none => rfl
    | some z =>
      obtain ⟨y, hy, hyz⟩ := List.mem_map.1 (h.perm.mem_iff.2 (zh e))
      exact absurd (by show kv y.1.1 = _; rw [hyz]) (h2 (entM kv ev y) (List.mem_map_of_mem hy))
  · rw [List.getElem?_map] at h2
    cases e2 : Y[j]? with
    | none => rw [e2] at h2; cases h2
    | some y =>
      rw [e2] at h2
      cases h2
      have hy := List.mem_of_getElem? e2
      have hpp : y.1.1 = p := M.inj _ _ (h.all _ (h.mem hy)) hp h3
      exact .inr ⟨j, y, h1, e2, hpp, by rw [← hpp]; exact Yd h.kn (h.mem hy)⟩
theorem TMM.lt (h : TMM kv ok ev w b L) : b < w.heap.size := by
  obtain ⟨Y, c, h⟩ := h
  exact ji h.at_
theorem TMM.kn (h : TMM kv ok ev w b L) : KNM L := by
  obtain ⟨Y, c, h⟩ := h
  exact h.kn
theorem TMM.all (h : TMM kv ok ev w b L) : ∀ x ∈ L, ok x.1 := by
  obtain ⟨Y, c, h⟩ := h
  exact h.all
theorem TMM.gros {S : List Nat} (h : TMM kv ok ev w b L) (G : GroS S w w') (hb : b ∉ S) : TMM kv ok ev w' b L := by
  obtain ⟨Y, c, h⟩ := h
  exact ⟨Y, c, G.has h.at_ hb, h.perm, h.lt, h.nd, h.all, h.kn⟩
theorem TMM.gro (h : TMM kv ok ev w b L) (G : Gro w w') : TMM kv ok ev w' b L := h.gros (S := []) (.of G) (by simp)
theorem TMM.nec (h : TMM kv ok ev w b L) {g : Nat} {cs : Array Value} {t : TypeId} {fr : Nat × Nat} (hg : w.heap[g]? = some (.cells cs t fr)) : g ≠ b := fun e => by
  obtain ⟨Y, c, h⟩ := h
  rw [e, h.at_] at hg
  cases hg
theorem TMM.perm {M : List (κ × ε)} (h : TMM kv ok ev w b L) (p : L.Perm M) : TMM kv ok ev w b M := by
  obtain ⟨Y, c, h⟩ := h
  exact ⟨Y, c, h.at_, h.perm.trans p, h.lt, h.nd, fun x hx => h.all x (p.mem_iff.2 hx), h.kn.perm p⟩
theorem TMM.made (kv : κ → Value) (ok : κ → Prop) (ev : ε → Value) (w : World) : TMM kv ok ev (w.alloc (.map #[] 0)) w.heap.size [] := ⟨[], 0, heap_alloc_new _ _, List.Perm.refl _, by simp, by simp, by simp, by simp [KNM]⟩
def evO (ev : ε → Value) (zv : Value) : Option ε → Value
  | some e => ev e
  | none => zv
theorem TMM.look2 [DecidableEq κ] (M : MT t k v kv ok ev zv) (h : TMM kv ok ev w b L) {p : κ} (hp : ok p) : (Instr.lookup t (.map (some b)) (kv p) true).run Tryz.prog w = .ok (.tuple #[evO ev zv (getM L p), .bool (getM L p).isSome]) w := by
  obtain ⟨Y, c, h⟩ := h
  obtain ⟨kl, hk⟩ := M.key p hp
  rcases h.find M w hp with ⟨h1, h2⟩ | ⟨j, y, h1, _, _, h2⟩
  · simp [Instr.lookup, run_underlying M.und, MapKept.run_getObj_map h.at_, M.keyed.check w _ hk, h1, Result.andThen, h2, M.zero, evO]
  · simp [Instr.lookup, run_underlying M.und, MapKept.run_getObj_map h.at_, M.keyed.check w _ hk, h1, Result.andThen, h2, evO]
theorem TMM.look1 [DecidableEq κ] (M : MT t k v kv ok ev zv) (h : TMM kv ok ev w b L) {p : κ} (hp : ok p) : (Instr.lookup t (.map (some b)) (kv p) false).run Tryz.prog w = .ok (evO ev zv (getM L p)) w := by
  obtain ⟨Y, c, h⟩ := h
  obtain ⟨kl, hk⟩ := M.key p hp
  rcases h.find M w hp with ⟨h1, h2⟩ | ⟨j, y, h1, _, _, h2⟩
  · simp [Instr.lookup, run_underlying M.und, MapKept.run_getObj_map h.at_, M.keyed.check w _ hk, h1, Result.andThen, h2, M.zero, evO]
  · simp [Instr.lookup, run_underlying M.und, MapKept.run_getObj_map h.at_, M.keyed.check w _ hk, h1, Result.andThen, h2, evO]
theorem YE (hb : w.heap[b]? = some (.map (Y.map (entM kv ev)).toArray c)) (o : Obj) : GroS [b] w (ChangeMaps.setBlock w b o) :=
  ⟨rfl, rfl, rfl, by simp [ChangeMaps.setBlock], fun k _ hk => ChangeMaps.heap_setBlock_other hb _ (by simpa using hk)⟩
theorem Qj {α β : Type} (f : α → β) (Y : List α) (j : Nat) (hj : j < Y.length) (g : β → β) (y : α) (hy : g (f Y[j]) = f y) : (Y.map f).toArray.modify j g = ((Y.set j y).map f).toArray := by
  apply Array.toList_inj.1
  rw [Array.toList_modify]
  apply List.ext_getElem?
  intro i
  rw [List.getElem?_modify, List.getElem?_map, List.getElem?_map, List.getElem?_set]
  by_cases e : j = i
  · subst e
    rw [if_pos rfl, if_pos hj, List.getElem?_eq_getElem hj]
    simp [hy]
  · rw [if_neg e]
    simp [e]
theorem TMM.put [DecidableEq κ] (M : MT t k v kv ok ev zv) (h : TMM kv ok ev w b L) {p : κ} (hp : ok p) (e : ε) :
    ∃ w', (Instr.mapUpdate t (.map (some b)) (kv p) (ev e)).run Tryz.prog w = .ok () w' ∧ TMM kv ok ev w' b (putM L p e) ∧ GroS [b] w w' := by
  obtain ⟨Y, c, h⟩ := h
  obtain ⟨kl, hk⟩ := M.key p hp
  have hall : ∀ x ∈ putM L p e, ok x.1 := fun x hx => by
    rcases List.mem_cons.1 hx with rfl | hx
    · exact hp
    · exact h.all x (List.mem_filter.1 hx).1
  rcases h.find M w hp with ⟨h1, h2⟩ | ⟨j, y, h1, hj, hyp, h2⟩
  · refine ⟨ChangeMaps.setBlock w b (.map ((Y ++ [((p, e), c)]).map (entM kv ev)).toArray (c + 1)), ?_, ⟨Y ++ [((p, e), c)], c + 1, ChangeMaps.heap_setBlock_same h.at_ _, ?_, ?_, ?_, hall, Zw h.kn p e⟩, YE h.at_ _⟩
    · have e1 : ((Y ++ [((p, e), c)]).map (entM kv ev)).toArray = (Y.map (entM kv ev)).toArray.push ⟨kv p, ev e, c⟩ := by simp [entM]
      rw [e1]
      simp [Instr.mapUpdate, run_underlying M.und, MapKept.run_getObj_map h.at_, M.keyed.check w false hk, h1, MapKept.run_setObj_map _ h.at_, Result.andThen, ChangeMaps.setBlock]
    · rw [List.map_append]
      unfold putM
      rw [delM_out h2]
      exact List.perm_append_comm.trans (h.perm.cons (p, e))
    · intro y hy
      rcases List.mem_append.1 hy with hy | hy
      · have := h.lt y hy
        omega
      · rw [List.mem_singleton.1 hy]
        exact Nat.lt_succ_self c
    · rw [List.map_append, List.nodup_append]
      refine ⟨h.nd, by simp, fun a ha d hd => ?_⟩
      obtain ⟨y, hy, rfl⟩ := List.mem_map.1 ha
      have := h.lt y hy
      simp at hd
      omega
  · have hjl : j < Y.length := (List.getElem?_eq_some_iff.1 hj).1
    have hyj : Y[j] = y := (List.getElem?_eq_some_iff.1 hj).2
    have hy := List.mem_of_getElem? hj
    have hsub : (Y.map (entM kv ev)).toArray.modify j (fun x => { x with key := kv p, val := ev e }) = ((Y.set j ((p, e), y.2)).map (entM kv ev)).toArray := Qj (entM kv ev) Y j hjl _ ((p, e), y.2) (by rw [hyj]; rfl)
    have hkj : (((Y.map (entM kv ev)).toArray[j]?).map (·.key)).getD (kv p) = kv p := by
      simp [hj, entM, hyp]
    have hb2 : ((Y.set j ((p, e), y.2)).map (·.2)) = Y.map (·.2) := by
      rw [List.map_set]
      apply List.ext_getElem?
      intro i
      rw [List.getElem?_set]
      by_cases q : j = i
      · subst q
        rw [if_pos rfl, if_pos (by simpa using hjl), List.getElem?_map, hj]
        rfl
      · rw [if_neg q]
    refine ⟨ChangeMaps.setBlock w b (.map ((Y.set j ((p, e), y.2)).map (entM kv ev)).toArray c), ?_, ⟨Y.set j ((p, e), y.2), c, ChangeMaps.heap_setBlock_same h.at_ _, ?_, ?_, by rw [hb2]; exact h.nd, hall, Zw h.kn p e⟩, YE h.at_ _⟩
    · rw [← hsub]
      have hst := M.keyed.stays w hk
      simp only [Instr.mapUpdate, Sem.run_bind, run_underlying M.und, Result.andThen_ok, MapKept.run_getObj_map h.at_, M.keyed.check w false hk, h1, hkj, hst]
      simp [MapKept.run_setObj_map _ h.at_, ChangeMaps.setBlock]
    · have p1 : ((Y.set j ((p, e), y.2)).map (·.1)).Perm ((p, e) :: (Y.eraseIdx j).map (·.1)) := (Yr Y j hjl ((p, e), y.2)).map (·.1)
      have p2 : (y.1 :: (Y.eraseIdx j).map (·.1)).Perm L := by
        have := Zf Y j hjl
        rw [hyj] at this
        exact (this.map (·.1)).trans h.perm
      have p3 : ((Y.eraseIdx j).map (·.1)).Perm (delM L p) := by
        refine List.Perm.cons_inv (a := y.1) (p2.trans ?_)
        have := jaz h.kn (h.mem hy)
        rw [hyp] at this
        exact this.symm
      exact p1.trans (p3.cons (p, e))
    · intro z hz
      rcases List.mem_or_eq_of_mem_set hz with hz | rfl
      · exact h.lt z hz
      · exact h.lt y hy
theorem TMM.len (M : MT t k v kv ok ev zv) (h : TMM kv ok ev w b L) (ty : TypeId) : (Builtin.len_ #[t] ty #[.map (some b)]).run Tryz.prog w = .ok (.int .i64 ((L.length : Nat) : Int)) w := by
  obtain ⟨Y, c, h⟩ := h
  have := h.perm.length_eq
  rw [List.length_map] at this
  simp [Builtin.len_, run_underlying M.und, MapKept.run_getObj_map h.at_, Result.andThen, goInt, this]
def RgMM (kv : κ → Value) (ok : κ → Prop) (ev : ε → Value) (w : World) (b r : Nat) (L S : List (κ × ε)) : Prop := ∃ (Y : List ((κ × ε) × Nat)) (c : Nat) (Z : List ((κ × ε) × Nat)) (seen : Array Nat), MQM kv ok ev b L w Y c ∧ w.heap[r]? = some (.mapIter (some b) c seen c) ∧ seen.toList = Z.map (·.2) ∧ S = Z.map (·.1) ∧ (∀ z ∈ Z, z ∈ Y) ∧ Z.Nodup
theorem RgMM.tm {r : Nat} {S : List (κ × ε)} (h : RgMM kv ok ev w b r L S) : TMM kv ok ev w b L := by
  obtain ⟨Y, c, Z, seen, h1, _⟩ := h
  exact ⟨Y, c, h1⟩
theorem RgMM.lt {r : Nat} {S : List (κ × ε)} (h : RgMM kv ok ev w b r L S) : r < w.heap.size := by
  obtain ⟨Y, c, Z, seen, h1, h2, _⟩ := h
  exact ji h2
theorem RgMM.below {r B : Nat} {S : List (κ × ε)} (h : RgMM kv ok ev w b r L S) (G : Below B w w') (hb : b < B) (hr : r < B) : RgMM kv ok ev w' b r L S := by
  obtain ⟨Y, c, Z, seen, h1, h2, h3⟩ := h
  exact ⟨Y, c, Z, seen, ⟨(G.block b hb).trans h1.at_, h1.perm, h1.lt, h1.nd, h1.all, h1.kn⟩, (G.block r hr).trans h2, h3⟩
theorem RgMM.gro {r : Nat} {S : List (κ × ε)} (h : RgMM kv ok ev w b r L S) (G : Gro w w') : RgMM kv ok ev w' b r L S := h.below G h.tm.lt h.lt
theorem TMM.range (M : MT t k v kv ok ev zv) (h : TMM kv ok ev w b L) : (Instr.range t (.map (some b))).run Tryz.prog w = .ok (.pointer (some ⟨w.heap.size, 0, none⟩)) (w.alloc (.mapIter (some b) (match w.heap[b]? with | some (.map _ c) => c | _ => 0) #[] (match w.heap[b]? with | some (.map _ c) => c | _ => 0))) ∧ RgMM kv ok ev (w.alloc (.mapIter (some b) (match w.heap[b]? with | some (.map _ c) => c | _ => 0) #[] (match w.heap[b]? with | some (.map _ c) => c | _ => 0))) b w.heap.size L [] := by
  obtain ⟨Y, c, h⟩ := h
  rw [h.at_]
  refine ⟨run_range_map w t k v b _ c M.und h.at_, Y, c, [], #[], ⟨?_, h.perm, h.lt, h.nd, h.all, h.kn⟩, heap_alloc_new _ _, rfl, rfl, by simp, by simp⟩
  exact (zl w _).has h.at_
theorem nd_fstM {Y Z : List ((κ × ε) × Nat)} (hY : (Y.map (·.2)).Nodup) (hZ : Z.Nodup) (hs : ∀ z ∈ Z, z ∈ Y) : Z.length ≤ Y.length := by
  have hz2 : (Z.map (·.2)).Nodup := by
    rw [List.nodup_iff_pairwise_ne, List.pairwise_map]
    exact List.Pairwise.imp_of_mem (fun {a c} ha hc hne e => hne (JA hY (hs a ha) (hs c hc) e)) (List.nodup_iff_pairwise_ne.1 hZ)
  have : (Z.map (·.2)).Perm ((Y.map (·.2)).filter fun y => decide (y ∈ Z.map (·.2))) := (List.perm_ext_iff_of_nodup hz2 (List.Nodup.sublist List.filter_sublist hY)).2 fun z => by
    rw [List.mem_filter, decide_eq_true_eq]
    exact ⟨fun h => ⟨by obtain ⟨a, ha, e⟩ := List.mem_map.1 h; exact List.mem_map.2 ⟨a, hs a ha, e⟩, h⟩, fun h => h.2⟩
  have h2 := this.length_eq
  rw [List.length_map] at h2
  have h3 := List.length_filter_le (fun y => decide (y ∈ Z.map (·.2))) (Y.map (·.2))
  rw [List.length_map] at h3
  omega
theorem RgMM.len {r : Nat} {S : List (κ × ε)} (h : RgMM kv ok ev w b r L S) : S.length ≤ L.length := by
  obtain ⟨Y, c, Z, seen, h1, _, _, h3, h4, h5⟩ := h
  have := nd_fstM h1.nd h5 h4
  have e := h1.perm.length_eq
  rw [List.length_map] at e
  rw [h3, List.length_map]
  omega
theorem RgMM.next {r : Nat} {S : List (κ × ε)} (h : RgMM kv ok ev w b r L S) (ty : TypeId) :
    (S.Perm L ∧ (Instr.next (.pointer (some ⟨r, 0, none⟩)) false ty).run Tryz.prog w = .ok (.tuple #[.bool false]) w) ∨
    ∃ x w', x ∈ L ∧ (Instr.next (.pointer (some ⟨r, 0, none⟩)) false ty).run Tryz.prog w = .ok (.tuple #[.bool true, kv x.1, ev x.2]) w' ∧ RgMM kv ok ev w' b r L (S ++ [x]) ∧ GroS [r] w w' ∧
      (Instr.entry (.pointer (some ⟨r, 0, none⟩))).run Tryz.prog w' = .ok (.tuple #[kv x.1, ev x.2]) w' := by
  obtain ⟨Y, c, Z, seen, h1, h2, h3, h4, h5, h6⟩ := h
  have hsz : ∀ y ∈ Y, (seen.contains y.2 = true ↔ y ∈ Z) := fun y hy => by
    rw [Array.contains_iff_mem, ← Array.mem_toList_iff, h3]
    constructor
    · intro hm
      obtain ⟨z, hz, e⟩ := List.mem_map.1 hm
      have : z = y := JA h1.nd (h5 z hz) hy e
      exact this ▸ hz
    · intro hm
      exact List.mem_map_of_mem hm
  rcases run_next_at (P := Tryz.prog) w ty r b c c seen (Y.map (entM kv ev)).toArray c h2 h1.at_ (fun x hx => by
      obtain ⟨y, hy, rfl⟩ := List.mem_map.1 hx
      exact h1.lt y hy) (Nat.le_refl _) with ⟨h0, hrun⟩ | ⟨e, he, w1, hal, hrun⟩
  · refine .inl ⟨?_, hrun⟩
    have hall := all_seen _ _ h0
    have hYZ : ∀ y ∈ Y, y ∈ Z := fun y hy => (hsz y hy).1 (hall (entM kv ev y) (List.mem_map_of_mem hy))
    have hYn : Y.Nodup := nd_ofM h1.nd
    have hp : Z.Perm Y := (List.perm_ext_iff_of_nodup h6 hYn).2 fun z => ⟨h5 z, hYZ z⟩
    rw [h4]
    exact (hp.map _).trans h1.perm
  · obtain ⟨hem, hes⟩ := mem_left he
    obtain ⟨y, hy, rfl⟩ := List.mem_map.1 hem
    have hyZ : y ∉ Z := fun hz => by
      have := (hsz y hy).2 hz
      rw [show (entM kv ev y).born = y.2 from rfl] at hes
      rw [hes] at this
      cases this
    have hne : r ≠ b := fun e => by rw [e, h1.at_] at h2; cases h2
    have hr1 : w1.heap[r]? = some (.mapIter (some b) c seen c) := by rcases hal with rfl | rfl <;> exact h2
    have hb1 : w1.heap[b]? = some (.map (Y.map (entM kv ev)).toArray c) := by rcases hal with rfl | rfl <;> exact h1.at_
    have hset := MapKept.heap_set (o' := .mapIter (some b) c (seen.push y.2) c) hr1
    have hb' : (ChangeMaps.setBlock w1 r (.mapIter (some b) c (seen.push y.2) c)).heap[b]? = some (.map (Y.map (entM kv ev)).toArray c) := (hset.2 b (fun e1 => hne e1.symm)).trans hb1
    refine .inr ⟨y.1, _, h1.mem hy, hrun, ⟨Y, c, Z ++ [y], seen.push y.2, ⟨hb', h1.perm, h1.lt, h1.nd, h1.all, h1.kn⟩, hset.1, by simp [h3], by simp [h4], ?_, ?_⟩, ?_, ?_⟩
    · intro z hz
      rcases List.mem_append.1 hz with hz | hz
      · exact h5 z hz
      · rw [List.mem_singleton.1 hz]; exact hy
    · rw [List.nodup_append]
      exact ⟨h6, by simp, fun a ha d hd => by rw [List.mem_singleton.1 hd]; rintro rfl; exact hyZ ha⟩
    · rcases hal with rfl | rfl <;> exact ⟨rfl, rfl, rfl, by simp [ChangeMaps.setBlock], fun i _ hi => hset.2 i (by simpa using hi)⟩
    · exact run_entry_at _ r b c seen (Y.map (entM kv ev)).toArray c (entM kv ev y) hset.1 hb' (List.mem_map_of_mem hy) (by
        rw [show ((Y.map (entM kv ev)).toArray.toList.map (·.born)) = Y.map (·.2) by simp [entM]]
        exact h1.nd)
end
/-! ### Operations on maps -/
section
variable {κ ε : Type} {t k v : TypeId} {kv : κ → Value} {ok : κ → Prop} {ev : ε → Value} {zv : Value} {w w' : World} {b r g : Nat} {L S : List (κ × ε)} {ops : Array Oper} {rest : List Oper} {o : Oper} {T : List Value} {ds : List Deferred} {Q : Exit → Act → World → Prop}
theorem TMM.ne (h : TMM kv ok ev w b L) (e : w.heap.size = g) : b ≠ g := by have := h.lt; omega
theorem TMM.st {x : Obj} (h : TMM kv ok ev w b L) (St : Stored w w' g x) (hn : b ≠ g) : TMM kv ok ev w' b L := h.gros St.gros (by simpa using hn)
theorem RgMM.ne (h : RgMM kv ok ev w b r L S) (e : w.heap.size = g) : b ≠ g ∧ r ≠ g := by
  have h1 := h.tm.lt
  have h2 := h.lt
  omega
theorem RgMM.st {x : Obj} (h : RgMM kv ok ev w b r L S) (St : Stored w w' g x) (hn : b ≠ g ∧ r ≠ g) : RgMM kv ok ev w' b r L S := by
  obtain ⟨Y, c, Z, seen, h1, h2, h3⟩ := h
  exact ⟨Y, c, Z, seen, ⟨St.has hn.1 h1.at_, h1.perm, h1.lt, h1.nd, h1.all, h1.kn⟩, St.has hn.2 h2, h3⟩
theorem VU [DecidableEq κ] {A : Act} (M : MT t k v kv ok ev zv) (h : TMM kv ok ev w b L) (x y : Operand) (ho : o.op = .lookup t x y true) (hx : A.eval x = .map (some b)) (p : κ) (hy : A.eval y = kv p) (hp : ok p) (q : Bool) (hq : (getM L p).isSome = q) :
    (execOp A.eval o).run Tryz.prog w = .ok (.value (.tuple #[evO ev zv (getM L p), .bool q])) w := by
  subst hq
  unfold execOp
  simp only [ho, hx, hy, Sem.run_bind, TMM.look2 M h hp, Result.andThen_ok, Sem.run_pure]
theorem VV [DecidableEq κ] {A : Act} (M : MT t k v kv ok ev zv) (h : TMM kv ok ev w b L) (x y : Operand) (ho : o.op = .lookup t x y false) (hx : A.eval x = .map (some b)) (p : κ) (hy : A.eval y = kv p) (hp : ok p) :
    (execOp A.eval o).run Tryz.prog w = .ok (.value (evO ev zv (getM L p))) w := by
  unfold execOp
  simp only [ho, hx, hy, Sem.run_bind, TMM.look1 M h hp, Result.andThen_ok, Sem.run_pure]
theorem KO {A : Act} (M : MT t k v kv ok ev zv) (h : TMM kv ok ev w b L) (x : Operand) (ho : o.op = .call { callee := .builtin .len, args := #[x], argTypes := #[t] }) (hx : A.eval x = .map (some b)) :
    (execOp A.eval o).run Tryz.prog w = .ok (.value (.int .i64 ((L.length : Nat) : Int))) w := by
  unfold execOp
  simp [ho, resolve, invoke, builtin, hx, h.len M]
theorem YT (kv : κ → Value) (ok : κ → Prop) (ev : ε → Value) (dst : Nat) (hd : o.dst = some dst) (hgd : o.guard = none) (ho : o.op = .makeMap t none)
    (h : ∀ w' g, Gro w w' → w.heap.size = g → TMM kv ok ev w' g [] → wpList Tryz.prog ops Q rest ⟨(T.set dst (.map (some g))).toArray, ds⟩ w') : wpList Tryz.prog ops Q (o :: rest) ⟨T.toArray, ds⟩ w := by
  refine wpList_plain hgd fun _ hK => ?_
  have he : (execOp (Act.eval ⟨T.toArray, ds⟩) o).run Tryz.prog w = .ok (.value (.map (some w.heap.size))) (w.alloc (.map #[] 0)) := by
    unfold execOp
    simp only [ho, Option.map_none, Sem.run_bind, run_makeMap, Result.andThen_ok, Sem.run_pure]
  unfold Oper.wp
  rw [he, Oper.upon_value, hd, jX]
  exact hK _ _ (h _ _ (zl _ _) rfl (TMM.made kv ok ev w))
theorem QL [DecidableEq κ] (M : MT t k v kv ok ev zv) (hgd : o.guard = none) (hdst : o.dst = none) (m x u : Operand) (ho : o.op = .mapUpdate t m x u) (h : TMM kv ok ev w b L) (hm : (⟨T.toArray, ds⟩ : Act).eval m = .map (some b)) (p : κ) (hx : (⟨T.toArray, ds⟩ : Act).eval x = kv p) (hp : ok p) (e : ε) (hv : (⟨T.toArray, ds⟩ : Act).eval u = ev e)
    (hk : ∀ w', TMM kv ok ev w' b (putM L p e) → GroS [b] w w' → wpList Tryz.prog ops Q rest ⟨T.toArray, ds⟩ w') : wpList Tryz.prog ops Q (o :: rest) ⟨T.toArray, ds⟩ w := by
  refine wpList_plain hgd fun _ hK => ?_
  obtain ⟨w', hr, h1, h2⟩ := h.put M hp e
  have he : (execOp (Act.eval ⟨T.toArray, ds⟩) o).run Tryz.prog w = .ok (.value undef) w' ∨ (execOp (Act.eval ⟨T.toArray, ds⟩) o).run Tryz.prog w = .ok .skip w' := by
    unfold execOp
    simp [ho, hm, hx, hv, hr]
  have := hK _ _ (hk w' h1 h2)
  unfold Oper.wp
  rcases he with he | he <;> rw [he] <;> first | (rw [Oper.upon_value, hdst]; exact this) | (simp only [Oper.upon, hdst]; exact this)
theorem jbt (M : MT t k v kv ok ev zv) (dst : Nat) (hd : o.dst = some dst) (hgd : o.guard = none) (m : Operand) (ho : o.op = .range t m) (h : TMM kv ok ev w b L) (hm : (⟨T.toArray, ds⟩ : Act).eval m = .map (some b))
    (hk : ∀ w' r, RgMM kv ok ev w' b r L [] → Gro w w' → w.heap.size = r → w'.heap.size = r + 1 → wpList Tryz.prog ops Q rest ⟨(T.set dst (.pointer (some ⟨r, 0, none⟩))).toArray, ds⟩ w') : wpList Tryz.prog ops Q (o :: rest) ⟨T.toArray, ds⟩ w := by
  refine wpList_plain hgd fun _ hK => ?_
  have h' : ∃ w', (Instr.range t (.map (some b))).run Tryz.prog w = .ok (.pointer (some ⟨w.heap.size, 0, none⟩)) w' ∧ RgMM kv ok ev w' b w.heap.size L [] ∧ Gro w w' ∧ w'.heap.size = w.heap.size + 1 := ⟨_, (h.range M).1, (h.range M).2, zl _ _, by simp⟩
  obtain ⟨w', hr, h1, h2, h3⟩ := h'
  have he : (execOp (Act.eval ⟨T.toArray, ds⟩) o).run Tryz.prog w = .ok (.value (.pointer (some ⟨w.heap.size, 0, none⟩))) w' := by
    unfold execOp
    simp only [ho, hm, Sem.run_bind, hr, Result.andThen_ok, Sem.run_pure]
  unfold Oper.wp
  rw [he, Oper.upon_value, hd, jX]
  exact hK _ _ (hk _ _ h1 h2 rfl h3)
theorem s_nextM (dst : Nat) (hd : o.dst = some dst) (hgd : o.guard = none) (it : Operand) (ho : o.op = .next it false) (h : RgMM kv ok ev w b r L S) (hi : (⟨T.toArray, ds⟩ : Act).eval it = .pointer (some ⟨r, 0, none⟩))
    (h0 : S.Perm L → wpList Tryz.prog ops Q rest ⟨(T.set dst (.tuple #[.bool false])).toArray, ds⟩ w)
    (h1 : ∀ x w', x ∈ L → RgMM kv ok ev w' b r L (S ++ [x]) → GroS [r] w w' → (Instr.entry (.pointer (some ⟨r, 0, none⟩))).run Tryz.prog w' = .ok (.tuple #[kv x.1, ev x.2]) w' → wpList Tryz.prog ops Q rest ⟨(T.set dst (.tuple #[.bool true, kv x.1, ev x.2])).toArray, ds⟩ w') : wpList Tryz.prog ops Q (o :: rest) ⟨T.toArray, ds⟩ w := by
  refine wpList_plain hgd fun _ hK => ?_
  unfold Oper.wp
  rcases h.next o.type with ⟨hp, hr⟩ | ⟨x, w', hx, hr, h2, h3, h4⟩
  · have he : (execOp (Act.eval ⟨T.toArray, ds⟩) o).run Tryz.prog w = .ok (.value (.tuple #[.bool false])) w := by
      unfold execOp
      simp only [ho, hi, Sem.run_bind, hr, Result.andThen_ok, Sem.run_pure]
    rw [he, Oper.upon_value, hd, jX]
    exact hK _ _ (h0 hp)
  · have he : (execOp (Act.eval ⟨T.toArray, ds⟩) o).run Tryz.prog w = .ok (.value (.tuple #[.bool true, kv x.1, ev x.2])) w' := by
      unfold execOp
      simp only [ho, hi, Sem.run_bind, hr, Result.andThen_ok, Sem.run_pure]
    rw [he, Oper.upon_value, hd, jX]
    exact hK _ _ (h1 x w' hx h2 h3 h4)
theorem jcj {A : Act} {u : Value} (it : Operand) (ho : o.op = .entry it) (p : Value) (hi : A.eval it = p) (h : (Instr.entry p).run Tryz.prog w = .ok u w) : (execOp A.eval o).run Tryz.prog w = .ok (.value u) w := by
  unfold execOp
  simp only [ho, hi, Sem.run_bind, h, Result.andThen_ok, Sem.run_pure]
end
open Go.RowKit
theorem Uv {r : List Nat} {a : Nat} (ha : a ≤ r.length) : getV r ((a : Nat) : Int) = if r.length - a < 16 then (valL z16, 0, 3) else (valL ((r.drop a).take 16), a + 16, 0) := by
  unfold getV getI
  rw [if_neg (by omega)]
  simp only [Int.toNat_natCast]
  split <;> rfl
theorem Ko {r : List Nat} (hr : ∀ b ∈ r, b < 256) {i : Int} {n a : Nat} (h : getE r i = (n, a, 0)) : a ≤ r.length := ((JV r hr i n a 0 h).1 rfl).2.2.2.1
theorem Js {r : List Nat} (hr : ∀ b ∈ r, b < 256) {n a e : Nat} (h : getE r 0 = (n, a, e)) : readV r = if e ≠ 0 then none else if n = 1 then ((rbV r a).bind fun m => if 1 ≤ m then some (.inl m) else none) else if n = 2 then (riV r a).map .inr else none := by
  unfold readV
  rw [h]
  simp only
  by_cases he : e = 0
  · subst he
    rw [if_neg (show ¬ (0 : Nat) ≠ 0 from fun h => h rfl), if_neg (show ¬ (0 : Nat) ≠ 0 from fun h => h rfl)]
    by_cases h1 : n = 1
    · rw [if_pos h1, if_pos h1]
      unfold rbV
      by_cases c : (getE r (a : Int)).2.2 = 0 ∧ (getE r (a : Int)).2.1 = r.length ∧ (getE r (a : Int)).1 ≤ 1048576
      · rw [if_pos c, Option.bind_some]
        by_cases d : 1 ≤ (getE r (a : Int)).1
        · rw [if_pos d, if_pos ⟨c.1, c.2.1, d, c.2.2⟩]
        · rw [if_neg d, if_neg (fun x => d x.2.2.1)]
      · rw [if_neg c, Option.bind_none, if_neg (fun x => c ⟨x.1, x.2.1, x.2.2.2⟩)]
    · rw [if_neg h1, if_neg h1]
      by_cases h2 : n = 2
      · rw [if_pos h2, if_pos h2]
        have ha := Ko hr h
        unfold riV
        rw [Uv ha]
        by_cases c : r.length - a < 16
        · rw [if_pos c, if_pos c, if_neg (by simp)]
          rfl
        · rw [if_neg c, if_neg c]
          simp only [if_true]
          obtain ⟨m, b, f, g⟩ := tri (getE r ((a + 16 : Nat) : Int))
          unfold rvV
          rw [g]
          simp only
          by_cases d : f = 0 ∧ 1 ≤ m ∧ m ≤ 4611686018427387903
          · obtain ⟨rfl, d2, d3⟩ := d
            have hb := Ko hr g
            rw [if_neg (show ¬ ((0 : Nat) ≠ 0 ∨ m < 1 ∨ 4611686018427387904 ≤ m) by omega), if_pos (show (0 : Nat) = 0 ∧ 1 ≤ m ∧ m ≤ 4611686018427387903 from ⟨rfl, d2, d3⟩), Uv hb]
            by_cases c2 : r.length - b < 16
            · rw [if_pos c2, if_pos c2, if_neg (by simp)]
              rfl
            · rw [if_neg c2, if_neg c2]
              simp only [if_true]
              by_cases c3 : (getT r ((b + 16 : Nat) : Int) 64).2.2 = 0 ∧ (getT r ((b + 16 : Nat) : Int) 64).2.1 = r.length
              · rw [if_pos c3, if_neg (by omega)]
                rfl
              · rw [if_neg c3, if_pos (by omega)]
                rfl
          · rw [if_pos (by omega), if_neg d]
            rfl
      · rw [if_neg h2, if_neg h2]
  · rw [if_pos he, if_pos he]
/-! ### What a map keeps -/
def MRel (M : List (Nat × IM)) (L : List It) : Prop := ∀ k, (getM M k).map IM.it = lkV L k
theorem MRel.nil : MRel [] [] := fun _ => rfl
def isN (M : List (Nat × IM)) (x : IM) : Bool := match getM M x.key with
  | none => true
  | some y => nwV x.ver y.ver
theorem uC {x y : IM} (hx : 0 ≤ x.n) (hy : 0 ≤ y.n) : nwV x.ver y.ver = nwr x.it y.it := by
  unfold nwV nwr IM.ver IM.it
  rw [decide_eq_decide]
  simp only
  omega
theorem Us {M : List (Nat × IM)} {L : List It} (h : MRel M L) {x : IM} (hx : 0 ≤ x.n) (hM : ∀ y ∈ M, 0 ≤ y.2.n) (hi : isN M x = true) : pickV x.it (lkV L x.key) = some x.it := by
  rw [← h x.key]
  unfold isN at hi
  cases g : getM M x.key with
  | none => rfl
  | some y =>
    rw [g] at hi
    simp only at hi
    rw [uC hx (hM _ (zh g))] at hi
    unfold pickV
    simp only [Option.map_some]
    exact if_pos hi
theorem jam {M : List (Nat × IM)} {L : List It} (h : MRel M L) {x : IM} (hx : 0 ≤ x.n) (hM : ∀ y ∈ M, 0 ≤ y.2.n) (hi : isN M x = false) : ∃ y, lkV L x.key = some y ∧ nwr x.it y = false := by
  rw [← h x.key]
  unfold isN at hi
  cases g : getM M x.key with
  | none => rw [g] at hi; cases hi
  | some y =>
    rw [g] at hi
    simp only at hi
    rw [uC hx (hM _ (zh g))] at hi
    exact ⟨y.it, rfl, hi⟩
theorem MRel.put {M : List (Nat × IM)} {L : List It} (h : MRel M L) (hk : KNM M) (hL : SKv L) {x : IM} (hp : pickV x.it (lkV L x.key) = some x.it) {y : IM} (hy : y.it = x.it) : MRel (putM M x.key y) (tkV L x.it) := fun k => by
  rw [getM_put hk, YQ hL]
  by_cases c : k = x.key
  · subst c
    rw [if_pos rfl, if_pos (show x.key = x.it.key from rfl), Option.map_some, hy]
    exact hp.symm
  · rw [if_neg c, if_neg (show ¬ k = x.it.key from c)]
    exact h k
end Go.Proofs.YtgfnjekpafempaaGreat
