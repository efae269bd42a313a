/- A map from keys to entries, in memory. -/
import Derived.Test.YtmpnepbmpmkmkaaDP3
import Derived.Maps.RangeWalk
import Derived.DeepKeys4
import Derived.WideKeyEntry
namespace Go.Proofs.Ytmpnepbmpmkmkaa
open Classical
open Go.RowKit Go.Maps
theorem I64.wf {x : Int} (h : I64 x) : (Lit.int .i64 x).wf = true := by
  obtain ⟨h1, h2⟩ := h
  simp [Lit.wf, IntKind.min, IntKind.max, IntKind.signed, IntKind.bits]
  omega
theorem idA_inj {a b : Nat} (ha : a < top) (hb : b < top) (h : idA a = idA b) : a = b := by
  refine eq_of_bytes ha hb ?_
  intro i hi
  have h1 := idA_get a i hi
  have h2 := idA_get b i hi
  rw [h, h2] at h1
  simp only [Option.some.injEq, Value.int.injEq, true_and] at h1
  omega
theorem paA_inj {p q : Pa} (hp : p.ok) (hq : q.ok) (h : paA p = paA q) : p = q := by
  have h1 : idA p.who = idA q.who := by rw [← aP_w p, ← aP_w q, h]
  have h2 : (some (Value.int .i64 p.n)) = some (.int .i64 q.n) := by rw [← aP_n p, ← aP_n q, h]
  have e1 := idA_inj hp.who hq.who h1
  injection h2 with h2
  injection h2 with _ h2
  cases p
  cases q
  simp only at *
  rw [e1, h2]
theorem laidP : laidOutB Try.prog = true := by kernel_rfl
theorem row31 : (26 : TypeId) < Try.prog.types.size := of_decide_eq_true (by kernel_rfl)
theorem wide31 : (match Try.prog.underlying 26 with | some (.array _ _) | some (.struct _) => true | _ => false) = true := by rw [Try.underlying26]
theorem cells31 : Try.prog.cellsOf 26 = 17 := by kernel_rfl
theorem cells29' : Try.prog.cellsOf 24 = 16 := by kernel_rfl
theorem cells5' : Try.prog.cellsOf 5 = 1 := by kernel_rfl
theorem cells2' : Try.prog.cellsOf 2 = 1 := by kernel_rfl
set_option maxRecDepth 100000 in
theorem lawP : WideMaps.KeyLaw Try.prog 26 := deep_law_laid laidP (m := 3) (by omega) row31 (by kernel_rfl) wide31
theorem keyedP : Keyed Try.prog 26 := Keyed.of_law lawP
theorem mapM_some {α β : Type} (f : α → Option β) : ∀ l : List α, (∀ x ∈ l, ∃ y, f x = some y) → ∃ r, l.mapM f = some r
  | [], _ => ⟨[], rfl⟩
  | x :: r, h => by
    obtain ⟨y, hy⟩ := h x List.mem_cons_self
    obtain ⟨s, hs⟩ := mapM_some f r fun z hz => h z (List.mem_cons_of_mem _ hz)
    exact ⟨y :: s, by simp [List.mapM_cons, hy, hs]⟩
theorem keyP (p : Pa) (h : p.ok) : ∃ kl, keyOf Try.prog 26 (.agg (paA p)) = some kl := by
  have hk : Try.prog.keyType 26 = true := by kernel_rfl
  have hf : (Value.agg (paA p)).formed Try.prog 26 = true := by simp [Value.formed, Try.underlying26, cells31, paA_size]
  obtain ⟨m, hm⟩ : ∃ m, Try.prog.types.size + 1 = m + 1 + 1 + 1 := ⟨170, by kernel_rfl⟩
  have h5 : ∀ b : Nat, b < 256 → Try.prog.keyLits (m + 1) 5 [.int .u8 (b : Int)] = some [.int .u8 (b : Int)] := fun b hb => by
    unfold Program.keyLits
    rw [Try.underlying5]
    refine if_pos ⟨rfl, ?_⟩
    simp [Lit.wf, IntKind.min, IntKind.max, IntKind.signed, IntKind.bits]
    omega
  have h2 : Try.prog.keyLits (m + 1 + 1) 2 [.int .i64 p.n] = some [.int .i64 p.n] := by
    unfold Program.keyLits
    rw [Try.underlying2]
    exact if_pos ⟨rfl, h.n.wf⟩
  have h29 : ∃ r, Try.prog.keyLits (m + 1 + 1) 24 (idA p.who).toList = some r := by
    unfold Program.keyLits
    rw [Try.underlying24]
    simp only []
    rw [if_pos (by rw [cells29']; exact idA_len _)]
    obtain ⟨r, hr⟩ := mapM_some (fun i => Try.prog.keyLits (m + 1) 5 (((idA p.who).toList.drop (i * Try.prog.cellsOf 5)).take (Try.prog.cellsOf 5))) (List.range 16) fun i hi => by
      have hi16 : i < 16 := by simpa using hi
      have e : ((idA p.who).toList.drop (i * Try.prog.cellsOf 5)).take (Try.prog.cellsOf 5) = [.int .u8 (byt p.who i : Int)] := by
        rw [cells5', Nat.mul_one, List.drop_eq_getElem_cons (by rw [idA_len]; exact hi16), List.take_succ_cons, List.take_zero]
        have := idA_get p.who i hi16
        rw [← Array.getElem?_toList] at this
        rw [(List.getElem?_eq_some_iff.1 this).2]
      exact ⟨_, by rw [e]; exact h5 _ (byt_lt _ _)⟩
    exact ⟨_, by rw [hr]; rfl⟩
  obtain ⟨r, hr⟩ := h29
  have h31 : Try.prog.keyLits (m + 1 + 1 + 1) 26 (paL p) = some (r ++ [.int .i64 p.n]) := by
    unfold Program.keyLits
    rw [Try.underlying26]
    simp only []
    rw [if_pos ⟨by rw [cells31]; exact paL_len p, by kernel_rfl⟩]
    have e1 : ((paL p).drop 0).take 16 = (idA p.who).toList := dP_w p
    have e2 : ((paL p).drop 16).take 1 = [.int .i64 p.n] := by kernel_rfl
    simp only [List.mapM_cons, List.mapM_nil, cells29', cells2', e1, e2, hr, h2]
    simp
  refine ⟨.string (keyBytes (r ++ [.int .i64 p.n])), ?_⟩
  unfold keyOf
  rw [Try.underlying26]
  simp only [hk, hf, Bool.and_self, if_true]
  rw [hm, show (Value.agg (paA p)).cells.toList = paL p from rfl, h31]
  rfl
theorem erase_map {α β : Type} (f : α → β) : ∀ (l : List α) (j : Nat), (l.map f).eraseIdx j = (l.eraseIdx j).map f
  | [], _ => rfl
  | _ :: _, 0 => rfl
  | x :: r, j + 1 => by simp [erase_map f r j]
theorem erase_perm {α : Type} : ∀ (l : List α) (j : Nat) (hj : j < l.length), (l[j] :: l.eraseIdx j).Perm l
  | [], _, hj => by simp at hj
  | _ :: _, 0, _ => List.Perm.refl _
  | x :: r, j + 1, hj => by
    have := erase_perm r j (by simpa using hj)
    exact (List.Perm.swap x _ _).trans (this.cons x)
theorem nd_inj {α β : Type} {f : α → β} : ∀ {l : List α}, (l.map f).Nodup → ∀ {x y : α}, x ∈ l → y ∈ l → f x = f y → x = y
  | [], _, _, _, hx, _, _ => by cases hx
  | z :: r, h, x, y, hx, hy, e => by
    rw [List.map_cons, List.nodup_cons] at h
    rcases List.mem_cons.1 hx with e1 | hx1
    · rcases List.mem_cons.1 hy with e2 | hy1
      · rw [e1, e2]
      · exact absurd (by rw [← e1, e]; exact List.mem_map_of_mem hy1) h.1
    · rcases List.mem_cons.1 hy with e2 | hy1
      · exact absurd (by rw [← e2, ← e]; exact List.mem_map_of_mem hx1) h.1
      · exact nd_inj h.2 hx1 hy1 e
theorem nd_of {α β : Type} {f : α → β} {l : List α} (h : (l.map f).Nodup) : l.Nodup := by
  rw [List.nodup_iff_pairwise_ne] at *
  rw [List.pairwise_map] at h
  exact h.imp fun h e => h (by rw [e])
/-- An entry as it stands in the map. -/
def ent (y : En × Nat) : MapEntry := ⟨.agg (paA y.1.p), .agg (enA y.1), y.2⟩
/-- The map at b has these entries. -/
structure MQ (b : Nat) (L : List En) (w : World) (Y : List (En × Nat)) (c : Nat) : Prop where
  at_ : w.heap[b]? = some (.map (Y.map ent).toArray c)
  perm : (Y.map (·.1)).Perm L
  lt : ∀ y ∈ Y, y.2 < c
  nd : (Y.map (·.2)).Nodup
  all : AllE L
  kn : KN L
def TM (w : World) (b : Nat) (L : List En) : Prop := ∃ Y c, MQ b L w Y c
section
variable {w w' : World} {b : Nat} {L : List En} {Y : List (En × Nat)} {c : Nat}
theorem MQ.mem (h : MQ b L w Y c) {y : En × Nat} (hy : y ∈ Y) : y.1 ∈ L := h.perm.mem_iff.1 (List.mem_map_of_mem hy)
theorem MQ.keys (h : MQ b L w Y c) : ∀ e ∈ Y.map ent, ∃ l, keyOf Try.prog 26 e.key = some l := fun e he => by
  obtain ⟨y, hy, rfl⟩ := List.mem_map.1 he
  exact keyP _ (h.all _ (h.mem hy)).p
theorem MQ.find (h : MQ b L w Y c) (x : World) {p : Pa} (hp : p.ok) :
    ((Instr.findKey 26 (.agg (paA p)) (Y.map ent)).run Try.prog x = .ok none x ∧ getL L p = none) ∨ ∃ j y, (Instr.findKey 26 (.agg (paA p)) (Y.map ent)).run Try.prog x = .ok (some (j, .agg (enA y.1))) x ∧ Y[j]? = some y ∧ y.1.p = p ∧ getL L p = some y.1 := by
  obtain ⟨kl, hk⟩ := keyP p hp
  rcases keyedP.find x hk (Y.map ent) h.keys with ⟨h1, h2⟩ | ⟨j, e, h1, h2, h3⟩
  · refine .inl ⟨h1, ?_⟩
    cases e : getL L p with
    | none => rfl
    | some z =>
      obtain ⟨hz, hzp⟩ := getL_some e
      obtain ⟨y, hy, hyz⟩ := List.mem_map.1 (h.perm.mem_iff.2 hz)
      exact absurd (by show Value.agg (paA y.1.p) = _; rw [hyz, hzp]) (h2 (ent y) (List.mem_map_of_mem hy))
  · rw [List.getElem?_map] at h2
    cases e2 : Y[j]? with
    | none => rw [e2] at h2; cases h2
    | some y =>
      rw [e2] at h2
      cases h2
      have hy := List.mem_of_getElem? e2
      have hpp : y.1.p = p := paA_inj (h.all _ (h.mem hy)).p hp (by injection h3)
      exact .inr ⟨j, y, h1, e2, hpp, by rw [← hpp]; exact getL_mem h.kn (h.mem hy)⟩
theorem TM.lt (h : TM w b L) : b < w.heap.size := by
  obtain ⟨Y, c, h⟩ := h
  exact lt_of_heap h.at_
theorem TM.all (h : TM w b L) : AllE L := by
  obtain ⟨Y, c, h⟩ := h
  exact h.all
theorem TM.gros {S : List Nat} (h : TM w b L) (G : GroS S w w') (hb : b ∉ S) : TM w' b L := by
  obtain ⟨Y, c, h⟩ := h
  exact ⟨Y, c, G.has h.at_ hb, h.perm, h.lt, h.nd, h.all, h.kn⟩
theorem TM.gro (h : TM w b L) (G : Gro w w') : TM w' b L := h.gros (S := []) (.of G) (by simp)
/-- No other kind of block is this one. -/
theorem TM.nec (h : TM w b L) {g : Nat} {cs : Array Value} {t : TypeId} {fr : Nat × Nat} (hg : w.heap[g]? = some (.cells cs t fr)) : g ≠ b := fun e => by
  obtain ⟨Y, c, h⟩ := h
  rw [e, h.at_] at hg
  cases hg
theorem TM.made (w : World) : TM (w.alloc (.map #[] 0)) w.heap.size [] := ⟨[], 0, heap_alloc_new _ _, List.Perm.refl _, by simp, by simp, AllE.nil, by simp [KN]⟩
theorem TM.look (h : TM w b L) {p : Pa} (hp : p.ok) : (Instr.lookup 81 (.map (some b)) (.agg (paA p)) true).run Try.prog w = .ok (.tuple #[.agg (enA (getV L p)), .bool (hasL L p)]) w := by
  obtain ⟨Y, c, h⟩ := h
  obtain ⟨kl, hk⟩ := keyP p hp
  rcases h.find w hp with ⟨h1, h2⟩ | ⟨j, y, h1, _, _, h2⟩
  · simp [Instr.lookup, run_underlying Try.underlying81, MapKept.run_getObj_map h.at_, keyedP.check w _ hk, h1, Result.andThen, getV, hasL, h2]
    kernel_rfl
  · simp [Instr.lookup, run_underlying Try.underlying81, MapKept.run_getObj_map h.at_, keyedP.check w _ hk, h1, Result.andThen, getV, hasL, h2]
theorem groS_set (hb : w.heap[b]? = some (.map (Y.map ent).toArray c)) (o : Obj) : GroS [b] w (ChangeMaps.setBlock w b o) :=
  ⟨rfl, rfl, rfl, by simp [ChangeMaps.setBlock], fun k _ hk => ChangeMaps.heap_setBlock_other hb _ (by simpa using hk)⟩
theorem TM.put (h : TM w b L) {x : En} (hx : x.ok) (hn : hasL L x.p = false) :
    ∃ w', (Instr.mapUpdate 81 (.map (some b)) (.agg (paA x.p)) (.agg (enA x))).run Try.prog w = .ok () w' ∧ TM w' b (insL x L) ∧ GroS [b] w w' := by
  obtain ⟨Y, c, h⟩ := h
  obtain ⟨kl, hk⟩ := keyP x.p hx.p
  rcases h.find w hx.p with ⟨h1, h2⟩ | ⟨j, y, _, _, _, h2⟩
  · refine ⟨ChangeMaps.setBlock w b (.map ((Y ++ [(x, c)]).map ent).toArray (c + 1)), ?_, ⟨Y ++ [(x, c)], c + 1, ChangeMaps.heap_setBlock_same h.at_ _, ?_, ?_, ?_, insL_all h.all hx, ?_⟩, groS_set h.at_ _⟩
    · have e : ((Y ++ [(x, c)]).map ent).toArray = (Y.map ent).toArray.push ⟨.agg (paA x.p), .agg (enA x), c⟩ := by simp [ent]
      rw [e]
      simp [Instr.mapUpdate, run_underlying Try.underlying81, MapKept.run_getObj_map h.at_, keyedP.check w false hk, h1, MapKept.run_setObj_map _ h.at_, Result.andThen, ChangeMaps.setBlock]
    · rw [List.map_append]
      exact (List.perm_append_comm.trans (h.perm.cons x)).trans (insL_perm x L).symm
    · intro y hy
      rcases List.mem_append.1 hy with hy | hy
      · have := h.lt y hy
        omega
      · rw [List.mem_singleton.1 hy]
        exact Nat.lt_succ_self c
    · rw [List.map_append, List.nodup_append]
      refine ⟨h.nd, by simp, fun a ha d hd => ?_⟩
      obtain ⟨y, hy, rfl⟩ := List.mem_map.1 ha
      have := h.lt y hy
      simp at hd
      omega
    · refine KN.perm ?_ (insL_perm x L).symm
      unfold KN
      rw [List.map_cons, List.nodup_cons]
      exact ⟨fun hm => by
        obtain ⟨y, hy, e⟩ := List.mem_map.1 hm
        exact hasL_no hn y hy e, h.kn⟩
  · unfold hasL at hn
    rw [h2] at hn
    cases hn
theorem TM.del (h : TM w b L) {p : Pa} (hp : p.ok) (hn : hasL L p = true) (ty : TypeId) :
    ∃ w', (Builtin.delete_ #[81, 26] ty #[.map (some b), .agg (paA p)]).run Try.prog w = .ok (.tuple #[]) w' ∧ TM w' b (delL p L) ∧ GroS [b] w w' := by
  obtain ⟨Y, c, h⟩ := h
  obtain ⟨kl, hk⟩ := keyP p hp
  rcases h.find w hp with ⟨_, h2⟩ | ⟨j, y, h1, hj, hyp, h2⟩
  · unfold hasL at hn
    rw [h2] at hn
    cases hn
  · have hjl : j < Y.length := (List.getElem?_eq_some_iff.1 hj).1
    have hyj : Y[j] = y := (List.getElem?_eq_some_iff.1 hj).2
    have hsub : (Y.map ent).toArray.eraseIdxIfInBounds j = ((Y.eraseIdx j).map ent).toArray := by
      apply Array.toList_inj.1
      unfold Array.eraseIdxIfInBounds
      rw [dif_pos (by simpa using hjl)]
      simp [erase_map]
    have hp1 : (y :: Y.eraseIdx j).Perm Y := by
      have := erase_perm Y j hjl
      rwa [hyj] at this
    have hy := List.mem_of_getElem? hj
    subst hyp
    refine ⟨ChangeMaps.setBlock w b (.map ((Y.eraseIdx j).map ent).toArray c), ?_, ⟨Y.eraseIdx j, c, ChangeMaps.heap_setBlock_same h.at_ _, ?_, fun z hz => h.lt z (List.mem_of_mem_eraseIdx hz), ?_, delL_all h.all, ?_⟩, groS_set h.at_ _⟩
    · rw [← hsub]
      simp [Builtin.delete_, run_underlying Try.underlying81, MapKept.run_getObj_map h.at_, keyedP.check w _ hk, h1, MapKept.run_setObj_map _ h.at_, Result.andThen, ChangeMaps.setBlock]
    · refine List.Perm.cons_inv (a := y.1) ?_
      exact ((hp1.map (·.1)).trans h.perm).trans (delL_perm h.kn (h.mem hy)).symm
    · have := (hp1.map (·.2)).nodup_iff.2 h.nd
      rw [List.map_cons, List.nodup_cons] at this
      exact this.2
    · have := (KN.perm h.kn (delL_perm h.kn (h.mem hy)).symm)
      unfold KN at this
      rw [List.map_cons, List.nodup_cons] at this
      exact this.2
theorem TM.len (h : TM w b L) (ty : TypeId) : (Builtin.len_ #[81] ty #[.map (some b)]).run Try.prog w = .ok (.int .i64 ((L.length : Nat) : Int)) w := by
  obtain ⟨Y, c, h⟩ := h
  have := h.perm.length_eq
  rw [List.length_map] at this
  simp [Builtin.len_, run_underlying Try.underlying81, MapKept.run_getObj_map h.at_, Result.andThen, goInt, this]
/-- A walk over the map is under way: these have come. -/
def RgM (w : World) (b r : Nat) (L S : List En) : Prop := ∃ (Y : List (En × Nat)) (c : Nat) (Z : List (En × Nat)) (seen : Array Nat), MQ b L w Y c ∧ w.heap[r]? = some (.mapIter (some b) c seen c) ∧ seen.toList = Z.map (·.2) ∧ S = Z.map (·.1) ∧ (∀ z ∈ Z, z ∈ Y) ∧ Z.Nodup
theorem RgM.tm {r : Nat} {S : List En} (h : RgM w b r L S) : TM w b L := by
  obtain ⟨Y, c, Z, seen, h1, _⟩ := h
  exact ⟨Y, c, h1⟩
theorem RgM.lt {r : Nat} {S : List En} (h : RgM w b r L S) : r < w.heap.size := by
  obtain ⟨Y, c, Z, seen, h1, h2, _⟩ := h
  exact lt_of_heap h2
theorem RgM.below {r B : Nat} {S : List En} (h : RgM w b r L S) (G : Below B w w') (hb : b < B) (hr : r < B) : RgM w' b r L S := by
  obtain ⟨Y, c, Z, seen, h1, h2, h3⟩ := h
  exact ⟨Y, c, Z, seen, ⟨(G.block b hb).trans h1.at_, h1.perm, h1.lt, h1.nd, h1.all, h1.kn⟩, (G.block r hr).trans h2, h3⟩
theorem RgM.gro {r : Nat} {S : List En} (h : RgM w b r L S) (G : Gro w w') : RgM w' b r L S := h.below G h.tm.lt h.lt
theorem TM.range (h : TM w b L) : (Instr.range 81 (.map (some b))).run Try.prog w = .ok (.pointer (some ⟨w.heap.size, 0, none⟩)) (w.alloc (.mapIter (some b) (match w.heap[b]? with | some (.map _ c) => c | _ => 0) #[] (match w.heap[b]? with | some (.map _ c) => c | _ => 0))) ∧ RgM (w.alloc (.mapIter (some b) (match w.heap[b]? with | some (.map _ c) => c | _ => 0) #[] (match w.heap[b]? with | some (.map _ c) => c | _ => 0))) b w.heap.size L [] := by
  obtain ⟨Y, c, h⟩ := h
  rw [h.at_]
  refine ⟨run_range_map w 81 26 52 b _ c Try.underlying81 h.at_, Y, c, [], #[], ⟨?_, h.perm, h.lt, h.nd, h.all, h.kn⟩, heap_alloc_new _ _, rfl, rfl, by simp, by simp⟩
  exact (gro_alloc w _).has h.at_
theorem nd_fst {Y Z : List (En × Nat)} (hY : Y.Nodup) (hZ : Z.Nodup) (hs : ∀ z ∈ Z, z ∈ Y) : Z.length ≤ Y.length := by
  have : Z.Perm (Y.filter fun y => decide (y ∈ Z)) := (List.perm_ext_iff_of_nodup hZ (List.Nodup.sublist List.filter_sublist hY)).2 fun z => by
    rw [List.mem_filter, decide_eq_true_eq]
    exact ⟨fun h => ⟨hs z h, h⟩, fun h => h.2⟩
  rw [this.length_eq]
  exact List.length_filter_le _ _
theorem RgM.len {r : Nat} {S : List En} (h : RgM w b r L S) : S.length ≤ L.length := by
  obtain ⟨Y, c, Z, seen, h1, _, _, h3, h4, h5⟩ := h
  have := nd_fst (nd_of h1.nd) h5 h4
  have e := h1.perm.length_eq
  rw [List.length_map] at e
  rw [h3, List.length_map]
  omega
/-- The next one: none is left, or one that hasn't come. -/
theorem RgM.next {r : Nat} {S : List En} (h : RgM w b r L S) (ty : TypeId) :
    (S.Perm L ∧ (Instr.next (.pointer (some ⟨r, 0, none⟩)) false ty).run Try.prog w = .ok (.tuple #[.bool false]) w) ∨
    ∃ x w', x ∈ L ∧ (Instr.next (.pointer (some ⟨r, 0, none⟩)) false ty).run Try.prog w = .ok (.tuple #[.bool true, .agg (paA x.p), .agg (enA x)]) w' ∧ RgM w' b r L (S ++ [x]) ∧ GroS [r] w w' ∧
      (Instr.entry (.pointer (some ⟨r, 0, none⟩))).run Try.prog w' = .ok (.tuple #[.agg (paA x.p), .agg (enA x)]) w' := by
  obtain ⟨Y, c, Z, seen, h1, h2, h3, h4, h5, h6⟩ := h
  have hsz : ∀ y ∈ Y, seen.contains y.2 = decide (y ∈ Z) := fun y hy => by
    rw [Bool.eq_iff_iff, Array.contains_iff_mem, ← Array.mem_toList_iff, h3, decide_eq_true_eq]
    constructor
    · intro hm
      obtain ⟨z, hz, e⟩ := List.mem_map.1 hm
      have : z = y := nd_inj h1.nd (h5 z hz) hy e
      exact this ▸ hz
    · intro hm
      exact List.mem_map_of_mem hm
  rcases run_next_at (P := Try.prog) w ty r b c c seen (Y.map ent).toArray c h2 h1.at_ (fun x hx => by
      obtain ⟨y, hy, rfl⟩ := List.mem_map.1 hx
      exact h1.lt y hy) (Nat.le_refl _) with ⟨h0, hrun⟩ | ⟨e, he, w1, hal, hrun⟩
  · refine .inl ⟨?_, hrun⟩
    have hall := all_seen _ _ h0
    have hYZ : ∀ y ∈ Y, y ∈ Z := fun y hy => by
      have := hall (ent y) (by simpa using ⟨y.1, y.2, hy, rfl⟩)
      rw [show (ent y).born = y.2 from rfl, hsz y hy] at this
      simpa using this
    have hYn : Y.Nodup := nd_of h1.nd
    have hp : Z.Perm Y := (List.perm_ext_iff_of_nodup h6 hYn).2 fun z => ⟨h5 z, hYZ z⟩
    rw [h4]
    exact (hp.map _).trans h1.perm
  · obtain ⟨hem, hes⟩ := mem_left he
    obtain ⟨y, hy, rfl⟩ := List.mem_map.1 hem
    rw [show (ent y).born = y.2 from rfl, hsz y hy] at hes
    have hyZ : y ∉ Z := by simpa using hes
    have hne : r ≠ b := fun e => by rw [e, h1.at_] at h2; cases h2
    have hr1 : w1.heap[r]? = some (.mapIter (some b) c seen c) := by rcases hal with rfl | rfl <;> exact h2
    have hb1 : w1.heap[b]? = some (.map (Y.map ent).toArray c) := by rcases hal with rfl | rfl <;> exact h1.at_
    have hset := MapKept.heap_set (o' := .mapIter (some b) c (seen.push y.2) c) hr1
    have hb' : (ChangeMaps.setBlock w1 r (.mapIter (some b) c (seen.push y.2) c)).heap[b]? = some (.map (Y.map ent).toArray c) := (hset.2 b (fun e1 => hne e1.symm)).trans hb1
    refine .inr ⟨y.1, _, h1.mem hy, hrun, ⟨Y, c, Z ++ [y], seen.push y.2, ⟨hb', h1.perm, h1.lt, h1.nd, h1.all, h1.kn⟩, hset.1, by simp [h3], by simp [h4], ?_, ?_⟩, ?_, ?_⟩
    · intro z hz
      rcases List.mem_append.1 hz with hz | hz
      · exact h5 z hz
      · rw [List.mem_singleton.1 hz]; exact hy
    · rw [List.nodup_append]
      exact ⟨h6, by simp, fun a ha d hd => by rw [List.mem_singleton.1 hd]; rintro rfl; exact hyZ ha⟩
    · rcases hal with rfl | rfl <;> exact ⟨rfl, rfl, rfl, by simp [ChangeMaps.setBlock], fun i _ hi => hset.2 i (by simpa using hi)⟩
    · exact run_entry_at _ r b c seen (Y.map ent).toArray c (ent y) hset.1 hb' (by simpa using ⟨y.1, y.2, hy, rfl⟩) (by
        rw [show ((Y.map ent).toArray.toList.map (·.born)) = Y.map (·.2) by simp [ent]]
        exact h1.nd)
end
end Go.Proofs.Ytmpnepbmpmkmkaa
