/- Rows of entries and of calls in memory. -/
import Derived.Test.YtmpnepbmpmkmkabBP2
namespace Go.Proofs.Ytmpnepbmpmkmkab
open Go.RowKit
section
variable {α : Type} {enc : α → List Value} {sz : Nat}
theorem flx_len (h : ∀ x, (enc x).length = sz) : ∀ l : List α, (l.flatMap enc).length = l.length * sz
  | [] => by simp
  | n :: l => by rw [List.flatMap_cons, List.length_append, h, flx_len h l, List.length_cons, Nat.add_mul, Nat.one_mul, Nat.add_comm]
theorem flx_drop (h : ∀ x, (enc x).length = sz) : ∀ (i : Nat) (l : List α), (l.flatMap enc).drop (i * sz) = (l.drop i).flatMap enc
  | 0, l => by simp
  | i + 1, [] => by simp
  | i + 1, n :: l => by
    rw [List.flatMap_cons, List.drop_succ_cons, ← flx_drop h i l, show (i + 1) * sz = (enc n).length + i * sz by rw [h, Nat.add_mul, Nat.one_mul, Nat.add_comm], List.drop_length_add_append]
theorem flx_take (h : ∀ x, (enc x).length = sz) : ∀ (i : Nat) (l : List α), (l.flatMap enc).take (i * sz) = (l.take i).flatMap enc
  | 0, l => by simp
  | i + 1, [] => by simp
  | i + 1, n :: l => by
    rw [List.flatMap_cons, List.take_succ_cons, List.flatMap_cons, ← flx_take h i l, show (i + 1) * sz = (enc n).length + i * sz by rw [h, Nat.add_mul, Nat.one_mul, Nat.add_comm], List.take_length_add_append]
theorem flx_at (h : ∀ x, (enc x).length = sz) (z : α) (l : List α) (j : Nat) (hj : j < l.length) : (l.flatMap enc).drop (j * sz) = enc (l.getD j z) ++ (l.drop (j + 1)).flatMap enc := by
  rw [flx_drop h, List.drop_eq_getElem_cons hj, List.flatMap_cons]
  simp [List.getD_eq_getElem?_getD, hj]
theorem flx_el (h : ∀ x, (enc x).length = sz) (z : α) (l : List α) (j : Nat) (hj : j < l.length) (q k : Nat) (hq : q + k ≤ sz) : ((l.flatMap enc).drop (j * sz + q)).take k = ((enc (l.getD j z)).drop q).take k := by
  rw [← List.drop_drop, flx_at h z l j hj, List.drop_append_of_le_length (by rw [h]; omega), List.take_append_of_le_length (by rw [List.length_drop, h]; omega)]
theorem flx_cell (h : ∀ x, (enc x).length = sz) (z : α) (l : List α) (j : Nat) (hj : j < l.length) (q : Nat) (hq : q < sz) : (l.flatMap enc)[j * sz + q]? = (enc (l.getD j z))[q]? := by
  have := flx_at h z l j hj
  rw [← List.getElem?_drop, this, List.getElem?_append_left (by rw [h]; exact hq)]
end
def flE (l : List En) : List Value := l.flatMap enL
theorem flE_len (l : List En) : (flE l).length = l.length * 51 := flx_len enL_len l
theorem flE_app (a b : List En) : flE (a ++ b) = flE a ++ flE b := by simp [flE]
theorem flE_one {l : List En} : ∀ v ∈ flE l, v.oneCell' = true := fun v hv => by
  obtain ⟨n, _, hn⟩ := List.mem_flatMap.1 hv
  exact enL_one n v hn
def flO (l : List Oq) : List Value := l.flatMap opL
theorem rE : RowT Try.prog 63 39 51 72 (.agg (enA zE)) := ⟨Try.underlying63, info_of (by kernel_rfl), enA_size zE, by decide⟩
section
variable {P : Program} {o : Oper} {A : Act} {w : World} {sz cap n : Nat} {cs : List Value} {ad : Addr}
theorem run_ldXa (ty : TypeId) (d : TypeDesc) (hu : P.underlying ty = some d) (hd : (match d with | .struct _ | .array _ _ => true | _ => false) = true) (k : Nat) (hi : (P.info? ty).map (·.size) = some k) (x : Operand) (ho : o.op = .load ty x) (q : Nat) (hx : A.eval x = .pointer (some (ad.add q))) (h : XC w sz (some ad) cap n cs) (hq : q + k ≤ cs.length) :
    (execOp A.eval o).run P w = .ok (.value (.agg ((cs.drop q).take k).toArray)) w := by
  have hlen : ((cs.drop q).take k).length = k := by rw [List.length_take, List.length_drop]; omega
  have hld : (loadCells (ad.add q) k).run P w = .ok ((cs.drop q).take k).toArray w := by
    have := run_loadCells_list (P := P) w (ad.add q) ((cs.drop q).take k) fun i v hv => by
      rw [List.getElem?_take] at hv
      split at hv
      · rw [List.getElem?_drop] at hv
        rw [add_add]
        exact h.cell ad rfl _ v hv
      · cases hv
    rwa [hlen] at this
  have hagg : (isAgg ty).run P w = .ok true w := by
    unfold isAgg
    rw [Sem.run_bind, run_underlying hu w]
    cases d <;> simp_all
  have hsz : (sizeOf ty).run P w = .ok k w := by
    cases e : P.info? ty with
    | none => rw [e] at hi; cases hi
    | some i =>
      rw [e] at hi
      cases hi
      simp [sizeOf, typeInfo, e]
  have hv : (loadVar ty (ad.add q)).run P w = .ok (.agg ((cs.drop q).take k).toArray) w := by
    simp [loadVar, hagg, hsz, hld]
  unfold execOp
  simp only [ho, hx, Instr.loadAt, Instr.sureAddr, Sem.run_bind, Sem.run_pure, Result.andThen_ok, hv]
theorem run_ldXc (ty : TypeId) (hu : (isAgg ty).run P w = .ok false w) (x : Operand) (ho : o.op = .load ty x) (q : Nat) (hx : A.eval x = .pointer (some (ad.add q))) (h : XC w sz (some ad) cap n cs) (v : Value) (hv : cs[q]? = some v) :
    (execOp A.eval o).run P w = .ok (.value v) w := by
  have hc := h.cell ad rfl q v hv
  unfold execOp
  simp only [ho, hx]
  simp [Instr.loadAt, Instr.sureAddr, Sem.run_bind, loadVar, hu, hc, go_sem]
theorem run_fdA (s : TypeId) (x : Operand) (i : Nat) (ho : o.op = .fieldAddr s x i) (hx : A.eval x = .pointer (some ad)) (r : Addr)
    (hf : (Instr.fieldAt s (.pointer (some ad)) i).run P w = .ok (.pointer (some r)) w) : (execOp A.eval o).run P w = .ok (.value (.pointer (some r))) w := by
  unfold execOp
  simp only [ho, hx, Sem.run_bind, hf, Result.andThen_ok, Sem.run_pure]
end
/-- A row of entries as it is read. -/
structure RE (w : World) (ao : Option Addr) (cap : Nat) (l : List En) : Prop where
  xc : XC w 51 ao cap l.length (flE l)
  all : AllE l
/-- A row of calls as it is read. -/
structure RQ (w : World) (ao : Option Addr) (cap : Nat) (l : List Oq) : Prop where
  xc : XC w 53 ao cap l.length (flO l)
  all : ∀ o ∈ l, o.ok
/-- Where a part of an element stands. -/
def pE (ao : Option Addr) (j q : Nat) : Option Addr := ao.map (·.add (j * 51 + q))
section
variable {w w' : World} {ao : Option Addr} {cap : Nat} {l : List En}
theorem RE.gro (h : RE w ao cap l) (G : Gro w w') : RE w' ao cap l := ⟨h.xc.gro G, h.all⟩
theorem RE.below (h : RE w ao cap l) {B : Nat} (G : Below B w w') (hb : ∀ ad, ao = some ad → 0 < (flE l).length → ad.block < B) : RE w' ao cap l := ⟨h.xc.below G hb, h.all⟩
theorem RE.lt (h : RE w ao cap l) : ∀ ad, ao = some ad → 0 < (flE l).length → ad.block < w.heap.size := h.xc.lt
theorem RE.nil (w : World) : RE w none 0 [] := ⟨XC.nil w 51, AllE.nil⟩
theorem RE.fit (h : RE w ao cap l) : l.length ≤ cap := h.xc.fit
theorem RE.gros {S : List Nat} (h : RE w ao cap l) (G : GroS S w w') (hs : ∀ ad, ao = some ad → 0 < (flE l).length → ad.block ∉ S) : RE w' ao cap l :=
  ⟨⟨h.xc.len, h.xc.fit, h.xc.bare, fun ad ha j v hv => by
    have h0 : 0 < (flE l).length := by have := (List.getElem?_eq_some_iff.1 hv).1; omega
    exact (World.cell?_of_block (by rw [add_block]; exact G.old _ (h.lt ad ha h0) (hs ad ha h0))).trans (h.xc.cell ad ha j v hv), h.xc.one⟩, h.all⟩
theorem RE.take (h : RE w ao cap l) (i : Nat) (hi : i ≤ l.length) : RE w ao cap (l.take i) := by
  have := h.xc.take i hi
  rw [flE, flx_take enL_len] at this
  refine ⟨?_, fun x hx => h.all x (List.mem_of_mem_take hx)⟩
  rw [List.length_take, Nat.min_eq_left hi]
  exact this
theorem RE.drop (h : RE w ao cap l) (i : Nat) (hi : i ≤ l.length) : RE w (if cap = i then ao else ao.map (·.add (i * 51))) (cap - i) (l.drop i) := by
  have := h.xc.drop i hi
  rw [flE, flx_drop enL_len] at this
  refine ⟨?_, fun x hx => h.all x (List.mem_of_mem_drop hx)⟩
  rw [List.length_drop]
  exact this
/-- A row that is a whole block. -/
theorem RE.blk {g : Nat} {t : TypeId} {fr : Nat × Nat} (hg : w.heap[g]? = some (.cells (flE l).toArray t fr)) (hl : AllE l) (hc : l.length ≤ cap) : RE w (some ⟨g, 0, none⟩) cap l := by
  refine ⟨⟨flE_len _, hc, fun h => (by cases h), fun ad ha j v hv => ?_, flE_one⟩, hl⟩
  cases ha
  rw [add_at, Nat.zero_add, cell_of_row w g j _ t _ hg]
  simpa using hv
end
section
variable {w w' : World} {ao : Option Addr} {cap : Nat} {l : List Oq}
theorem RQ.gro (h : RQ w ao cap l) (G : Gro w w') : RQ w' ao cap l := ⟨h.xc.gro G, h.all⟩
theorem RQ.below (h : RQ w ao cap l) {B : Nat} (G : Below B w w') (hb : ∀ ad, ao = some ad → 0 < (flO l).length → ad.block < B) : RQ w' ao cap l := ⟨h.xc.below G hb, h.all⟩
theorem RQ.lt (h : RQ w ao cap l) : ∀ ad, ao = some ad → 0 < (flO l).length → ad.block < w.heap.size := h.xc.lt
theorem RQ.at (h : RQ w ao cap l) {j : Nat} (hj : j < l.length) : (l.getD j zO).ok := by
  have : l.getD j zO = l[j] := by simp [List.getD_eq_getElem?_getD, hj]
  rw [this]
  exact h.all _ (List.getElem_mem hj)
end
section
variable {o : Oper} {A : Act} {w : World} {ao : Option Addr} {cap : Nat} {l : List En}
theorem run_ixE (h : RE w ao cap l) (x y : Operand) (ho : o.op = .indexAddr 63 x y) (hx : A.eval x = .slice ao l.length cap) (j : Nat) (hy : A.eval y = .int .i64 (j : Int)) (hj : j < l.length) :
    (execOp A.eval o).run Try.prog w = .ok (.value (.pointer (pE ao j 0))) w := by
  obtain ⟨ad, rfl⟩ := h.xc.some (by omega)
  exact run_idxX rE x y ho ad _ _ j hx hy hj w
theorem el_fit {j q k : Nat} (hj : j < l.length) (hq : q + k ≤ 51) : j * 51 + q + k ≤ (flE l).length := by rw [flE_len]; omega
theorem run_ldE (h : RE w ao cap l) (x : Operand) (ho : o.op = .load 39 x) (j : Nat) (hx : A.eval x = .pointer (pE ao j 0)) (hj : j < l.length) :
    (execOp A.eval o).run Try.prog w = .ok (.value (.agg (enA (l.getD j zE)))) w := by
  obtain ⟨ad, rfl⟩ := h.xc.some (by omega)
  rw [run_ldXa 39 _ Try.underlying39 rfl 51 si33 x ho (j * 51 + 0) hx h.xc (el_fit hj (by omega)), flE, flx_el enL_len zE l j hj 0 51 (by omega), dE_0]
  rfl
theorem run_ldEp (h : RE w ao cap l) (x : Operand) (ho : o.op = .load 26 x) (j : Nat) (hx : A.eval x = .pointer (pE ao j 0)) (hj : j < l.length) :
    (execOp A.eval o).run Try.prog w = .ok (.value (.agg (paA (l.getD j zE).p))) w := by
  obtain ⟨ad, rfl⟩ := h.xc.some (by omega)
  rw [run_ldXa 26 _ Try.underlying26 rfl 17 si31 x ho (j * 51 + 0) hx h.xc (el_fit hj (by omega)), flE, flx_el enL_len zE l j hj 0 17 (by omega), dE_p]
  rfl
theorem fd33_0 (w : World) (ad : Addr) : (Instr.fieldAt 39 (.pointer (some ad)) 0).run Try.prog w = .ok (.pointer (some (ad.add 0))) w := by kernel_rfl
theorem run_fdE (h : RE w ao cap l) (x : Operand) (i q : Nat) (hf : ∀ ad, (Instr.fieldAt 39 (.pointer (some ad)) i).run Try.prog w = .ok (.pointer (some (ad.add q))) w) (ho : o.op = .fieldAddr 39 x i) (j : Nat) (hx : A.eval x = .pointer (pE ao j 0)) (hj : j < l.length) :
    (execOp A.eval o).run Try.prog w = .ok (.value (.pointer (pE ao j q))) w := by
  obtain ⟨ad, rfl⟩ := h.xc.some (by omega)
  have := hf (ad.add (j * 51 + 0))
  rw [add_add, Nat.add_zero] at this
  exact run_fdA 39 x i ho hx _ this
end
/-- A row of one's own. -/
structure OE (w : World) (B : Nat) (ao : Option Addr) (cap : Nat) (l : List En) : Prop where
  own : OY w 39 51 B ao cap l.length (flE l)
  all : AllE l
section
variable {w w' : World} {B : Nat} {ao : Option Addr} {cap : Nat} {l : List En}
theorem OE.re (h : OE w B ao cap l) : RE w ao cap l := ⟨h.own.xc, h.all⟩
theorem OE.gro (h : OE w B ao cap l) (G : Gro w w') : OE w' B ao cap l := ⟨h.own.gro G, h.all⟩
theorem OE.nil (w : World) (B : Nat) : OE w B none 0 [] := ⟨OY.nil w 39 51 B, AllE.nil⟩
theorem OE.mono (h : OE w B ao cap l) {B' : Nat} (hB : B' ≤ B) : OE w B' ao cap l := ⟨h.own.mono hB, h.all⟩
theorem OE.gros {S : List Nat} (h : OE w B ao cap l) (G : GroS S w w') (hs : ∀ k ∈ blk ao, k ∉ S) : OE w' B ao cap l := ⟨h.own.gros G hs, h.all⟩
theorem OE.blk {g : Nat} (hg : w.heap[g]? = some (.cells (flE l).toArray 39 (0, 0))) (hl : AllE l) (hB : B ≤ g) (hm : l.length ≤ 1000000) : OE w B (some ⟨g, 0, none⟩) l.length l :=
  ⟨⟨flE_len l, .inr ⟨g, 0, _, rfl, hB, hg, Nat.le_refl _, by unfold maxLen; omega, by simp [flE_len], by simp [← flE_len]⟩, flE_one⟩, hl⟩
end
section
variable {ops : Array Oper} {rest : List Oper} {o : Oper} {T : List Value} {ds : List Deferred} {w : World} {Q : Exit → Act → World → Prop}
/-- Onto one's own row. -/
theorem s_appE (dst : Nat) (hd : o.dst = some dst) (hgd : o.guard = none) (s x : Operand) (ho : o.op = .call { callee := .builtin .append, args := #[s, x], argTypes := #[63, 63] })
    {B : Nat} {ao : Option Addr} {cap : Nat} {l : List En} (hs : (⟨T.toArray, ds⟩ : Act).eval s = .slice ao l.length cap) (hown : OE w B ao cap l)
    {ao' : Option Addr} {cap' : Nat} {l' : List En} (hx : (⟨T.toArray, ds⟩ : Act).eval x = .slice ao' l'.length cap') (hsrc : RE w ao' cap' l') (hb : l.length + l'.length ≤ 1000000) (hB : B ≤ w.heap.size)
    (h : ∀ ao2 cap2 w', OE w' B ao2 cap2 (l ++ l') → GroS (blk ao) w w' → Kept w.heap.size ao ao2 → wpList Try.prog ops Q rest ⟨(T.set dst (.slice ao2 (l ++ l').length cap2)).toArray, ds⟩ w') : wpList Try.prog ops Q (o :: rest) ⟨T.toArray, ds⟩ w := by
  refine s_appY rE dst hd hgd s x ho hs hown.own hx hsrc.xc (by omega) (by decide) hB ?_
  intro ao2 cap2 w' h1 h2 h3
  rw [← flE_app, ← List.length_append] at h1
  have := h ao2 cap2 w' ⟨h1, hown.all.app hsrc.all⟩ h2 h3
  rw [List.length_append] at this
  exact this
end
theorem OE.belowB {w w' : World} {B : Nat} {ao : Option Addr} {cap : Nat} {l : List En} (h : OE w B ao cap l) (G : GroS (Go.Proofs.Ytmpnepbmpmkmkab.blk ao) w w') (hB : B ≤ w.heap.size) : Below B w w' :=
  ⟨G.os, G.tape, G.output, G.size, fun k hk => G.old k (by omega) (fun hm => by have := h.own.base k hm; omega)⟩
end Go.Proofs.Ytmpnepbmpmkmkab
