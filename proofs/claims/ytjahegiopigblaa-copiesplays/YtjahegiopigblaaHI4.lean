/- Rows of identities in memory. -/
import Derived.Test.YtjahegiopigblaaHQ1
import Derived.Test.YtjahegiopigblaaHI1
namespace Go.Proofs.Ytjahegiopigblaa
open Go.RowKit
/-- The cells of some identities, one behind the other. -/
def fl (l : List Nat) : List Value := l.flatMap fun n => (idA n).toList
theorem idA_leni (n : Nat) : (idA n).toList.length = 16 := by simp [idA]
theorem fl_cons (n : Nat) (l : List Nat) : fl (n :: l) = (idA n).toList ++ fl l := by simp [fl]
theorem fl_app (a b : List Nat) : fl (a ++ b) = fl a ++ fl b := by simp [fl]
theorem fl_len : ∀ l : List Nat, (fl l).length = l.length * 16
  | [] => rfl
  | n :: l => by rw [fl_cons, List.length_append, idA_leni, fl_len l, List.length_cons]; omega
theorem fl_drop : ∀ (i : Nat) (l : List Nat), (fl l).drop (i * 16) = fl (l.drop i)
  | 0, l => by simp
  | i + 1, [] => by simp [fl]
  | i + 1, n :: l => by
    rw [fl_cons, List.drop_succ_cons, ← fl_drop i l, show (i + 1) * 16 = (idA n).toList.length + i * 16 by rw [idA_leni]; omega, List.drop_length_add_append]
theorem fl_take : ∀ (i : Nat) (l : List Nat), (fl l).take (i * 16) = fl (l.take i)
  | 0, l => by simp [fl]
  | i + 1, [] => by simp [fl]
  | i + 1, n :: l => by
    rw [fl_cons, List.take_succ_cons, fl_cons, ← fl_take i l, show (i + 1) * 16 = (idA n).toList.length + i * 16 by rw [idA_leni]; omega, List.take_length_add_append]
theorem fl_one {l : List Nat} : ∀ v ∈ fl l, v.oneCell' = true := fun v hv => by
  obtain ⟨n, _, hn⟩ := List.mem_flatMap.1 hv
  exact Array.all_eq_true_iff_forall_mem.1 (idA_one n) v (by simpa using hn)
theorem fl_el (l : List Nat) (j : Nat) (hj : j < l.length) : ((fl l).drop (j * 16)).take 16 = (idA (l.getD j 0)).toList := by
  rw [fl_drop, List.drop_eq_getElem_cons hj, fl_cons, List.take_left' (idA_leni _)]
  simp [List.getD_eq_getElem?_getD, hj]
theorem fl_set (l : List Nat) (i x : Nat) (hi : i < l.length) : splice (fl l).toArray (i * 16) (idA x) = (fl (l.set i x)).toArray := by
  unfold splice
  congr 1
  rw [List.set_eq_take_append_cons_drop, if_pos hi, fl_app, fl_cons, show i * 16 + (idA x).size = (i + 1) * 16 by rw [idA_size]; omega]
  rw [show (fl l).toArray.toList = fl l from rfl, fl_take, fl_drop, List.append_assoc]
theorem idA_0 : (idA 0).toList = List.replicate 16 (.int .u8 0) := by
  unfold idA
  simp [byt]
theorem fl_zero (n : Nat) : fl (List.replicate n 0) = List.replicate (n * 16) (.int .u8 0) := by
  induction n with
  | zero => rfl
  | succ n ih =>
    rw [List.replicate_succ, fl_cons, ih, idA_0, List.replicate_append_replicate]
    congr 1
    omega
theorem idA_0at (i : Nat) : (idA 0)[i % 16]! = .int .u8 0 := by
  have h : i % 16 < (idA 0).size := by rw [idA_size]; omega
  rw [getElem!_pos (idA 0) (i % 16) h]
  have h2 : (idA 0).toList[i % 16]'(by rw [idA_leni]; omega) = .int .u8 0 := by
    simp only [idA_0, List.getElem_replicate]
  simpa using h2
theorem made_zero (n : Nat) : (madeCells (idA 0) (n * 16)) = (fl (List.replicate n 0)).toArray := by
  rw [fl_zero]
  apply Array.toList_inj.1
  simp only [madeCells, idA_size, idA_0at, Array.toList_map, Array.toList_range]
  apply List.ext_getElem
  · simp
  · intro i h1 h2
    simp
theorem clr_zero (n : Nat) : (Builtin.zeroCells (idA 0) n).toList = fl (List.replicate n 0) := by
  rw [fl_zero]
  simp only [Builtin.zeroCells, idA_size, idA_0at, Array.toList_map, Array.toList_range]
  apply List.ext_getElem
  · simp
  · intro i h1 h2
    simp
theorem rI : RowT Try.prog 24 23 16 16 (.agg (idA 0)) := ⟨Try.underlying24, info_of (by kernel_rfl), idA_size 0, by decide⟩
/-- A row of identities as it is read. -/
structure RC (w : World) (ao : Option Addr) (cap : Nat) (l : List Nat) : Prop where
  xc : XC w 16 ao cap l.length (fl l)
  all : All l
section
variable {w w' : World} {ao : Option Addr} {cap : Nat} {l : List Nat}
theorem RC.gro (h : RC w ao cap l) (G : Gro w w') : RC w' ao cap l := ⟨h.xc.gro G, h.all⟩
theorem RC.below (h : RC w ao cap l) {B : Nat} (G : Below B w w') (hb : ∀ ad, ao = some ad → 0 < (fl l).length → ad.block < B) : RC w' ao cap l := ⟨h.xc.below G hb, h.all⟩
theorem RC.lt (h : RC w ao cap l) : ∀ ad, ao = some ad → 0 < (fl l).length → ad.block < w.heap.size := h.xc.lt
theorem RC.nil (w : World) : RC w none 0 [] := ⟨XC.nil w 16, fun _ h => by cases h⟩
theorem RC.at (h : RC w ao cap l) {j : Nat} (hj : j < l.length) : l.getD j 0 < top := by
  have : l.getD j 0 = l[j] := by simp [List.getD_eq_getElem?_getD, hj]
  rw [this]
  exact h.all _ (List.getElem_mem hj)
theorem RC.fit (h : RC w ao cap l) : l.length ≤ cap := h.xc.fit
theorem RC.take (h : RC w ao cap l) (i : Nat) (hi : i ≤ l.length) : RC w ao cap (l.take i) := by
  have := h.xc.take i hi
  rw [fl_take] at this
  refine ⟨?_, fun x hx => h.all x (List.mem_of_mem_take hx)⟩
  rw [List.length_take, Nat.min_eq_left hi]
  exact this
theorem RC.drop (h : RC w ao cap l) (i : Nat) (hi : i ≤ l.length) : RC w (if cap = i then ao else ao.map (·.add (i * 16))) (cap - i) (l.drop i) := by
  have := h.xc.drop i hi
  rw [fl_drop] at this
  refine ⟨?_, fun x hx => h.all x (List.mem_of_mem_drop hx)⟩
  rw [List.length_drop]
  exact this
/-- A row that is a whole block, or its first part. -/
theorem RC.blk {g : Nat} {L : List Nat} {t : TypeId} {fr : Nat × Nat} (hg : w.heap[g]? = some (.cells (fl L).toArray t fr)) (hL : All L) (n : Nat) (hn : n ≤ L.length) (hc : n ≤ cap) : RC w (some ⟨g, 0, none⟩) cap (L.take n) := by
  refine ⟨⟨fl_len _, by rw [List.length_take]; omega, fun h => (by cases h), fun ad ha j v hv => ?_, fl_one⟩, fun x hx => hL x (List.mem_of_mem_take hx)⟩
  cases ha
  rw [add_at, Nat.zero_add, cell_of_row w g j _ t _ hg]
  rw [← fl_take, List.getElem?_take] at hv
  split at hv
  · simpa using hv
  · cases hv
theorem RC.all_blk {g : Nat} {L : List Nat} {t : TypeId} {fr : Nat × Nat} (hg : w.heap[g]? = some (.cells (fl L).toArray t fr)) (hL : All L) (hc : L.length ≤ cap) : RC w (some ⟨g, 0, none⟩) cap L := by
  have := RC.blk hg hL L.length (Nat.le_refl _) hc
  rwa [List.take_length] at this
end
/-- The place of an element. -/
def pA (ao : Option Addr) (j : Nat) : Option Addr := ao.map (·.add (j * 16))
theorem pA_0 (g j : Nat) : pA (some ⟨g, 0, none⟩) j = some ⟨g, j * 16, none⟩ := by simp [pA, add_at]
section
variable {o : Oper} {A : Act} {w : World} {ao : Option Addr} {cap : Nat} {l : List Nat}
theorem run_ixI (h : RC w ao cap l) (x y : Operand) (ho : o.op = .indexAddr 24 x y) (hx : A.eval x = .slice ao l.length cap) (j : Nat) (hy : A.eval y = .int .i64 (j : Int)) (hj : j < l.length) :
    (execOp A.eval o).run Try.prog w = .ok (.value (.pointer (pA ao j))) w := by
  obtain ⟨ad, rfl⟩ := h.xc.some (by omega)
  exact run_idxX rI x y ho ad _ _ j hx hy hj w
theorem run_ldI (h : RC w ao cap l) (x : Operand) (ho : o.op = .load 23 x) (j : Nat) (hx : A.eval x = .pointer (pA ao j)) (hj : j < l.length) :
    (execOp A.eval o).run Try.prog w = .ok (.value (.agg (idA (l.getD j 0)))) w := by
  obtain ⟨ad, rfl⟩ := h.xc.some (by omega)
  rw [run_ldX rI _ Try.underlying23 rfl x ho ad j hx w h.xc hj, fl_el l j hj]
theorem run_eqIi (x y : Operand) (t2 : TypeId) (ho : o.op = .binOp .eql 23 x y t2) (n m : Nat) (hx : A.eval x = .agg (idA n)) (hy : A.eval y = .agg (idA m)) (hn : n < top) (hm : m < top) (p : Bool) (hp : decide (n = m) = p) :
    (execOp A.eval o).run Try.prog w = .ok (.value (.bool p)) w := by
  subst hp
  exact run_eqlop_id x y t2 ho n m hx hy _ (fun w => run_eql_id n m hn hm w) w
theorem run_neIi (x y : Operand) (t2 : TypeId) (ho : o.op = .binOp .neq 23 x y t2) (n m : Nat) (hx : A.eval x = .agg (idA n)) (hy : A.eval y = .agg (idA m)) (hn : n < top) (hm : m < top) (p : Bool) (hp : decide (n = m) = !p) :
    (execOp A.eval o).run Try.prog w = .ok (.value (.bool p)) w := by
  have : p = !decide (n = m) := by rw [hp]; simp
  subst this
  exact run_eqlop_id x y t2 ho n m hx hy _ (fun w => run_neq_id n m hn hm w) w
/-- An identity in a box, read. -/
theorem run_ldB (x : Operand) (ho : o.op = .load 23 x) (g n : Nat) (hx : A.eval x = .pointer (some ⟨g, 0, none⟩)) (hg : w.heap[g]? = some (.cells (idA n) 23 (0, 0))) :
    (execOp A.eval o).run Try.prog w = .ok (.value (.agg (idA n))) w :=
  run_lda 23 x ho g 0 16 hx 23 _ hg _ Try.underlying23 rfl size23 (by rw [idA_size]; omega) _ (extract_id n)
end
/-- A row of one's own. -/
structure OI (w : World) (B : Nat) (ao : Option Addr) (cap : Nat) (l : List Nat) : Prop where
  own : OX w 23 16 B ao cap l.length (fl l)
  all : All l
section
variable {w w' : World} {B : Nat} {ao : Option Addr} {cap : Nat} {l : List Nat}
theorem OI.rc (h : OI w B ao cap l) : RC w ao cap l := ⟨h.own.xc, h.all⟩
theorem OI.gro (h : OI w B ao cap l) (G : Gro w w') : OI w' B ao cap l := ⟨h.own.gro G, h.all⟩
theorem OI.nil (w : World) (B : Nat) : OI w B none 0 [] := ⟨OX.nil w 23 16 B, fun _ h => by cases h⟩
theorem OI.apart (h : OI w B ao cap l) {g : Nat} {x : Obj} (S : Stored w w' g x) (hg : g < B) : OI w' B ao cap l := ⟨h.own.apart S (fun ad ha => by have := (h.own.ge ad ha).1; omega), h.all⟩
end
section
variable {ops : Array Oper} {rest : List Oper} {o : Oper} {T : List Value} {ds : List Deferred} {w : World} {Q : Exit → Act → World → Prop}
/-- Onto one's own row. -/
theorem s_appI (dst : Nat) (hd : o.dst = some dst) (hgd : o.guard = none) (s x : Operand) (ho : o.op = .call { callee := .builtin .append, args := #[s, x], argTypes := #[24, 24] })
    {B : Nat} {ao : Option Addr} {cap : Nat} {l : List Nat} (hs : (⟨T.toArray, ds⟩ : Act).eval s = .slice ao l.length cap) (hown : OI w B ao cap l)
    {ao' : Option Addr} {cap' : Nat} {l' : List Nat} (hx : (⟨T.toArray, ds⟩ : Act).eval x = .slice ao' l'.length cap') (hsrc : RC w ao' cap' l') (hb : l.length + l'.length ≤ 1000000) (hB : B ≤ w.heap.size)
    (h : ∀ ao2 cap2 w', OI w' B ao2 cap2 (l ++ l') → Below B w w' → wpList Try.prog ops Q rest ⟨(T.set dst (.slice ao2 (l ++ l').length cap2)).toArray, ds⟩ w') : wpList Try.prog ops Q (o :: rest) ⟨T.toArray, ds⟩ w := by
  refine wpList_appX rI dst hd hgd s x ho hs hown.own hx hsrc.xc (by omega) (by decide) hB ?_
  intro ao2 cap2 w' h1 h2
  rw [put_list]
  rw [← fl_app, ← List.length_append] at h1
  have := h ao2 cap2 w' ⟨h1, fun x hx => (List.mem_append.1 hx).elim (hown.all x) (hsrc.all x)⟩ h2
  rw [List.length_append] at this
  exact this
/-- A new row of noughts. -/
theorem s_mkI (dst : Nat) (hd : o.dst = some dst) (hgd : o.guard = none) (x y : Operand) (ho : o.op = .makeSlice 24 x y) (n : Nat) (hx : (⟨T.toArray, ds⟩ : Act).eval x = .int .i64 (n : Int)) (hy : (⟨T.toArray, ds⟩ : Act).eval y = .int .i64 (n : Int)) (hb : n ≤ 1000000)
    (h : ∀ w' g, Gro w w' → w.heap.size = g → w'.heap[g]? = some (.cells (fl (List.replicate n 0)).toArray 23 (0, 0)) → wpList Try.prog ops Q rest ⟨(T.set dst (.slice (some ⟨g, 0, none⟩) n n)).toArray, ds⟩ w') : wpList Try.prog ops Q (o :: rest) ⟨T.toArray, ds⟩ w := by
  obtain ⟨i, hi, hz, hsz, hby⟩ := rI.info
  have hr := run_make (P := Try.prog) w 24 23 i _ rI.und hi hz .i64 .i64 (n : Int) (n : Int) (by omega) (Int.le_refl _) (by rw [hby]; omega) (by omega)
  simp only [Int.toNat_natCast, hsz, Value.cells, made_zero] at hr
  refine wpList_plain hgd fun _ hK => ?_
  have he : (execOp (Act.eval ⟨T.toArray, ds⟩) o).run Try.prog w = .ok (.value (.slice (some ⟨w.heap.size, 0, none⟩) n n)) (w.alloc (.cells (fl (List.replicate n 0)).toArray 23)) := by
    unfold execOp
    simp only [ho, hx, hy, Sem.run_bind, hr, Result.andThen_ok, Sem.run_pure]
  unfold Oper.wp
  rw [he, Oper.upon_value, hd, put_list]
  exact hK _ _ (h _ _ (gro_alloc _ _) rfl (heap_alloc_new _ _))
/-- A row is copied over another one as long. -/
theorem s_cpI (dst : Nat) (hd : o.dst = some dst) (hgd : o.guard = none) (x y : Operand) (ho : o.op = .call { callee := .builtin .copy, args := #[x, y], argTypes := #[24, 24] })
    (g n dCap : Nat) (hx : (⟨T.toArray, ds⟩ : Act).eval x = .slice (some ⟨g, 0, none⟩) n dCap) {L : List Nat} (hg : w.heap[g]? = some (.cells (fl L).toArray 23 (0, 0))) (hL : L.length = n) {ao' : Option Addr} {cap' : Nat} {l : List Nat} (hy : (⟨T.toArray, ds⟩ : Act).eval y = .slice ao' l.length cap') (hsrc : RC w ao' cap' l) (hn : l.length = n)
    (h : ∀ w', Stored w w' g (.cells (fl l).toArray 23 (0, 0)) → wpList Try.prog ops Q rest ⟨(T.set dst (.int .i64 (n : Int))).toArray, ds⟩ w') : wpList Try.prog ops Q (o :: rest) ⟨T.toArray, ds⟩ w := by
  refine wpList_plain hgd fun _ hK => ?_
  have hmin : Nat.min l.length n = n := by rw [hn]; exact Nat.min_self n
  have hf : (Builtin.firstCells 16 n (.slice ao' l.length cap')).run Try.prog w = .ok (fl l).toArray w := by
    cases ao' with
    | none =>
      have h1 := hsrc.xc.bare rfl
      have h2 := hsrc.xc.fit
      have h3 : l = [] := List.eq_nil_of_length_eq_zero (by omega)
      subst h3
      rfl
    | some ad =>
      have h1 := run_loadCells_list (P := Try.prog) w ad (fl l) fun j v hv => hsrc.xc.cell ad rfl j v hv
      rw [fl_len, hn] at h1
      simp only [Builtin.firstCells, h1]
  have hst := run_storeCells_at Try.prog g 0 23 (fl l) 0 (fl L).toArray w hg (by simp [fl_len]; omega) fl_one
  have hrow : ((fl L).toArray.toList.take (0 + 0) ++ fl l ++ (fl L).toArray.toList.drop (0 + 0 + (fl l).length)).toArray = (fl l).toArray := by
    have : (fl L).drop (fl l).length = [] := List.drop_of_length_le (by rw [fl_len, fl_len]; omega)
    simp [this]
  rw [hrow] at hst
  have hsz := run_sizeX rI w
  have he : (execOp (Act.eval ⟨T.toArray, ds⟩) o).run Try.prog w = .ok (.value (.int .i64 (n : Int))) (w.setRow g (fl l).toArray) := by
    unfold execOp
    simp only [ho]
    simp [resolve, invoke, builtin, hx, hy, Builtin.copy_, run_underlying rI.und, Builtin.lenOf, hmin, hsz, hf, hst, goInt]
  unfold Oper.wp
  rw [he, Oper.upon_value, hd, put_list]
  exact hK _ _ (h _ (stored_setRow _ hg))
set_option maxRecDepth 100000 in
/-- The last ones of a row are cleared. -/
theorem s_clI (hgd : o.guard = none) (hdst : o.dst = none) (x : Operand) (ho : o.op = .call { callee := .builtin .clear, args := #[x], argTypes := #[24] })
    (g n cap i : Nat) (hx : (⟨T.toArray, ds⟩ : Act).eval x = .slice (if cap = i then some ⟨g, 0, none⟩ else (some ⟨g, 0, none⟩ : Option Addr).map (·.add (i * 16))) (n - i) (cap - i)) {L : List Nat} (hg : w.heap[g]? = some (.cells (fl L).toArray 23 (0, 0))) (hi : i ≤ n) (hn : n ≤ L.length) (hc : n ≤ cap)
    (h : ∀ w', Stored w w' g (.cells (fl (L.take i ++ List.replicate (n - i) 0 ++ L.drop n)).toArray 23 (0, 0)) → wpList Try.prog ops Q rest ⟨T.toArray, ds⟩ w') : wpList Try.prog ops Q (o :: rest) ⟨T.toArray, ds⟩ w := by
  refine wpList_plain hgd fun _ hK => ?_
  have hzv : (zeroValue 23).run Try.prog w = .ok (.agg (idA 0)) w := zero23 w
  by_cases h0 : n - i = 0
  · have hni : n = i := by omega
    have hL : L.take i ++ List.replicate (n - i) 0 ++ L.drop n = L := by rw [h0, hni]; simp
    have := hK _ _ (h w ⟨rfl, rfl, rfl, rfl, by rw [hL]; exact hg, fun _ _ => rfl⟩)
    have he : (execOp (Act.eval ⟨T.toArray, ds⟩) o).run Try.prog w = .ok (.value (.tuple #[])) w := by
      unfold execOp
      simp only [ho]
      rw [h0] at hx
      generalize (if cap = i then some ⟨g, 0, none⟩ else (some ⟨g, 0, none⟩ : Option Addr).map (·.add (i * 16))) = q at hx
      cases q <;> simp [resolve, invoke, builtin, hx, Builtin.clear_, run_underlying rI.und]
    unfold Oper.wp
    rw [he, Oper.upon_value, hdst]
    exact this
  · have hci : cap ≠ i := by omega
    rw [if_neg hci] at hx
    simp only [Option.map_some, add_at, Nat.zero_add] at hx
    have hst := run_storeCells_at Try.prog g (i * 16) 23 (fl (List.replicate (n - i) 0)) 0 (fl L).toArray w hg (by simp [fl_len]; omega) fl_one
    have hrow : ((fl L).toArray.toList.take (i * 16 + 0) ++ fl (List.replicate (n - i) 0) ++ (fl L).toArray.toList.drop (i * 16 + 0 + (fl (List.replicate (n - i) 0)).length)).toArray = (fl (L.take i ++ List.replicate (n - i) 0 ++ L.drop n)).toArray := by
      congr 1
      rw [fl_len, List.length_replicate, show i * 16 + 0 + (n - i) * 16 = n * 16 by omega, Nat.add_zero, show (fl L).toArray.toList = fl L from rfl, fl_take, fl_drop, fl_app, fl_app]
    rw [hrow] at hst
    obtain ⟨m, hm⟩ : ∃ m, n - i = m + 1 := ⟨n - i - 1, by omega⟩
    rw [hm] at hx
    have hz := clr_zero (m + 1)
    rw [hm] at hst
    have he : (execOp (Act.eval ⟨T.toArray, ds⟩) o).run Try.prog w = .ok (.value (.tuple #[])) (w.setRow g (fl (L.take i ++ List.replicate (m + 1) 0 ++ L.drop n)).toArray) := by
      unfold execOp
      simp only [ho]
      simp [resolve, invoke, builtin, hx, Builtin.clear_, run_underlying rI.und, hzv, Value.cells, hz, hst]
    have := hK _ _ (h _ (stored_setRow _ hg))
    unfold Oper.wp
    rw [he, Oper.upon_value, hdst, ← hm]
    exact this
end
end Go.Proofs.Ytjahegiopigblaa
