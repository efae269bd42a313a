/- Views, ends, pairs, matrices, rows of booleans and of places in memory. -/
import Derived.Test.YtmjblbgalkjmiaaGreatBA1
import Derived.Test.YtmjblbgalkjmiaaGreatBJ1
namespace Go.Proofs.YtmjblbgalkjmiaaGreat
open Go.RowKit
def setH (R : Nat → Nat → Bool) (a b : Nat) (v : Bool) : Nat → Nat → Bool := fun x y => if x = a ∧ y = b then v else R x y
def nmL (x : Int × Int) : List Value := [.int .i64 x.1, .int .i64 x.2]
def nmA (x : Int × Int) : Array Value := (nmL x).toArray
theorem nmA_size (x : Int × Int) : (nmA x).size = 2 := rfl
theorem nmL_one (x : Int × Int) : ∀ v ∈ (nmA x).toList, v.oneCell' = true := fun v hv => by
  simp only [nmA, nmL, List.mem_cons, List.not_mem_nil, or_false] at hv
  rcases hv with rfl | rfl <;> rfl
/-- Pairs, numbers, matrices. -/
def prL (x : Int × Int) : List Value := [.int .i64 x.1, .int .i64 x.2]
def prA (x : Int × Int) : Array Value := (prL x).toArray
theorem prL_len (x : Int × Int) : (prL x).length = 2 := rfl
theorem prL_one (x : Int × Int) : ∀ v ∈ prL x, v.oneCell' = true := fun v hv => by
  simp only [prL, List.mem_cons, List.not_mem_nil, or_false] at hv
  rcases hv with rfl | rfl <;> rfl
theorem prA_one (x : Int × Int) : (prA x).all (·.oneCell') = true := by kernel_rfl
theorem prA_sz (a b : Int × Int) : (prA a).size = (prA b).size := rfl
theorem prA_fit (a b : Int × Int) : 0 + (prA a).size ≤ (prA b).size := Nat.le_refl _
theorem aP_a (x : Int × Int) : (prA x)[0]? = some (.int .i64 x.1) := by kernel_rfl
theorem aP_b (x : Int × Int) : (prA x)[1]? = some (.int .i64 x.2) := by kernel_rfl
theorem siP : (Tryz.prog.info? 23).map (·.size) = some 2 := by kernel_rfl
theorem siP' (x : Int × Int) : (Tryz.prog.info? 23).map (·.size) = some (prA x).size := siP
theorem zeroP (w : World) : (zeroValue 23).run Tryz.prog w = .ok (.agg (prA (0, 0))) w := by rw [Tryz.zeroValue23]; kernel_rfl
def mxL (R : Nat → Nat → Bool) : List Value := (List.range 36).map fun i => .bool (R (i / 6) (i % 6))
def mxA (R : Nat → Nat → Bool) : Array Value := (mxL R).toArray
def mx0 : Nat → Nat → Bool := fun _ _ => false
theorem mxA_size (R : Nat → Nat → Bool) : (mxA R).size = 36 := by simp [mxA, mxL]
theorem mxA_one (R : Nat → Nat → Bool) : (mxA R).all (·.oneCell') = true := by kernel_rfl
theorem mxA_sz (a b : Nat → Nat → Bool) : (mxA a).size = (mxA b).size := (mxA_size a).trans (mxA_size b).symm
theorem mxA_fit (a b : Nat → Nat → Bool) : 0 + (mxA a).size ≤ (mxA b).size := by rw [mxA_size, mxA_size]; exact Nat.le_refl _
theorem aM_0 (R : Nat → Nat → Bool) : (mxA R).extract 0 (0 + 36) = mxA R := by
  have : 0 + 36 = (mxA R).size := (mxA_size R).symm
  rw [this, Array.extract_size]
theorem siM : (Tryz.prog.info? 46).map (·.size) = some 36 := by kernel_rfl
theorem siM' (R : Nat → Nat → Bool) : (Tryz.prog.info? 46).map (·.size) = some (mxA R).size := by rw [mxA_size]; exact siM
theorem zeroM (w : World) : (zeroValue 46).run Tryz.prog w = .ok (.agg (mxA mx0)) w := by rw [Tryz.zeroValue46]; kernel_rfl
theorem aM_at (R : Nat → Nat → Bool) (a b : Nat) (ha : a < 6) (hb : b < 6) : (mxA R)[a * 6 + b]? = some (.bool (R a b)) := by
  have h : a * 6 + b < 36 := by omega
  have e1 : (a * 6 + b) / 6 = a := by omega
  have e2 : (a * 6 + b) % 6 = b := by omega
  simp [mxA, mxL, h, e1, e2]
theorem mxL_set (R : Nat → Nat → Bool) (a b : Nat) (_ha : a < 6) (hb : b < 6) (v : Bool) : (mxL R).set (a * 6 + b) (.bool v) = mxL (setH R a b v) := by
  apply List.ext_getElem?
  intro i
  rw [List.getElem?_set]
  by_cases hi : i < 36
  · have e : ∀ Q : Nat → Nat → Bool, (mxL Q)[i]? = some (.bool (Q (i / 6) (i % 6))) := fun Q => by simp [mxL, hi]
    rw [e, e]
    by_cases c : a * 6 + b = i
    · subst c
      have e1 : (a * 6 + b) / 6 = a := by omega
      have e2 : (a * 6 + b) % 6 = b := by omega
      rw [if_pos rfl, if_pos (by simpa [mxL] using hi), e1, e2]
      simp [setH]
    · have hn : ¬ (i / 6 = a ∧ i % 6 = b) := by omega
      rw [if_neg c]
      simp [setH, hn]
  · have e : ∀ Q : Nat → Nat → Bool, (mxL Q)[i]? = none := fun Q => by simp [mxL]; omega
    rw [e, e, if_neg (by omega)]
theorem spM (R : Nat → Nat → Bool) (a b : Nat) (ha : a < 6) (hb : b < 6) (v : Bool) : splice (mxA R) (a * 6 + b) #[.bool v] = mxA (setH R a b v) := by
  have h : a * 6 + b < (mxL R).length := by simp [mxL]; omega
  unfold mxA
  rw [← mxL_set R a b ha hb v, List.set_eq_take_append_cons_drop, if_pos h]
  simp [splice]
theorem ldMb {o : Oper} {A : Act} {w : World} {R : Nat → Nat → Bool} (y : Operand) (ho : o.op = .load 4 y) (g a b : Nat) (hx : A.eval y = .pointer (some ⟨g, a * 6 + b, none⟩)) (ha : a < 6) (hb : b < 6) (hg : w.heap[g]? = some (.cells (mxA R) 46 (0, 0))) (v : Bool) (hv : R a b = v) : (execOp A.eval o).run Tryz.prog w = .ok (.value (.bool v)) w :=
  run_ldc 4 y ho g (a * 6 + b) hx 46 _ hg (na4 w) _ (by rw [aM_at R a b ha hb, hv])
theorem run_ia46 {o : Oper} {A : Act} (x y : Operand) (ho : o.op = .indexAddr 46 x y) (g a : Nat) (hx : A.eval x = .pointer (some ⟨g, 0, none⟩)) (hy : A.eval y = .int .i64 (a : Int)) (ha : a < 6) (w : World) : (execOp A.eval o).run Tryz.prog w = .ok (.value (.pointer (some ⟨g, a * 6, none⟩))) w := by
  have hs : (sizeOf 44).run Tryz.prog w = .ok 6 w := by kernel_rfl
  have h : (Instr.indexAt 46 (.pointer (some ⟨g, 0, none⟩)) (.int .i64 (a : Int))).run Tryz.prog w = .ok (.pointer (some ⟨g, a * 6, none⟩)) w := by
    have hjj : (a : Int) < 6 := by omega
    simp only [Instr.indexAt, Sem.run_bind, run_underlying Tryz.underlying46, Result.andThen_ok]
    simp [Instr.sureAddr, asIntOf, hjj, add_at]
  unfold execOp
  simp only [ho, hx, hy, Sem.run_bind, h, Result.andThen_ok, Sem.run_pure]
theorem run_ia44 {o : Oper} {A : Act} (x y : Operand) (ho : o.op = .indexAddr 44 x y) (g off a : Nat) (hx : A.eval x = .pointer (some ⟨g, off, none⟩)) (hy : A.eval y = .int .i64 (a : Int)) (ha : a < 6) (w : World) : (execOp A.eval o).run Tryz.prog w = .ok (.value (.pointer (some ⟨g, off + a, none⟩))) w := by
  have hs : (sizeOf 4).run Tryz.prog w = .ok 1 w := by kernel_rfl
  have h : (Instr.indexAt 44 (.pointer (some ⟨g, off, none⟩)) (.int .i64 (a : Int))).run Tryz.prog w = .ok (.pointer (some ⟨g, off + a, none⟩)) w := by
    have hjj : (a : Int) < 6 := by omega
    simp only [Instr.indexAt, Sem.run_bind, run_underlying Tryz.underlying44, Result.andThen_ok]
    simp [Instr.sureAddr, asIntOf, hjj, add_at]
  unfold execOp
  simp only [ho, hx, hy, Sem.run_bind, h, Result.andThen_ok, Sem.run_pure]
theorem run_ia23 {o : Oper} {A : Act} (x y : Operand) (ho : o.op = .indexAddr 23 x y) (g off a : Nat) (hx : A.eval x = .pointer (some ⟨g, off, none⟩)) (hy : A.eval y = .int .i64 (a : Int)) (ha : a < 2) (w : World) : (execOp A.eval o).run Tryz.prog w = .ok (.value (.pointer (some ⟨g, off + a, none⟩))) w := by
  have hs : (sizeOf 3).run Tryz.prog w = .ok 1 w := by kernel_rfl
  have h : (Instr.indexAt 23 (.pointer (some ⟨g, off, none⟩)) (.int .i64 (a : Int))).run Tryz.prog w = .ok (.pointer (some ⟨g, off + a, none⟩)) w := by
    have hjj : (a : Int) < 2 := by omega
    simp only [Instr.indexAt, Sem.run_bind, run_underlying Tryz.underlying23, Result.andThen_ok]
    simp [Instr.sureAddr, asIntOf, hjj, add_at]
  unfold execOp
  simp only [ho, hx, hy, Sem.run_bind, h, Result.andThen_ok, Sem.run_pure]
theorem ldPa {o : Oper} {A : Act} {w : World} {x : Int × Int} (y : Operand) (ho : o.op = .load 3 y) (g : Nat) (hx : A.eval y = .pointer (some ⟨g, 0, none⟩)) (hg : w.heap[g]? = some (.cells (prA x) 23 (0, 0))) : (execOp A.eval o).run Tryz.prog w = .ok (.value (.int .i64 x.1)) w :=
  run_ldc 3 y ho g 0 hx 23 _ hg (na3 w) _ (aP_a x)
theorem ldPb {o : Oper} {A : Act} {w : World} {x : Int × Int} (y : Operand) (ho : o.op = .load 3 y) (g : Nat) (hx : A.eval y = .pointer (some ⟨g, 1, none⟩)) (hg : w.heap[g]? = some (.cells (prA x) 23 (0, 0))) : (execOp A.eval o).run Tryz.prog w = .ok (.value (.int .i64 x.2)) w :=
  run_ldc 3 y ho g 1 hx 23 _ hg (na3 w) _ (aP_b x)
theorem ldM0 {o : Oper} {A : Act} {w : World} {x : Nat → Nat → Bool} (y : Operand) (ho : o.op = .load 46 y) (g : Nat) (hx : A.eval y = .pointer (some ⟨g, 0, none⟩)) (hg : w.heap[g]? = some (.cells (mxA x) 46 (0, 0))) : (execOp A.eval o).run Tryz.prog w = .ok (.value (.agg (mxA x))) w :=
  run_lda 46 y ho g 0 36 hx 46 _ hg _ Tryz.underlying46 rfl siM (by rw [mxA_size]; decide) _ (aM_0 x)
def kP : Kd (Int × Int) := ⟨prL, 2, fun _ => True, (0, 0), prL_len, prL_one⟩
theorem rP : RowT Tryz.prog 43 23 kP.sz 16 (.agg (prA (0, 0))) := ⟨Tryz.underlying43, info_of (by kernel_rfl), rfl, by decide⟩
theorem run_ld_kP {o : Oper} {A : Act} {w : World} {ao : Option Addr} {cap : Nat} {l : List (Int × Int)} (h : RK kP w ao cap l) (y : Operand) (ho : o.op = .load 23 y) (j : Nat) (hx : A.eval y = .pointer (pK kP ao j 0)) (hj : j < l.length) : (execOp A.eval o).run Tryz.prog w = .ok (.value (.agg (prA (l.getD j (0, 0))))) w :=
  run_ldK h 23 _ Tryz.underlying23 rfl 0 2 siP (by decide) y ho j hx hj _ rfl
structure EN where
  up : Bool
  op : Bool
  mine : Int × Int
  peer : Int × Int
  id : Nat
  base : Int
  oo : Option Addr
  on : Nat
  oc : Nat
  got : Int
def zE : EN := ⟨false, false, (0, 0), (0, 0), 0, 0, none, 0, 0, 0⟩
def enL (x : EN) : List Value := [.bool x.up] ++ ([.bool x.op] ++ ((nmA x.mine).toList ++ ((nmA x.peer).toList ++ ((idA x.id).toList ++ ([.int .i64 x.base] ++ ([.slice x.oo x.on x.oc] ++ ([.int .i64 x.got])))))))
def enA (x : EN) : Array Value := (enL x).toArray
theorem enL_len (x : EN) : (enL x).length = 25 := by simp [enL, idA_size, nmA_size]
theorem enA_size (x : EN) : (enA x).size = 25 := enL_len x
theorem enL_one (x : EN) : ∀ v ∈ enL x, v.oneCell' = true := fun v h => by
  rcases List.mem_append.1 h with h | h
  · (rw [List.mem_singleton.1 h]; rfl)
  rcases List.mem_append.1 h with h | h
  · (rw [List.mem_singleton.1 h]; rfl)
  rcases List.mem_append.1 h with h | h
  · exact nmL_one _ _ h
  rcases List.mem_append.1 h with h | h
  · exact nmL_one _ _ h
  rcases List.mem_append.1 h with h | h
  · exact idL_one _ _ h
  rcases List.mem_append.1 h with h | h
  · (rw [List.mem_singleton.1 h]; rfl)
  rcases List.mem_append.1 h with h | h
  · (rw [List.mem_singleton.1 h]; rfl)
  (rw [List.mem_singleton.1 h]; rfl)
theorem enA_one (x : EN) : (enA x).all (·.oneCell') = true := by
  rw [Array.all_eq_true_iff_forall_mem]
  exact fun v hv => enL_one x v (by simpa [enA] using hv)
theorem enA_sz (a b : EN) : (enA a).size = (enA b).size := (enA_size a).trans (enA_size b).symm
theorem enA_fit (a b : EN) : 0 + (enA a).size ≤ (enA b).size := by rw [enA_size, enA_size]; exact Nat.le_refl _
theorem sien93 : (Tryz.prog.info? 93).map (·.size) = some 25 := by kernel_rfl
theorem sien93' (x : EN) : (Tryz.prog.info? 93).map (·.size) = some (enA x).size := by rw [enA_size]; exact sien93
theorem zeroen93 (w : World) : (zeroValue 93).run Tryz.prog w = .ok (.agg (enA zE)) w := by rw [Tryz.zeroValue93]; kernel_rfl
def ken : Go.Proofs.YtmjblbgalkjmiaaGreat.Kd EN := ⟨enL, 25, (fun x => x.on ≤ x.oc), zE, enL_len, enL_one⟩
theorem aEn0 (x : EN) : (enA x).extract 0 (0 + 25) = enA x := by kernel_rfl
theorem ldEn0 {o : Oper} {A : Act} {w : World} {x : EN} (y : Operand) (ho : o.op = .load 93 y) (g : Nat) (hx : A.eval y = .pointer (some ⟨g, 0, none⟩)) (hg : w.heap[g]? = some (.cells (enA x) 93 (0, 0))) : (execOp A.eval o).run Tryz.prog w = .ok (.value (.agg (enA x))) w :=
  run_lda 93 y ho g 0 25 hx 93 _ hg _ Tryz.underlying93 rfl sien93 (by rw [enA_size]; decide) _ (aEn0 x)
theorem dEn0 (x : EN) : ((enL x).drop 0).take 25 = (enA x).toList := by kernel_rfl
theorem rldEn0 {o : Oper} {A : Act} {w : World} {ao : Option Addr} {cap : Nat} {l : List EN} (h : RK ken w ao cap l) (y : Operand) (ho : o.op = .load 93 y) (j : Nat) (hx : A.eval y = .pointer (pK ken ao j 0)) (hj : j < l.length) : (execOp A.eval o).run Tryz.prog w = .ok (.value (.agg (enA (l.getD j zE)))) w :=
  run_ldK h 93 _ Tryz.underlying93 rfl 0 25 sien93 (by decide) y ho j hx hj _ (dEn0 _)
theorem nac2 (w : World) : (isAgg 2).run Tryz.prog w = .ok false w := by kernel_rfl
theorem aEnb (x : EN) : (enA x)[22]? = some (.int .i64 x.base) := by kernel_rfl
theorem ldEnb {o : Oper} {A : Act} {w : World} {x : EN} (y : Operand) (ho : o.op = .load 2 y) (g : Nat) (hx : A.eval y = .pointer (some ⟨g, 22, none⟩)) (hg : w.heap[g]? = some (.cells (enA x) 93 (0, 0))) : (execOp A.eval o).run Tryz.prog w = .ok (.value (.int .i64 x.base)) w :=
  run_ldc 2 y ho g 22 hx 93 _ hg (nac2 w) _ (aEnb x)
theorem aEng (x : EN) : (enA x)[24]? = some (.int .i64 x.got) := by kernel_rfl
theorem ldEng {o : Oper} {A : Act} {w : World} {x : EN} (y : Operand) (ho : o.op = .load 2 y) (g : Nat) (hx : A.eval y = .pointer (some ⟨g, 24, none⟩)) (hg : w.heap[g]? = some (.cells (enA x) 93 (0, 0))) : (execOp A.eval o).run Tryz.prog w = .ok (.value (.int .i64 x.got)) w :=
  run_ldc 2 y ho g 24 hx 93 _ hg (nac2 w) _ (aEng x)
theorem nac91 (w : World) : (isAgg 91).run Tryz.prog w = .ok false w := by kernel_rfl
theorem aEno (x : EN) : (enA x)[23]? = some (.slice x.oo x.on x.oc) := by kernel_rfl
theorem ldEno {o : Oper} {A : Act} {w : World} {x : EN} (y : Operand) (ho : o.op = .load 91 y) (g : Nat) (hx : A.eval y = .pointer (some ⟨g, 23, none⟩)) (hg : w.heap[g]? = some (.cells (enA x) 93 (0, 0))) : (execOp A.eval o).run Tryz.prog w = .ok (.value (.slice x.oo x.on x.oc)) w :=
  run_ldc 91 y ho g 23 hx 93 _ hg (nac91 w) _ (aEno x)
theorem ren61 : RowT Tryz.prog 61 93 ken.sz 96 (.agg (enA zE)) := ⟨Tryz.underlying61, info_of (by kernel_rfl), enA_size zE, by decide⟩
theorem bsen61 (a : EN) (w : World) : (Instr.buildSlice 61 1 #[(0, .agg (enA a))]).run Tryz.prog w = .ok (.slice (some ⟨w.heap.size, 0, none⟩) 1 1) (w.alloc (.cells ([a].flatMap ken.E).toArray 93)) := by kernel_rfl
structure VW where
  up : Bool
  id : Nat
  inc : Int
  eo : Option Addr
  en : Nat
  ec : Nat
  io : Option Addr
  ik : Nat
  ic : Nat
  no : Option Addr
  nn : Nat
  nc : Nat
def zW : VW := ⟨false, 0, 0, none, 0, 0, none, 0, 0, none, 0, 0⟩
def vwL (x : VW) : List Value := [.bool x.up] ++ ((idA x.id).toList ++ ([.int .i64 x.inc] ++ ([.slice x.eo x.en x.ec] ++ ([.slice x.io x.ik x.ic] ++ ([.slice x.no x.nn x.nc])))))
def vwA (x : VW) : Array Value := (vwL x).toArray
theorem vwL_len (x : VW) : (vwL x).length = 21 := by simp [vwL, idA_size]
theorem vwA_size (x : VW) : (vwA x).size = 21 := vwL_len x
theorem vwL_one (x : VW) : ∀ v ∈ vwL x, v.oneCell' = true := fun v h => by
  rcases List.mem_append.1 h with h | h
  · (rw [List.mem_singleton.1 h]; rfl)
  rcases List.mem_append.1 h with h | h
  · exact idL_one _ _ h
  rcases List.mem_append.1 h with h | h
  · (rw [List.mem_singleton.1 h]; rfl)
  rcases List.mem_append.1 h with h | h
  · (rw [List.mem_singleton.1 h]; rfl)
  rcases List.mem_append.1 h with h | h
  · (rw [List.mem_singleton.1 h]; rfl)
  (rw [List.mem_singleton.1 h]; rfl)
theorem vwA_one (x : VW) : (vwA x).all (·.oneCell') = true := by
  rw [Array.all_eq_true_iff_forall_mem]
  exact fun v hv => vwL_one x v (by simpa [vwA] using hv)
theorem vwA_sz (a b : VW) : (vwA a).size = (vwA b).size := (vwA_size a).trans (vwA_size b).symm
theorem vwA_fit (a b : VW) : 0 + (vwA a).size ≤ (vwA b).size := by rw [vwA_size, vwA_size]; exact Nat.le_refl _
theorem sivw63 : (Tryz.prog.info? 63).map (·.size) = some 21 := by kernel_rfl
theorem sivw63' (x : VW) : (Tryz.prog.info? 63).map (·.size) = some (vwA x).size := by rw [vwA_size]; exact sivw63
theorem zerovw63 (w : World) : (zeroValue 63).run Tryz.prog w = .ok (.agg (vwA zW)) w := by rw [Tryz.zeroValue63]; kernel_rfl
def kvw : Go.Proofs.YtmjblbgalkjmiaaGreat.Kd VW := ⟨vwL, 21, (fun x => x.en ≤ x.ec), zW, vwL_len, vwL_one⟩
theorem aVw0 (x : VW) : (vwA x).extract 0 (0 + 21) = vwA x := by kernel_rfl
theorem ldVw0 {o : Oper} {A : Act} {w : World} {x : VW} (y : Operand) (ho : o.op = .load 63 y) (g : Nat) (hx : A.eval y = .pointer (some ⟨g, 0, none⟩)) (hg : w.heap[g]? = some (.cells (vwA x) 63 (0, 0))) : (execOp A.eval o).run Tryz.prog w = .ok (.value (.agg (vwA x))) w :=
  run_lda 63 y ho g 0 21 hx 63 _ hg _ Tryz.underlying63 rfl sivw63 (by rw [vwA_size]; decide) _ (aVw0 x)
theorem dVw0 (x : VW) : ((vwL x).drop 0).take 21 = (vwA x).toList := by kernel_rfl
theorem rldVw0 {o : Oper} {A : Act} {w : World} {ao : Option Addr} {cap : Nat} {l : List VW} (h : RK kvw w ao cap l) (y : Operand) (ho : o.op = .load 63 y) (j : Nat) (hx : A.eval y = .pointer (pK kvw ao j 0)) (hj : j < l.length) : (execOp A.eval o).run Tryz.prog w = .ok (.value (.agg (vwA (l.getD j zW)))) w :=
  run_ldK h 63 _ Tryz.underlying63 rfl 0 21 sivw63 (by decide) y ho j hx hj _ (dVw0 _)
theorem nac4 (w : World) : (isAgg 4).run Tryz.prog w = .ok false w := by kernel_rfl
theorem dVwu (x : VW) : (vwL x)[0]? = some (.bool x.up) := by kernel_rfl
theorem rldVwu {o : Oper} {A : Act} {w : World} {ao : Option Addr} {cap : Nat} {l : List VW} (h : RK kvw w ao cap l) (y : Operand) (ho : o.op = .load 4 y) (j : Nat) (hx : A.eval y = .pointer (pK kvw ao j 0)) (hj : j < l.length) : (execOp A.eval o).run Tryz.prog w = .ok (.value (.bool (l.getD j zW).up)) w :=
  run_ldKc h 4 (nac4 w) 0 (by decide) y ho j hx hj _ (dVwu _)
theorem nac59 (w : World) : (isAgg 59).run Tryz.prog w = .ok false w := by kernel_rfl
theorem aVwe (x : VW) : (vwA x)[18]? = some (.slice x.eo x.en x.ec) := by kernel_rfl
theorem ldVwe {o : Oper} {A : Act} {w : World} {x : VW} (y : Operand) (ho : o.op = .load 59 y) (g : Nat) (hx : A.eval y = .pointer (some ⟨g, 18, none⟩)) (hg : w.heap[g]? = some (.cells (vwA x) 63 (0, 0))) : (execOp A.eval o).run Tryz.prog w = .ok (.value (.slice x.eo x.en x.ec)) w :=
  run_ldc 59 y ho g 18 hx 63 _ hg (nac59 w) _ (aVwe x)
theorem nac61 (w : World) : (isAgg 61).run Tryz.prog w = .ok false w := by kernel_rfl
theorem aVwn (x : VW) : (vwA x)[20]? = some (.slice x.no x.nn x.nc) := by kernel_rfl
theorem ldVwn {o : Oper} {A : Act} {w : World} {x : VW} (y : Operand) (ho : o.op = .load 61 y) (g : Nat) (hx : A.eval y = .pointer (some ⟨g, 20, none⟩)) (hg : w.heap[g]? = some (.cells (vwA x) 63 (0, 0))) : (execOp A.eval o).run Tryz.prog w = .ok (.value (.slice x.no x.nn x.nc)) w :=
  run_ldc 61 y ho g 20 hx 63 _ hg (nac61 w) _ (aVwn x)
theorem fdvw_0 (w : World) (ad : Addr) : (Instr.fieldAt 63 (.pointer (some ad)) 0).run Tryz.prog w = .ok (.pointer (some (ad.add 0))) w := by kernel_rfl
theorem rvw22 : RowT Tryz.prog 22 63 kvw.sz 104 (.agg (vwA zW)) := ⟨Tryz.underlying22, info_of (by kernel_rfl), vwA_size zW, by decide⟩
theorem bsvw22 (a : VW) (w : World) : (Instr.buildSlice 22 1 #[(0, .agg (vwA a))]).run Tryz.prog w = .ok (.slice (some ⟨w.heap.size, 0, none⟩) 1 1) (w.alloc (.cells ([a].flatMap kvw.E).toArray 63)) := by kernel_rfl
def EN.bs (x : EN) (b : Int) : EN := ⟨x.up, x.op, x.mine, x.peer, x.id, b, x.oo, x.on, x.oc, x.got⟩
def EN.gt (x : EN) (b : Int) : EN := ⟨x.up, x.op, x.mine, x.peer, x.id, x.base, x.oo, x.on, x.oc, b⟩
def EN.ot (x : EN) (ao : Option Addr) (n c : Nat) : EN := ⟨x.up, x.op, x.mine, x.peer, x.id, x.base, ao, n, c, x.got⟩
def VW.et (x : VW) (ao : Option Addr) (n c : Nat) : VW := ⟨x.up, x.id, x.inc, ao, n, c, x.io, x.ik, x.ic, x.no, x.nn, x.nc⟩
def VW.nd (x : VW) (ao : Option Addr) (n c : Nat) : VW := ⟨x.up, x.id, x.inc, x.eo, x.en, x.ec, x.io, x.ik, x.ic, ao, n, c⟩
theorem spE_b (x : EN) (b : Int) : splice (enA x) 22 #[.int .i64 b] = enA (x.bs b) := by kernel_rfl
theorem spE_g (x : EN) (b : Int) : splice (enA x) 24 #[.int .i64 b] = enA (x.gt b) := by kernel_rfl
theorem spE_o (x : EN) (ao : Option Addr) (n c : Nat) : splice (enA x) 23 #[.slice ao n c] = enA (x.ot ao n c) := by kernel_rfl
theorem spV_e (x : VW) (ao : Option Addr) (n c : Nat) : splice (vwA x) 18 #[.slice ao n c] = vwA (x.et ao n c) := by kernel_rfl
theorem spV_n (x : VW) (ao : Option Addr) (n c : Nat) : splice (vwA x) 20 #[.slice ao n c] = vwA (x.nd ao n c) := by kernel_rfl
def kZ : Kd Nat := ⟨fun x => [.int .i64 (x : Int)], 1, fun _ => True, 0, fun _ => rfl, fun x v hv => by rw [List.mem_singleton.1 hv]; rfl⟩
theorem rkZ : RowT Tryz.prog 53 3 kZ.sz 8 (.int .i64 0) := ⟨Tryz.underlying53, info_of (by kernel_rfl), rfl, by decide⟩
theorem na_kZ (w : World) : (isAgg 3).run Tryz.prog w = .ok false w := by kernel_rfl
theorem run_ld_kZ {o : Oper} {A : Act} {w : World} {ao : Option Addr} {cap : Nat} {l : List Nat} (h : RK kZ w ao cap l) (y : Operand) (ho : o.op = .load 3 y) (j : Nat) (hx : A.eval y = .pointer (pK kZ ao j 0)) (hj : j < l.length) : (execOp A.eval o).run Tryz.prog w = .ok (.value (.int .i64 ((l.getD j 0) : Int))) w :=
  run_ldKc h 3 (na_kZ w) 0 (by decide) y ho j hx hj _ rfl
theorem bs_kZ (a : Nat) (w : World) : (Instr.buildSlice 53 1 #[(0, .int .i64 (a : Int))]).run Tryz.prog w = .ok (.slice (some ⟨w.heap.size, 0, none⟩) 1 1) (w.alloc (.cells ([a].flatMap kZ.E).toArray 3)) := by kernel_rfl
def kB : Kd Bool := ⟨fun x => [.bool x], 1, fun _ => True, false, fun _ => rfl, fun x v hv => by rw [List.mem_singleton.1 hv]; rfl⟩
theorem rkB : RowT Tryz.prog 118 4 kB.sz 1 (.bool false) := ⟨Tryz.underlying118, info_of (by kernel_rfl), rfl, by decide⟩
theorem nac1_22 (w : World) : (isAgg 22).run Tryz.prog w = .ok false w := by kernel_rfl
theorem ldO22 {o : Oper} {A : Act} {w : World} (v : Value) (y : Operand) (ho : o.op = .load 22 y) (g : Nat) (hx : A.eval y = .pointer (some ⟨g, 0, none⟩)) (hg : w.heap[g]? = some (.cells #[v] 22 (0, 0))) : (execOp A.eval o).run Tryz.prog w = .ok (.value v) w :=
  run_ldc 22 y ho g 0 hx 22 _ hg (nac1_22 w) _ rfl
theorem nac1_118 (w : World) : (isAgg 118).run Tryz.prog w = .ok false w := by kernel_rfl
theorem ldO118 {o : Oper} {A : Act} {w : World} (v : Value) (y : Operand) (ho : o.op = .load 118 y) (g : Nat) (hx : A.eval y = .pointer (some ⟨g, 0, none⟩)) (hg : w.heap[g]? = some (.cells #[v] 118 (0, 0))) : (execOp A.eval o).run Tryz.prog w = .ok (.value v) w :=
  run_ldc 118 y ho g 0 hx 118 _ hg (nac1_118 w) _ rfl
theorem si1_118 : (Tryz.prog.info? 118).map (·.size) = some 1 := by kernel_rfl
theorem nac1_53 (w : World) : (isAgg 53).run Tryz.prog w = .ok false w := by kernel_rfl
theorem ldO53 {o : Oper} {A : Act} {w : World} (v : Value) (y : Operand) (ho : o.op = .load 53 y) (g : Nat) (hx : A.eval y = .pointer (some ⟨g, 0, none⟩)) (hg : w.heap[g]? = some (.cells #[v] 53 (0, 0))) : (execOp A.eval o).run Tryz.prog w = .ok (.value v) w :=
  run_ldc 53 y ho g 0 hx 53 _ hg (nac1_53 w) _ rfl
theorem si1_53 : (Tryz.prog.info? 53).map (·.size) = some 1 := by kernel_rfl
theorem nac1_49 (w : World) : (isAgg 49).run Tryz.prog w = .ok false w := by kernel_rfl
theorem ldO49 {o : Oper} {A : Act} {w : World} (v : Value) (y : Operand) (ho : o.op = .load 49 y) (g : Nat) (hx : A.eval y = .pointer (some ⟨g, 0, none⟩)) (hg : w.heap[g]? = some (.cells #[v] 49 (0, 0))) : (execOp A.eval o).run Tryz.prog w = .ok (.value v) w :=
  run_ldc 49 y ho g 0 hx 49 _ hg (nac1_49 w) _ rfl
theorem si1_61 : (Tryz.prog.info? 61).map (·.size) = some 1 := by kernel_rfl
theorem si1_91 : (Tryz.prog.info? 91).map (·.size) = some 1 := by kernel_rfl
theorem si1_59 : (Tryz.prog.info? 59).map (·.size) = some 1 := by kernel_rfl
theorem made_K {α : Type} (K : Kd α) (zc : Array Value) (hz : zc.toList = K.E K.z) (n : Nat) : madeCells zc (n * K.sz) = ((List.replicate n K.z).flatMap K.E).toArray := by
  have hs : zc.size = K.sz := by rw [← Array.length_toList, hz, K.len]
  apply Array.toList_inj.1
  apply List.ext_getElem?
  intro i
  have hl : ((List.replicate n K.z).flatMap K.E).length = n * K.sz := by rw [flx_len K.len, List.length_replicate]
  by_cases hi : i < n * K.sz
  · have h0 : 0 < K.sz := Nat.pos_of_ne_zero fun h => by rw [h, Nat.mul_zero] at hi; omega
    have hq : i / K.sz < n := Nat.div_lt_of_lt_mul (by rw [Nat.mul_comm]; exact hi)
    have hr : i % K.sz < K.sz := Nat.mod_lt _ h0
    have ej : i / K.sz * K.sz + i % K.sz = i := by rw [Nat.mul_comm]; exact Nat.div_add_mod i K.sz
    have h2 := flx_cell K.len K.z (List.replicate n K.z) (i / K.sz) (by rw [List.length_replicate]; exact hq) (i % K.sz) hr
    have hg : (List.replicate n K.z).getD (i / K.sz) K.z = K.z := by simp [List.getD_eq_getElem?_getD, hq]
    rw [ej, hg, ← hz] at h2
    rw [h2]
    simp only [madeCells, Array.toList_map, Array.toList_range, List.getElem?_map, List.getElem?_range hi, Option.map_some, hs]
    rw [Array.getElem?_toList]
    generalize i % K.sz = k at *
    rw [getElem!_pos zc k (by omega), Array.getElem?_eq_getElem (by omega)]
  · rw [List.getElem?_eq_none (by simp only [madeCells, Array.toList_map, Array.toList_range, List.length_map, List.length_range]; omega), List.getElem?_eq_none (by rw [hl]; omega)]
section
variable {α : Type} {K : Kd α} {e t b : TypeId} {z : Value} {ops : Array Oper} {rest : List Oper} {T : List Value} {ds : List Deferred} {w : World} {Q : Exit → Act → World → Prop} {o : Oper}
theorem s_mkK (R : RowT Tryz.prog t e K.sz b z) (hzc : z.cells.toList = K.E K.z) (dst : Nat) (hd : o.dst = some dst) (hgd : o.guard = none) (x y : Operand) (ho : o.op = .makeSlice t x y) (n : Nat) (hx : (⟨T.toArray, ds⟩ : Act).eval x = .int .i64 (n : Int)) (hy : (⟨T.toArray, ds⟩ : Act).eval y = .int .i64 (n : Int)) (hb : n ≤ 1000000) (hb2 : b ≤ 100)
    (h : ∀ w' g, Gro w w' → w.heap.size = g → w'.heap[g]? = some (.cells ((List.replicate n K.z).flatMap K.E).toArray e (0, 0)) → wpList Tryz.prog ops Q rest ⟨(T.set dst (.slice (some ⟨g, 0, none⟩) n n)).toArray, ds⟩ w') : wpList Tryz.prog ops Q (o :: rest) ⟨T.toArray, ds⟩ w := by
  obtain ⟨i, hi, hz, hsz, hby⟩ := R.info
  have hm : n * b ≤ 100000000 := Nat.mul_le_mul hb hb2
  have hr := run_make (P := Tryz.prog) w t e i _ R.und hi hz .i64 .i64 (n : Int) (n : Int) (by omega) (Int.le_refl _) (by rw [hby, ← Int.natCast_mul]; have h9 : b * n ≤ 100000000 := (by rw [Nat.mul_comm]; exact hm); exact Int.le_trans (Int.ofNat_le.2 h9) (by decide)) (by omega)
  simp only [Int.toNat_natCast, hsz, made_K K z.cells hzc n] at hr
  refine wpList_plain hgd fun _ hK => ?_
  have he : (execOp (Act.eval ⟨T.toArray, ds⟩) o).run Tryz.prog w = .ok (.value (.slice (some ⟨w.heap.size, 0, none⟩) n n)) (w.alloc (.cells ((List.replicate n K.z).flatMap K.E).toArray e)) := by
    unfold execOp
    simp only [ho, hx, hy, Sem.run_bind, hr, Result.andThen_ok, Sem.run_pure]
  unfold Oper.wp
  rw [he, Oper.upon_value, hd, put_list]
  exact hK _ _ (h _ _ (gro_alloc _ _) rfl (heap_alloc_new _ _))
end
theorem opX_val {P : Program} {ops : Array Oper} {R : World → Prop} {k : PostE} {o : Oper} {A : Act} {w w' : World} {v : Value} (hw : Region.wanted o (yielded ops A.tmps) = true) (h : (execOp A.eval o).run P w = .ok (.value v) w') (hR : R w') (hk : k.p v w') : OpX P ops R k o A w :=
  ⟨hw, by rw [h]; exact ⟨hR, hk⟩⟩
theorem run_minN {P : Program} {o : Oper} {A : Act} (x y : Operand) (ats : Array TypeId) (ho : o.op = .call { callee := .builtin .min, args := #[x, y], argTypes := ats }) (n m : Nat) (hx : A.eval x = .int .i64 (n : Int)) (hy : A.eval y = .int .i64 (m : Int)) (w : World) : (execOp A.eval o).run P w = .ok (.value (.int .i64 ((min n m : Nat) : Int))) w := by
  unfold execOp
  simp only [ho, hx, hy, List.map_toArray, List.map_cons, List.map_nil, resolve, invoke]
  simp [builtin, Builtin.min_, Builtin.min2, go_sem]
  omega
theorem run_cut3Xi {P : Program} {o : Oper} {A : Act} {t e : TypeId} {sz b : Nat} {z : Value} (T : RowT P t e sz b z) (x z u : Operand) (ho : o.op = .slice t x none (some z) (some u)) (ao : Option Addr) (n cap j : Nat) (hx : A.eval x = .slice ao n cap) (hz : A.eval z = .int .i64 (j : Int)) (hu : A.eval u = .int .i64 (j : Int)) (hj : j ≤ cap) (w : World) :
    (execOp A.eval o).run P w = .ok (.value (.slice ao j j)) w := by
  have h : (Instr.slice t (.slice ao n cap) none (some (.int .i64 (j : Int))) (some (.int .i64 (j : Int)))).run P w = .ok (.slice ao j j) w := by
    simp only [Instr.slice, Sem.run_bind, run_underlying T.und, Result.andThen_ok, Instr.sliceBounds, Instr.sliceBound, asIntOf, Sem.run_pure, run_sizeX T]
    have h3 : (0 : Int) ≤ (j : Int) ∧ (j : Int) ≤ (cap : Int) := by omega
    simp [h3]
    intro _
    cases ao <;> simp [add_zero]
  unfold execOp
  simp only [ho, hx, hz, hu, Option.map_some, Option.map_none, Sem.run_bind, sliceAtX_run T, h, Result.andThen_ok, Sem.run_pure]
theorem RK.take {α : Type} {K : Kd α} {w : World} {ao : Option Addr} {cap : Nat} {l : List α} (h : RK K w ao cap l) (k : Nat) : RK K w ao (l.take k).length (l.take k) := by
  have hx := h.xc
  refine ⟨⟨flx_len K.len _, Nat.le_refl _, fun hn => ?_, fun ad ha j v hv => ?_, fl_oneK⟩, fun x hx => h.all x (List.mem_of_mem_take hx)⟩
  · have h1 := hx.bare hn
    have h2 := hx.fit
    rw [List.length_take]
    omega
  · rw [← flx_take K.len, List.getElem?_take] at hv
    split at hv
    · exact hx.cell ad ha j v hv
    · cases hv
/-- What is left of a number by 2^60. -/
def rmI (a : Int) : Int := a.tmod 1152921504606846976
theorem run_remP {P : Program} {o : Oper} {A : Act} (t t2 : TypeId) (x y : Operand) (ho : o.op = .binOp .rem t x y t2) (a : Int) (hx : A.eval x = .int .i64 a) (hy : A.eval y = .int .i64 1152921504606846976) (w : World) : (execOp A.eval o).run P w = .ok (.value (.int .i64 (rmI a))) w := by
  refine run_binop .rem t x y t2 ho _ _ _ hx hy (by simp [eqGuard]) ?_
  have h2 : (1152921504606846976 : Int) ≠ 0 := by decide
  simp only [binOp, Op.intDiv, if_neg h2]
  rfl
theorem OW.over {α β : Type} {K : Kd α} {K' : Kd β} {e e' : TypeId} {w w' : World} {B B' cap cap' : Nat} {ao ao' : Option Addr} {l : List α} {l' : List β} (h : OW K e w B ao cap l) (h2 : OW K' e' w B' ao' cap' l') (ht : e ≠ e') (G : GroS (Go.Proofs.YtmjblbgalkjmiaaGreat.blk ao') w w') : OW K e w' B ao cap l :=
  h.gros G fun k hk hm => by
    obtain ⟨_, cur, hc⟩ := h.own.at k hk
    exact h2.own.ne hc ht hm
/-- Whom one has met, as a row of booleans. -/
def mtL (n : Nat) (M : Nat → Bool) : List Value := (List.range n).map fun b => .bool (M b)
def mtA (n : Nat) (M : Nat → Bool) : Array Value := (mtL n M).toArray
theorem mtA_size (n : Nat) (M : Nat → Bool) : (mtA n M).size = n := by simp [mtA, mtL]
theorem mtA_at {n : Nat} (M : Nat → Bool) {a : Nat} (ha : a < n) : (mtA n M)[a]? = some (.bool (M a)) := by simp [mtA, mtL, ha]
def updB (M : Nat → Bool) (a : Nat) : Nat → Bool := fun b => b == a || M b
theorem mtA_set {n : Nat} (M : Nat → Bool) {a : Nat} (ha : a < n) : splice (mtA n M) a #[.bool true] = mtA n (updB M a) := by
  rw [splice_one _ _ _ (by rw [mtA_size]; exact ha)]
  unfold mtA
  rw [List.setIfInBounds_toArray]
  congr 1
  apply List.ext_getElem?
  intro i
  rw [List.getElem?_set]
  unfold mtL
  simp only [List.getElem?_map, List.length_map, List.length_range]
  by_cases hi : i < n
  · rw [List.getElem?_range hi]
    by_cases c : a = i
    · subst c
      simp [updB, ha]
    · simp [updB, c, Ne.symm c]
  · rw [List.getElem?_eq_none (by simpa using hi)]
    have : a ≠ i := by omega
    simp [this]
theorem mtA_0 (n : Nat) : ((List.replicate n false).flatMap kB.E).toArray = mtA n (fun _ => false) := by
  unfold mtA mtL
  congr 1
  rw [List.flatMap_replicate]
  induction n with
  | zero => rfl
  | succ n ih =>
    rw [List.range_succ, List.map_append, ← ih, List.replicate_succ', List.flatten_append]
    rfl
theorem updB_one (a : Nat) : updB (fun _ => false) a = fun b => b == a := by
  funext b
  simp [updB]
theorem updB_also (M : Nat → Bool) (l : List Nat) (j : Nat) (hj : j < l.length) : updB (also M (l.take j)) (l.getD j 0) = also M (l.take (j + 1)) := by
  funext b
  rw [take_at 0 l j hj, Bool.eq_iff_iff]
  simp only [updB, also, Bool.or_eq_true, beq_iff_eq, List.contains_iff_mem, List.mem_append, List.mem_singleton]
  constructor
  · rintro (h | h | h)
    · exact .inr (.inr h)
    · exact .inl h
    · exact .inr (.inl h)
  · rintro (h | h | h)
    · exact .inr (.inl h)
    · exact .inr (.inr h)
    · exact .inl h
theorem also_nil (M : Nat → Bool) : also M [] = M := by
  funext b
  simp [also]
theorem run_ixM {o : Oper} {A : Act} (x y : Operand) (ho : o.op = .indexAddr 118 x y) (g n a : Nat) (hx : A.eval x = .slice (some ⟨g, 0, none⟩) n n) (hy : A.eval y = .int .i64 (a : Int)) (ha : a < n) (w : World) : (execOp A.eval o).run Tryz.prog w = .ok (.value (.pointer (some ⟨g, a, none⟩))) w := by
  have := run_idxX rkB x y ho ⟨g, 0, none⟩ n n a hx hy ha w
  rw [add_at, show kB.sz = 1 from rfl, Nat.mul_one, Nat.zero_add] at this
  exact this
theorem ldMt {o : Oper} {A : Act} {w : World} {n : Nat} {M : Nat → Bool} (y : Operand) (ho : o.op = .load 4 y) (g a : Nat) (hx : A.eval y = .pointer (some ⟨g, a, none⟩)) (hg : w.heap[g]? = some (.cells (mtA n M) 4 (0, 0))) (ha : a < n) (v : Bool) (hv : M a = v) : (execOp A.eval o).run Tryz.prog w = .ok (.value (.bool v)) w :=
  run_ldc 4 y ho g a hx 4 _ hg (na4 w) _ (by rw [mtA_at M ha, hv])
theorem ldVwn' {o : Oper} {A : Act} {w : World} {x : VW} (y : Operand) (ho : o.op = .load 61 y) (g : Nat) (hx : A.eval y = .pointer (some ⟨g, 20, none⟩)) (hg : w.heap[g]? = some (.cells (vwA x) 63 (0, 0))) (n : Nat) (hn : x.nn = n) : (execOp A.eval o).run Tryz.prog w = .ok (.value (.slice x.no n x.nc)) w := by
  subst hn
  exact ldVwn y ho g hx hg
/-- One's own row of places without its first one. -/
def dpA (ao : Option Addr) (cap : Nat) : Option Addr := if cap = 1 then ao else ao.map (·.add (1 * kZ.sz))
theorem OW.tl {w : World} {B cap : Nat} {ao : Option Addr} {l : List Nat} (h : OW kZ 3 w B ao cap l) (h0 : 0 < l.length) : OW kZ 3 w B (dpA ao cap) (cap - 1) (l.drop 1) := by
  have := h.own.drop 1 h0
  rw [flx_drop kZ.len, ← List.length_drop] at this
  exact ⟨this, fun x hx => h.all x (List.mem_of_mem_drop hx)⟩
theorem run_dropZ {o : Oper} {A : Act} (x y : Operand) (ho : o.op = .slice 53 x (some y) none none) (ao : Option Addr) (cap : Nat) (l : List Nat) (hx : A.eval x = .slice ao l.length cap) (hy : A.eval y = .int .i64 1) (h0 : 0 < l.length) (w : World) : (execOp A.eval o).run Tryz.prog w = .ok (.value (.slice (dpA ao cap) (l.drop 1).length (cap - 1))) w := by
  rw [List.length_drop]
  exact run_cutX rkZ x y ho ao l.length cap 1 hx hy h0 w
theorem run_callB {P : Program} {o : Oper} {A : Act} {w : World} (c : Call) (f : FuncId) (fb cb : Array Value) (hen : ∀ args w, (callFunc f args).run P w = .ok (.enter f args) w) (ho : o.op = .call c) (x : Operand) (hc : c.callee = .value x) (hx : A.eval x = .func (.func f) fb cb) :
    (execOp A.eval o).run P w = .ok (.enter f (fb ++ c.args.map A.eval ++ cb)) w := by
  unfold execOp
  simp only [ho, resolve, hc, hx]
  simp [go_sem, hen, Deferred.ofValue]
theorem opE_callB {P : Program} {ops : Array Oper} {o : Oper} {A : Act} {w : World} (k : PostE) (hw : Region.wanted o (yielded ops A.tmps) = true) (c : Call) (f : FuncId) (fb cb : Array Value) (hen : ∀ args w, (callFunc f args).run P w = .ok (.enter f args) w) (ho : o.op = .call c) (x : Operand) (hc : c.callee = .value x) (hx : A.eval x = .func (.func f) fb cb) (xs : List Operand) (hxs : c.args = xs.toArray) (vs : List Value) (hvs : xs.map A.eval = vs)
    (H : Calls P f (fb ++ vs.toArray ++ cb) w fun e w' => ∃ v, e = .returned v ∧ Gro w w' ∧ k.p v w') : OpE P ops k o A w :=
  ⟨by rw [if_pos hw, run_callB c f fb cb hen ho x hc hx, hxs, List.map_toArray, hvs]; exact H⟩
theorem run_mkB {P : Program} {o : Oper} {A : Act} {w : World} (f : FuncId) (x : Operand) (ho : o.op = .makeFunc (.func f) #[x] #[]) (v : Value) (hx : A.eval x = v) : (execOp A.eval o).run P w = .ok (.value (.func (.func f) #[v] #[])) w := by
  unfold execOp
  simp only [ho, List.map_toArray, List.map_cons, List.map_nil, hx]
  rfl
theorem run_mkF4 {P : Program} {o : Oper} {A : Act} {w : World} (f : FuncId) (x y z u : Operand) (ho : o.op = .makeFunc (.func f) #[] #[x, y, z, u]) (v1 v2 v3 v4 : Value) (h1 : A.eval x = v1) (h2 : A.eval y = v2) (h3 : A.eval z = v3) (h4 : A.eval u = v4) : (execOp A.eval o).run P w = .ok (.value (.func (.func f) #[] #[v1, v2, v3, v4])) w := by
  unfold execOp
  simp only [ho, List.map_toArray, List.map_cons, List.map_nil, h1, h2, h3, h4]
  rfl
theorem si2 : (Tryz.prog.info? 2).map (·.size) = some 1 := by kernel_rfl
theorem sl_take {α : Type} (ao : Option Addr) (l : List α) (k : Nat) : Value.slice ao (min l.length k) (min l.length k) = .slice ao (l.take k).length (l.take k).length := by rw [List.length_take, Nat.min_comm]
theorem zO118 (w : World) : (zeroValue 118).run Tryz.prog w = .ok (.slice none 0 0) w := by rw [Tryz.zeroValue118]
theorem zO53 (w : World) : (zeroValue 53).run Tryz.prog w = .ok (.slice none 0 0) w := by rw [Tryz.zeroValue53]
end Go.Proofs.YtmjblbgalkjmiaaGreat
