/- What copies' functions keep in memory. -/
import Derived.Test.YtjahegiopigblaaHM2
import Derived.Test.YtjahegiopigblaaHI4
import Derived.Test.YtjahegiopigblaaHG7
namespace Go.Proofs.Ytjahegiopigblaa
open Go.RowKit
theorem rIk : RowT Try.prog 24 23 kI.sz 16 (.agg (idA 0)) := ⟨Try.underlying24, info_of (by kernel_rfl), idA_size 0, by decide⟩
theorem bsI (a : Nat) (w : World) : (Instr.buildSlice 24 1 #[(0, .agg (idA a))]).run Try.prog w = .ok (.slice (some ⟨w.heap.size, 0, none⟩) 1 1) (w.alloc (.cells ([a].flatMap kI.E).toArray 23)) := by kernel_rfl
theorem bsI2 (a b : Nat) (w : World) : (Instr.buildSlice 24 2 #[(0, .agg (idA a)), (1, .agg (idA b))]).run Try.prog w = .ok (.slice (some ⟨w.heap.size, 0, none⟩) 2 2) (w.alloc (.cells ([a, b].flatMap kI.E).toArray 23)) := by kernel_rfl
theorem bsI0 (w : World) : (Instr.buildSlice 24 0 #[]).run Try.prog w = .ok (.slice (some ⟨w.heap.size, 0, none⟩) 0 0) (w.alloc (.cells (([] : List Nat).flatMap kI.E).toArray 23)) := by kernel_rfl
theorem run_ldKI {o : Oper} {A : Act} {w : World} {ao : Option Addr} {cap : Nat} {l : List Nat} (h : RK kI w ao cap l) (x : Operand) (ho : o.op = .load 23 x) (j : Nat) (hx : A.eval x = .pointer (pK kI ao j 0)) (hj : j < l.length) : (execOp A.eval o).run Try.prog w = .ok (.value (.agg (idA (l.getD j 0)))) w :=
  run_ldK h 23 _ Try.underlying23 rfl 0 16 size23 (by decide) x ho j hx hj _ (by show ((idA (l.getD j 0)).toList.drop 0).take 16 = _; rw [List.drop_zero, List.take_of_length_le (by rw [idA_len]; exact Nat.le_refl _)])
theorem ofRC {w : World} {ao : Option Addr} {cap : Nat} {l : List Nat} (h : RC w ao cap l) : RK kI w ao cap l := ⟨h.xc, h.all⟩
theorem RK.rc {w : World} {ao : Option Addr} {cap : Nat} {l : List Nat} (h : RK kI w ao cap l) : RC w ao cap l := ⟨h.xc, h.all⟩
theorem RK.alls {w : World} {ao : Option Addr} {cap : Nat} {l : List Nat} (h : RK kI w ao cap l) : All l := h.all
def abL (x : Nat × Nat) : List Value := (idA x.1).toList ++ ((idA x.2).toList)
def abA (x : Nat × Nat) : Array Value := (abL x).toArray
theorem abL_len (x : Nat × Nat) : (abL x).length = 32 := by simp [abL, idA_size]
theorem abA_size (x : Nat × Nat) : (abA x).size = 32 := abL_len x
theorem abL_one (x : Nat × Nat) : ∀ v ∈ abL x, v.oneCell' = true := fun v h => by
  rcases List.mem_append.1 h with h | h
  · exact idL_one _ _ h
  exact idL_one _ _ h
theorem abA_one (x : Nat × Nat) : (abA x).all (·.oneCell') = true := by
  rw [Array.all_eq_true_iff_forall_mem]
  exact fun v hv => abL_one x v (by simpa [abA] using hv)
theorem abA_sz (a b : Nat × Nat) : (abA a).size = (abA b).size := (abA_size a).trans (abA_size b).symm
theorem abA_fit (a b : Nat × Nat) : 0 + (abA a).size ≤ (abA b).size := by rw [abA_size, abA_size]; exact Nat.le_refl _
theorem siab77 : (Try.prog.info? 77).map (·.size) = some 32 := by kernel_rfl
theorem siab77' (x : Nat × Nat) : (Try.prog.info? 77).map (·.size) = some (abA x).size := by rw [abA_size]; exact siab77
theorem zeroab77 (w : World) : (zeroValue 77).run Try.prog w = .ok (.agg (abA (0, 0))) w := by rw [Try.zeroValue77]; kernel_rfl
theorem aAb0 (x : Nat × Nat) : (abA x).extract 0 (0 + 32) = abA x := by kernel_rfl
theorem ldAb0 {o : Oper} {A : Act} {w : World} {x : Nat × Nat} (y : Operand) (ho : o.op = .load 77 y) (g : Nat) (hx : A.eval y = .pointer (some ⟨g, 0, none⟩)) (hg : w.heap[g]? = some (.cells (abA x) 77 (0, 0))) : (execOp A.eval o).run Try.prog w = .ok (.value (.agg (abA x))) w :=
  run_lda 77 y ho g 0 32 hx 77 _ hg _ Try.underlying77 rfl siab77 (by rw [abA_size]; decide) _ (aAb0 x)
theorem aAb1 (x : Nat × Nat) : (abA x).extract 0 (0 + 16) = idA x.1 := by kernel_rfl
theorem ldAb1 {o : Oper} {A : Act} {w : World} {x : Nat × Nat} (y : Operand) (ho : o.op = .load 23 y) (g : Nat) (hx : A.eval y = .pointer (some ⟨g, 0, none⟩)) (hg : w.heap[g]? = some (.cells (abA x) 77 (0, 0))) : (execOp A.eval o).run Try.prog w = .ok (.value (.agg (idA x.1))) w :=
  run_lda 23 y ho g 0 16 hx 77 _ hg _ Try.underlying23 rfl size23 (by rw [abA_size]; decide) _ (aAb1 x)
theorem bdAb (a b : Nat) (w : World) : (Instr.build 77 #[(0, .agg (idA a)), (1, .agg (idA b))]).run Try.prog w = .ok (.agg (abA (a, b))) w := by kernel_rfl
structure NM where
  id : Nat
  key : Nat
  ver : VM
structure NM.ok (x : NM) : Prop where
  id : x.id < top
  key : x.key < top
  ver : x.ver.ok
def zN : NM := ⟨0, 0, zV⟩
def ntL (x : NM) : List Value := (idA x.id).toList ++ ((idA x.key).toList ++ ((veA x.ver).toList))
def ntA (x : NM) : Array Value := (ntL x).toArray
theorem ntL_len (x : NM) : (ntL x).length = 49 := by simp [ntL, idA_size, veA_size]
theorem ntA_size (x : NM) : (ntA x).size = 49 := ntL_len x
theorem ntL_one (x : NM) : ∀ v ∈ ntL x, v.oneCell' = true := fun v h => by
  rcases List.mem_append.1 h with h | h
  · exact idL_one _ _ h
  rcases List.mem_append.1 h with h | h
  · exact idL_one _ _ h
  exact veL_one _ _ h
theorem sint79 : (Try.prog.info? 79).map (·.size) = some 49 := by kernel_rfl
def knt : Go.Proofs.Ytjahegiopigblaa.Kd NM := ⟨ntL, 49, NM.ok, zN, ntL_len, ntL_one⟩
theorem dNt0 (x : NM) : ((ntL x).drop 0).take 49 = (ntA x).toList := by kernel_rfl
theorem rldNt0 {o : Oper} {A : Act} {w : World} {ao : Option Addr} {cap : Nat} {l : List NM} (h : RK knt w ao cap l) (y : Operand) (ho : o.op = .load 79 y) (j : Nat) (hx : A.eval y = .pointer (pK knt ao j 0)) (hj : j < l.length) : (execOp A.eval o).run Try.prog w = .ok (.value (.agg (ntA (l.getD j zN)))) w :=
  run_ldK h 79 _ Try.underlying79 rfl 0 49 sint79 (by decide) y ho j hx hj _ (dNt0 _)
theorem dNti (x : NM) : ((ntL x).drop 0).take 16 = (idA x.id).toList := by kernel_rfl
theorem rldNti {o : Oper} {A : Act} {w : World} {ao : Option Addr} {cap : Nat} {l : List NM} (h : RK knt w ao cap l) (y : Operand) (ho : o.op = .load 23 y) (j : Nat) (hx : A.eval y = .pointer (pK knt ao j 0)) (hj : j < l.length) : (execOp A.eval o).run Try.prog w = .ok (.value (.agg (idA (l.getD j zN).id))) w :=
  run_ldK h 23 _ Try.underlying23 rfl 0 16 size23 (by decide) y ho j hx hj _ (dNti _)
theorem dNtk (x : NM) : ((ntL x).drop 16).take 16 = (idA x.key).toList := by kernel_rfl
theorem rldNtk {o : Oper} {A : Act} {w : World} {ao : Option Addr} {cap : Nat} {l : List NM} (h : RK knt w ao cap l) (y : Operand) (ho : o.op = .load 23 y) (j : Nat) (hx : A.eval y = .pointer (pK knt ao j 16)) (hj : j < l.length) : (execOp A.eval o).run Try.prog w = .ok (.value (.agg (idA (l.getD j zN).key))) w :=
  run_ldK h 23 _ Try.underlying23 rfl 16 16 size23 (by decide) y ho j hx hj _ (dNtk _)
theorem dNtv (x : NM) : ((ntL x).drop 32).take 17 = (veA x.ver).toList := by kernel_rfl
theorem rldNtv {o : Oper} {A : Act} {w : World} {ao : Option Addr} {cap : Nat} {l : List NM} (h : RK knt w ao cap l) (y : Operand) (ho : o.op = .load 39 y) (j : Nat) (hx : A.eval y = .pointer (pK knt ao j 32)) (hj : j < l.length) : (execOp A.eval o).run Try.prog w = .ok (.value (.agg (veA (l.getD j zN).ver))) w :=
  run_ldK h 39 _ Try.underlying39 rfl 32 17 siVe (by decide) y ho j hx hj _ (dNtv _)
theorem fdnt_0 (w : World) (ad : Addr) : (Instr.fieldAt 79 (.pointer (some ad)) 0).run Try.prog w = .ok (.pointer (some (ad.add 0))) w := by kernel_rfl
theorem fdnt_1 (w : World) (ad : Addr) : (Instr.fieldAt 79 (.pointer (some ad)) 1).run Try.prog w = .ok (.pointer (some (ad.add 16))) w := by kernel_rfl
theorem fdnt_2 (w : World) (ad : Addr) : (Instr.fieldAt 79 (.pointer (some ad)) 2).run Try.prog w = .ok (.pointer (some (ad.add 32))) w := by kernel_rfl
theorem rnt35 : RowT Try.prog 35 79 knt.sz 56 (.agg (ntA zN)) := ⟨Try.underlying35, info_of (by kernel_rfl), ntA_size zN, by decide⟩
theorem bsnt35 (a : NM) (w : World) : (Instr.buildSlice 35 1 #[(0, .agg (ntA a))]).run Try.prog w = .ok (.slice (some ⟨w.heap.size, 0, none⟩) 1 1) (w.alloc (.cells ([a].flatMap knt.E).toArray 79)) := by kernel_rfl
theorem bdNt (a b : Nat) (v : VM) (w : World) : (Instr.build 79 #[(0, .agg (idA a)), (1, .agg (idA b)), (2, .agg (veA v))]).run Try.prog w = .ok (.agg (ntA ⟨a, b, v⟩)) w := by kernel_rfl
structure DM where
  to : Nat
  it : IM
structure DM.ok (x : DM) : Prop where
  to : x.to < top
  it : x.it.ok
def zD : DM := ⟨0, zM⟩
def duL (x : DM) : List Value := (idA x.to).toList ++ ((itA x.it).toList)
def duA (x : DM) : Array Value := (duL x).toArray
theorem duL_len (x : DM) : (duL x).length = 50 := by simp [duL, idA_size, itA_size]
theorem duA_size (x : DM) : (duA x).size = 50 := duL_len x
theorem duL_one (x : DM) : ∀ v ∈ duL x, v.oneCell' = true := fun v h => by
  rcases List.mem_append.1 h with h | h
  · exact idL_one _ _ h
  exact itL_one _ _ h
def kdu : Go.Proofs.Ytjahegiopigblaa.Kd DM := ⟨duL, 50, DM.ok, zD, duL_len, duL_one⟩
theorem dDut (x : DM) : ((duL x).drop 0).take 16 = (idA x.to).toList := by kernel_rfl
theorem rldDut {o : Oper} {A : Act} {w : World} {ao : Option Addr} {cap : Nat} {l : List DM} (h : RK kdu w ao cap l) (y : Operand) (ho : o.op = .load 23 y) (j : Nat) (hx : A.eval y = .pointer (pK kdu ao j 0)) (hj : j < l.length) : (execOp A.eval o).run Try.prog w = .ok (.value (.agg (idA (l.getD j zD).to))) w :=
  run_ldK h 23 _ Try.underlying23 rfl 0 16 size23 (by decide) y ho j hx hj _ (dDut _)
theorem dDui (x : DM) : ((duL x).drop 16).take 34 = (itA x.it).toList := by kernel_rfl
theorem rldDui {o : Oper} {A : Act} {w : World} {ao : Option Addr} {cap : Nat} {l : List DM} (h : RK kdu w ao cap l) (y : Operand) (ho : o.op = .load 46 y) (j : Nat) (hx : A.eval y = .pointer (pK kdu ao j 16)) (hj : j < l.length) : (execOp A.eval o).run Try.prog w = .ok (.value (.agg (itA (l.getD j zD).it))) w :=
  run_ldK h 46 _ Try.underlying46 rfl 16 34 siIt (by decide) y ho j hx hj _ (dDui _)
theorem nac44 (w : World) : (isAgg 44).run Try.prog w = .ok false w := by kernel_rfl
theorem dDur (x : DM) : (duL x)[49]? = some (.slice x.it.ao x.it.val.length x.it.cap) := by kernel_rfl
theorem rldDur {o : Oper} {A : Act} {w : World} {ao : Option Addr} {cap : Nat} {l : List DM} (h : RK kdu w ao cap l) (y : Operand) (ho : o.op = .load 44 y) (j : Nat) (hx : A.eval y = .pointer (pK kdu ao j 49)) (hj : j < l.length) : (execOp A.eval o).run Try.prog w = .ok (.value (.slice (l.getD j zD).it.ao (l.getD j zD).it.val.length (l.getD j zD).it.cap)) w :=
  run_ldKc h 44 (nac44 w) 49 (by decide) y ho j hx hj _ (dDur _)
theorem fddu54_0 (w : World) (ad : Addr) : (Instr.fieldAt 54 (.pointer (some ad)) 0).run Try.prog w = .ok (.pointer (some (ad.add 0))) w := by kernel_rfl
theorem fddu54_1 (w : World) (ad : Addr) : (Instr.fieldAt 54 (.pointer (some ad)) 1).run Try.prog w = .ok (.pointer (some (ad.add 16))) w := by kernel_rfl
theorem fddu55_0 (w : World) (ad : Addr) : (Instr.fieldAt 55 (.pointer (some ad)) 0).run Try.prog w = .ok (.pointer (some (ad.add 0))) w := by kernel_rfl
theorem fddu55_1 (w : World) (ad : Addr) : (Instr.fieldAt 55 (.pointer (some ad)) 1).run Try.prog w = .ok (.pointer (some (ad.add 16))) w := by kernel_rfl
theorem rdu49 : RowT Try.prog 49 54 kdu.sz 80 (.agg (duA zD)) := ⟨Try.underlying49, info_of (by kernel_rfl), duA_size zD, by decide⟩
theorem bsdu49 (a : DM) (w : World) : (Instr.buildSlice 49 1 #[(0, .agg (duA a))]).run Try.prog w = .ok (.slice (some ⟨w.heap.size, 0, none⟩) 1 1) (w.alloc (.cells ([a].flatMap kdu.E).toArray 54)) := by kernel_rfl
theorem rdu51 : RowT Try.prog 51 55 kdu.sz 80 (.agg (duA zD)) := ⟨Try.underlying51, info_of (by kernel_rfl), duA_size zD, by decide⟩
theorem bsdu51 (a : DM) (w : World) : (Instr.buildSlice 51 1 #[(0, .agg (duA a))]).run Try.prog w = .ok (.slice (some ⟨w.heap.size, 0, none⟩) 1 1) (w.alloc (.cells ([a].flatMap kdu.E).toArray 55)) := by kernel_rfl
theorem bdDu54 (a : Nat) (x : IM) (w : World) : (Instr.build 54 #[(0, .agg (idA a)), (1, .agg (itA x))]).run Try.prog w = .ok (.agg (duA ⟨a, x⟩)) w := by kernel_rfl
theorem bdDu55 (a : Nat) (x : IM) (w : World) : (Instr.build 55 #[(0, .agg (idA a)), (1, .agg (itA x))]).run Try.prog w = .ok (.agg (duA ⟨a, x⟩)) w := by kernel_rfl
structure OQ where
  kind : Int
  a : Nat
  b : Nat
  ver : VM
  io : Option Addr
  ic : Nat
  ids : List Nat
  mo : Option Addr
  mc : Nat
  its : List IM
structure OQ.ok (x : OQ) : Prop where
  kind : I64 x.kind
  a : x.a < top
  b : x.b < top
  ver : x.ver.ok
def zO : OQ := ⟨0, 0, 0, zV, none, 0, [], none, 0, []⟩
def oqL (x : OQ) : List Value := [.int .i64 x.kind] ++ ((idA x.a).toList ++ ((idA x.b).toList ++ ((veA x.ver).toList ++ ([.slice x.io x.ids.length x.ic] ++ ([.slice x.mo x.its.length x.mc])))))
def oqA (x : OQ) : Array Value := (oqL x).toArray
theorem oqL_len (x : OQ) : (oqL x).length = 52 := by simp [oqL, idA_size, veA_size]
theorem oqA_size (x : OQ) : (oqA x).size = 52 := oqL_len x
theorem oqL_one (x : OQ) : ∀ v ∈ oqL x, v.oneCell' = true := fun v h => by
  rcases List.mem_append.1 h with h | h
  · (rw [List.mem_singleton.1 h]; rfl)
  rcases List.mem_append.1 h with h | h
  · exact idL_one _ _ h
  rcases List.mem_append.1 h with h | h
  · exact idL_one _ _ h
  rcases List.mem_append.1 h with h | h
  · exact veL_one _ _ h
  rcases List.mem_append.1 h with h | h
  · (rw [List.mem_singleton.1 h]; rfl)
  (rw [List.mem_singleton.1 h]; rfl)
theorem oqA_one (x : OQ) : (oqA x).all (·.oneCell') = true := by
  rw [Array.all_eq_true_iff_forall_mem]
  exact fun v hv => oqL_one x v (by simpa [oqA] using hv)
theorem oqA_sz (a b : OQ) : (oqA a).size = (oqA b).size := (oqA_size a).trans (oqA_size b).symm
theorem oqA_fit (a b : OQ) : 0 + (oqA a).size ≤ (oqA b).size := by rw [oqA_size, oqA_size]; exact Nat.le_refl _
theorem sioq42 : (Try.prog.info? 42).map (·.size) = some 52 := by kernel_rfl
theorem sioq42' (x : OQ) : (Try.prog.info? 42).map (·.size) = some (oqA x).size := by rw [oqA_size]; exact sioq42
theorem zerooq42 (w : World) : (zeroValue 42).run Try.prog w = .ok (.agg (oqA zO)) w := by rw [Try.zeroValue42]; kernel_rfl
def koq : Go.Proofs.Ytjahegiopigblaa.Kd OQ := ⟨oqL, 52, OQ.ok, zO, oqL_len, oqL_one⟩
theorem dOq0 (x : OQ) : ((oqL x).drop 0).take 52 = (oqA x).toList := by kernel_rfl
theorem rldOq0 {o : Oper} {A : Act} {w : World} {ao : Option Addr} {cap : Nat} {l : List OQ} (h : RK koq w ao cap l) (y : Operand) (ho : o.op = .load 42 y) (j : Nat) (hx : A.eval y = .pointer (pK koq ao j 0)) (hj : j < l.length) : (execOp A.eval o).run Try.prog w = .ok (.value (.agg (oqA (l.getD j zO)))) w :=
  run_ldK h 42 _ Try.underlying42 rfl 0 52 sioq42 (by decide) y ho j hx hj _ (dOq0 _)
theorem nac3 (w : World) : (isAgg 3).run Try.prog w = .ok false w := by kernel_rfl
theorem aOqk (x : OQ) : (oqA x)[0]? = some (.int .i64 x.kind) := by kernel_rfl
theorem ldOqk {o : Oper} {A : Act} {w : World} {x : OQ} (y : Operand) (ho : o.op = .load 3 y) (g : Nat) (hx : A.eval y = .pointer (some ⟨g, 0, none⟩)) (hg : w.heap[g]? = some (.cells (oqA x) 42 (0, 0))) : (execOp A.eval o).run Try.prog w = .ok (.value (.int .i64 x.kind)) w :=
  run_ldc 3 y ho g 0 hx 42 _ hg (nac3 w) _ (aOqk x)
theorem aOqa (x : OQ) : (oqA x).extract 1 (1 + 16) = idA x.a := by kernel_rfl
theorem ldOqa {o : Oper} {A : Act} {w : World} {x : OQ} (y : Operand) (ho : o.op = .load 23 y) (g : Nat) (hx : A.eval y = .pointer (some ⟨g, 1, none⟩)) (hg : w.heap[g]? = some (.cells (oqA x) 42 (0, 0))) : (execOp A.eval o).run Try.prog w = .ok (.value (.agg (idA x.a))) w :=
  run_lda 23 y ho g 1 16 hx 42 _ hg _ Try.underlying23 rfl size23 (by rw [oqA_size]; decide) _ (aOqa x)
theorem aOqb (x : OQ) : (oqA x).extract 17 (17 + 16) = idA x.b := by kernel_rfl
theorem ldOqb {o : Oper} {A : Act} {w : World} {x : OQ} (y : Operand) (ho : o.op = .load 23 y) (g : Nat) (hx : A.eval y = .pointer (some ⟨g, 17, none⟩)) (hg : w.heap[g]? = some (.cells (oqA x) 42 (0, 0))) : (execOp A.eval o).run Try.prog w = .ok (.value (.agg (idA x.b))) w :=
  run_lda 23 y ho g 17 16 hx 42 _ hg _ Try.underlying23 rfl size23 (by rw [oqA_size]; decide) _ (aOqb x)
theorem aOqv (x : OQ) : (oqA x).extract 33 (33 + 17) = veA x.ver := by kernel_rfl
theorem ldOqv {o : Oper} {A : Act} {w : World} {x : OQ} (y : Operand) (ho : o.op = .load 39 y) (g : Nat) (hx : A.eval y = .pointer (some ⟨g, 33, none⟩)) (hg : w.heap[g]? = some (.cells (oqA x) 42 (0, 0))) : (execOp A.eval o).run Try.prog w = .ok (.value (.agg (veA x.ver))) w :=
  run_lda 39 y ho g 33 17 hx 42 _ hg _ Try.underlying39 rfl siVe (by rw [oqA_size]; decide) _ (aOqv x)
theorem nac24 (w : World) : (isAgg 24).run Try.prog w = .ok false w := by kernel_rfl
theorem aOqi (x : OQ) : (oqA x)[50]? = some (.slice x.io x.ids.length x.ic) := by kernel_rfl
theorem ldOqi {o : Oper} {A : Act} {w : World} {x : OQ} (y : Operand) (ho : o.op = .load 24 y) (g : Nat) (hx : A.eval y = .pointer (some ⟨g, 50, none⟩)) (hg : w.heap[g]? = some (.cells (oqA x) 42 (0, 0))) : (execOp A.eval o).run Try.prog w = .ok (.value (.slice x.io x.ids.length x.ic)) w :=
  run_ldc 24 y ho g 50 hx 42 _ hg (nac24 w) _ (aOqi x)
theorem nac40 (w : World) : (isAgg 40).run Try.prog w = .ok false w := by kernel_rfl
theorem aOqm (x : OQ) : (oqA x)[51]? = some (.slice x.mo x.its.length x.mc) := by kernel_rfl
theorem ldOqm {o : Oper} {A : Act} {w : World} {x : OQ} (y : Operand) (ho : o.op = .load 40 y) (g : Nat) (hx : A.eval y = .pointer (some ⟨g, 51, none⟩)) (hg : w.heap[g]? = some (.cells (oqA x) 42 (0, 0))) : (execOp A.eval o).run Try.prog w = .ok (.value (.slice x.mo x.its.length x.mc)) w :=
  run_ldc 40 y ho g 51 hx 42 _ hg (nac40 w) _ (aOqm x)
theorem roq31 : RowT Try.prog 31 42 koq.sz 112 (.agg (oqA zO)) := ⟨Try.underlying31, info_of (by kernel_rfl), oqA_size zO, by decide⟩
/-- The boxes of a book of either side. -/
def bkA (mb : Nat) : Array Value := #[.map (some mb)]
def rbA (ao : Option Addr) (n cap : Nat) : Array Value := #[.slice ao n cap]
theorem nac73 (w : World) : (isAgg 73).run Try.prog w = .ok false w := by kernel_rfl
theorem nac35 (w : World) : (isAgg 35).run Try.prog w = .ok false w := by kernel_rfl
theorem ldBk {o : Oper} {A : Act} {w : World} {mb : Nat} (y : Operand) (ho : o.op = .load 73 y) (g : Nat) (hx : A.eval y = .pointer (some ⟨g, 0, none⟩)) (hg : w.heap[g]? = some (.cells (bkA mb) 75 (0, 0))) : (execOp A.eval o).run Try.prog w = .ok (.value (.map (some mb))) w :=
  run_ldc 73 y ho g 0 hx 75 _ hg (nac73 w) _ (by kernel_rfl)
theorem ldRb {o : Oper} {A : Act} {w : World} {ao : Option Addr} {n cap : Nat} (y : Operand) (ho : o.op = .load 35 y) (g : Nat) (hx : A.eval y = .pointer (some ⟨g, 0, none⟩)) (hg : w.heap[g]? = some (.cells (rbA ao n cap) 37 (0, 0))) : (execOp A.eval o).run Try.prog w = .ok (.value (.slice ao n cap)) w :=
  run_ldc 35 y ho g 0 hx 37 _ hg (nac35 w) _ (by kernel_rfl)
theorem siNts : (Try.prog.info? 35).map (·.size) = some 1 := by kernel_rfl
theorem bdBk (mb : Nat) (w : World) : (Instr.build 75 #[(0, .map (some mb))]).run Try.prog w = .ok (.agg (bkA mb)) w := by kernel_rfl
theorem bdRb (w : World) : (Instr.build 37 #[]).run Try.prog w = .ok (.agg (rbA none 0 0)) w := by kernel_rfl
/-! ### The map of notes -/
theorem wideAb : (match Try.prog.underlying 77 with | some (.array _ _) | some (.struct _) => true | _ => false) = true := by rw [Try.underlying77]
theorem cellsAb : Try.prog.cellsOf 77 = 32 := by kernel_rfl
theorem rowAb : (77 : TypeId) < Try.prog.types.size := of_decide_eq_true (by kernel_rfl)
set_option maxRecDepth 100000 in
theorem lawAb : WideMaps.KeyLaw Try.prog 77 := deep_law_laid laidM (m := 3) (by omega) rowAb (by kernel_rfl) wideAb
theorem keyedAb : Maps.Keyed Try.prog 77 := Maps.Keyed.of_law lawAb
theorem dAb_1 (x : Nat × Nat) : ((abL x).drop 0).take 16 = (idA x.1).toList := by kernel_rfl
theorem dAb_2 (x : Nat × Nat) : ((abL x).drop 16).take 16 = (idA x.2).toList := by kernel_rfl
theorem keyAb (p : Nat × Nat) : ∃ kl, keyOf Try.prog 77 (.agg (abA p)) = some kl := by
  have hk : Try.prog.keyType 77 = true := by kernel_rfl
  have hf : (Value.agg (abA p)).formed Try.prog 77 = true := by simp [Value.formed, Try.underlying77, cellsAb, abA_size]
  obtain ⟨m, hm⟩ : ∃ m, Try.prog.types.size + 1 = m + 1 + 1 + 1 := ⟨Try.prog.types.size - 2, by kernel_rfl⟩
  have h5 : ∀ b : Nat, b < 256 → Try.prog.keyLits (m + 1) 5 [.int .u8 (b : Int)] = some [.int .u8 (b : Int)] := fun b hb => by
    unfold Program.keyLits
    rw [Try.underlying5]
    refine if_pos ⟨rfl, ?_⟩
    simp [Lit.wf, IntKind.min, IntKind.max, IntKind.signed, IntKind.bits]
    omega
  have h29 : ∀ q : Nat, ∃ r, Try.prog.keyLits (m + 1 + 1) 23 (idA q).toList = some r := fun q => by
    unfold Program.keyLits
    rw [Try.underlying23]
    simp only []
    rw [if_pos (by rw [cellsMI]; exact idA_len _)]
    obtain ⟨r, hr⟩ := mapM_someM (fun i => Try.prog.keyLits (m + 1) 5 (((idA q).toList.drop (i * Try.prog.cellsOf 5)).take (Try.prog.cellsOf 5))) (List.range 16) fun i hi => by
      have hi16 : i < 16 := by simpa using hi
      have e : ((idA q).toList.drop (i * Try.prog.cellsOf 5)).take (Try.prog.cellsOf 5) = [.int .u8 (byt q i : Int)] := by
        rw [cellsM5, Nat.mul_one, List.drop_eq_getElem_cons (by rw [idA_len]; exact hi16), List.take_succ_cons, List.take_zero]
        have := idA_get q i hi16
        rw [← Array.getElem?_toList] at this
        rw [(List.getElem?_eq_some_iff.1 this).2]
      exact ⟨_, by rw [e]; exact h5 _ (byt_lt _ _)⟩
    exact ⟨_, by rw [hr]; rfl⟩
  obtain ⟨r1, hr1⟩ := h29 p.1
  obtain ⟨r2, hr2⟩ := h29 p.2
  have h31 : Try.prog.keyLits (m + 1 + 1 + 1) 77 (abL p) = some (r1 ++ r2) := by
    unfold Program.keyLits
    rw [Try.underlying77]
    simp only []
    rw [if_pos ⟨by rw [cellsAb]; exact abL_len p, by kernel_rfl⟩]
    simp only [List.mapM_cons, List.mapM_nil, cellsMI, dAb_1, dAb_2, hr1, hr2]
    simp
  refine ⟨.string (keyBytes (r1 ++ r2)), ?_⟩
  unfold keyOf
  rw [Try.underlying77]
  simp only [hk, hf, Bool.and_self, if_true]
  rw [hm, show (Value.agg (abA p)).cells.toList = abL p from rfl, h31]
  rfl
theorem ab_inj {p q : Nat × Nat} (hp : p.1 < top ∧ p.2 < top) (hq : q.1 < top ∧ q.2 < top) (h : (Value.agg (abA p)) = .agg (abA q)) : p = q := by
  injection h with h
  have hl : abL p = abL q := by
    have := congrArg Array.toList h
    exact this
  have h1 := congrArg (fun l : List Value => (l.drop 0).take 16) hl
  have h2 := congrArg (fun l : List Value => (l.drop 16).take 16) hl
  simp only [dAb_1, dAb_2] at h1 h2
  exact Prod.ext (idA_inj hp.1 hq.1 (Array.toList_inj.1 h1)) (idA_inj hp.2 hq.2 (Array.toList_inj.1 h2))
def kvB (p : Nat × Nat) : Value := .agg (abA p)
def evB (v : VM) : Value := .agg (veA v)
def okB (p : Nat × Nat) : Prop := p.1 < top ∧ p.2 < top
theorem mB : MT 73 77 39 kvB okB evB (.agg (veA zV)) := ⟨Try.underlying73, keyedAb, fun p _ => keyAb p, fun _ _ hp hq h => ab_inj hp hq h, zeroVe⟩
/-- What is noted. -/
abbrev TB (w : World) (b : Nat) (L : List ((Nat × Nat) × VM)) : Prop := TMM kvB okB evB w b L
theorem evB_get (L : List ((Nat × Nat) × VM)) (p : Nat × Nat) : evO evB (.agg (veA zV)) (getM L p) = .agg (veA ((getM L p).getD zV)) := by cases getM L p <;> rfl
end Go.Proofs.Ytjahegiopigblaa
