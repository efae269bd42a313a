/- A frame that is under way is taken out, and comes. -/
import Derived.Test.YtlfanecaglbomaaEO4
namespace Go.Proofs.Ytlfanecaglbomaa
open Go.RowKit
section
variable {P : Program} {o : Oper} {A : Act} {t e : TypeId} {sz b : Nat} {z : Value}
theorem Zi (T : RowT P t e sz b z) (x y z : Operand) (ho : o.op = .slice t x (some y) (some z) none) (ao : Option Addr) (n cap i j : Nat) (hx : A.eval x = .slice ao n cap) (hy : A.eval y = iK (i : Int)) (hz : A.eval z = iK (j : Int)) (hi : i ≤ j) (hj : j ≤ cap) (w : World) :
    (execOp A.eval o).run P w = .ok (.value (.slice (if cap = i then ao else ao.map (·.add (i * sz))) (j - i) (cap - i))) w := by
  have h : (Instr.slice t (.slice ao n cap) (some (iK (i : Int))) (some (iK (j : Int))) none).run P w = .ok (.slice (if cap = i then ao else ao.map (·.add (i * sz))) (j - i) (cap - i)) w := by
    simp only [Instr.slice, Sem.run_bind, run_underlying T.und, Result.andThen_ok, Instr.sliceBounds, Instr.sliceBound, asIntOf, Sem.run_pure, yf T]
    have h2 : (0 : Int) ≤ (i : Int) ∧ (i : Int) ≤ (j : Int) := by omega
    have h3 : (0 : Int) ≤ (j : Int) ∧ (j : Int) ≤ (cap : Int) := by omega
    simp [h2, h3, hi]
  unfold execOp
  simp only [ho, hx, hy, hz, Option.map_some, Option.map_none, Sem.run_bind, yk T, h, Result.andThen_ok, Sem.run_pure]
theorem zT (T : RowT P t e sz b z) (x z : Operand) (ho : o.op = .slice t x none (some z) none) (ao : Option Addr) (n cap j : Nat) (hx : A.eval x = .slice ao n cap) (hz : A.eval z = iK (j : Int)) (hj : j ≤ cap) (w : World) :
    (execOp A.eval o).run P w = .ok (.value (.slice ao j cap)) w := by
  have h : (Instr.slice t (.slice ao n cap) none (some (iK (j : Int))) none).run P w = .ok (.slice ao j cap) w := by
    simp only [Instr.slice, Sem.run_bind, run_underlying T.und, Result.andThen_ok, Instr.sliceBounds, Instr.sliceBound, asIntOf, Sem.run_pure, yf T]
    have h3 : (0 : Int) ≤ (j : Int) ∧ (j : Int) ≤ (cap : Int) := by omega
    simp [h3]
    intro _
    cases ao <;> simp [Jp]
  unfold execOp
  simp only [ho, hx, hz, Option.map_some, Option.map_none, Sem.run_bind, yk T, h, Result.andThen_ok, Sem.run_pure]
theorem ZP {ops : Array Oper} {R : World → Prop} {w : World} (T : RowT P t e sz b z) (kk : PostE) (hw : Region.wanted o (yielded ops A.tmps) = true) (s x : Operand)
    (ho : o.op = .call { callee := .builtin .append, args := #[s, x], argTypes := #[t, t] }) {B : Nat} {ao : Option Addr} {cap n : Nat} {cs : List Value} (hs : A.eval s = .slice ao n cap) (hown : OY w e sz B ao cap n cs)
    {ao' : Option Addr} {cap' m : Nat} {cs' : List Value} (hx : A.eval x = .slice ao' m cap') (hsrc : XC w sz ao' cap' m cs') (hb : (n + m) * b ≤ 140737488355328) (hb0 : 0 < b) (hB : B ≤ w.heap.size)
    (H : ∀ ao2 cap2 w', OY w' e sz B ao2 cap2 (n + m) (cs ++ cs') → GroS (blk ao) w w' → Kept w.heap.size ao ao2 → R w' ∧ kk.p (.slice ao2 (n + m) cap2) w') : OpX P ops R kk o A w := by
  obtain ⟨ao2, cap2, w', hr, h1, h2, h3, _⟩ := vN T o.type w hown hsrc hb hb0 hB
  exact ⟨hw, by rw [vU s x ho hs hx hr]; exact H ao2 cap2 w' h1 h2 h3⟩
end
theorem vi : ∀ fs : List (PF × Fr), (cellsF fs).length = fs.length * 95
  | [] => rfl
  | x :: fs => by
    have e : cellsF (x :: fs) = (frA x.2).toList ++ cellsF fs := by simp [cellsF]
    rw [e, List.length_append, vi fs, zD, List.length_cons]
    omega
theorem Jn (fs : List (PF × Fr)) (j : Nat) (hj : j ≤ fs.length) : (cellsF fs).take (j * 95) = cellsF (fs.take j) := by
  have e : cellsF fs = cellsF (fs.take j) ++ cellsF (fs.drop j) := by rw [← zY, List.take_append_drop]
  rw [e, List.take_left' (by rw [vi, List.length_take, Nat.min_eq_left hj])]
theorem Jo (fs : List (PF × Fr)) (j : Nat) (hj : j ≤ fs.length) : (cellsF fs).drop (j * 95) = cellsF (fs.drop j) := by
  have e : cellsF fs = cellsF (fs.take j) ++ cellsF (fs.drop j) := by rw [← zY, List.take_append_drop]
  rw [e, List.drop_left' (by rw [vi, List.length_take, Nat.min_eq_left hj])]
section
variable {w w' : World} {B : Nat} {ao : Option Addr} {cap : Nat} {fs : List (PF × Fr)}
theorem LF.take (h : LF w B ao cap fs) (j : Nat) (hj : j ≤ fs.length) : LF w B ao cap (fs.take j) := by
  have hl : (fs.take j).length = j := by rw [List.length_take, Nat.min_eq_left hj]
  refine ⟨?_, fun x hx => h.fv x (List.mem_of_mem_take hx)⟩
  rw [← Jn fs j hj, hl]
  have hr := h.row
  refine ⟨by rw [List.length_take, hr.len]; exact Nat.min_eq_left (Nat.mul_le_mul_right _ hj), ?_, fun v hv => hr.one v (List.mem_of_mem_take hv)⟩
  rcases hr.row with ⟨h1, h2, h3⟩ | ⟨g, d, cur, h1, h2, h3, h4, h5, h6, h7⟩
  · exact .inl ⟨h1, h2, by omega⟩
  · refine .inr ⟨g, d, cur, h1, h2, h3, by omega, h5, h6, ?_⟩
    rw [← h7, List.take_take, Nat.min_eq_left (Nat.mul_le_mul_right _ hj)]
theorem LF.tail (h : LF w B ao cap fs) (j : Nat) (hj : j ≤ fs.length) : LF w B (if cap = j then ao else ao.map (·.add (j * 95))) (cap - j) (fs.drop j) := by
  refine ⟨?_, fun x hx => h.fv x (List.mem_of_mem_drop hx)⟩
  rw [← Jo fs j hj, List.length_drop]
  exact h.row.drop j hj
theorem LF.le (h : LF w B ao cap fs) : fs.length ≤ cap := h.row.xc.fit
end
def zfE (M : Nat) : PostE := PostE.ex (fun v x => ∃ g : Nat, v = .slice (some ⟨g, 0, none⟩) 0 0 ∧ M ≤ g ∧ x.heap[g]? = some (.cells #[] 46 (0, 0))) (fun _ _ _ G ⟨g, h1, h2, h3⟩ => ⟨g, h1, h2, G.has h3⟩)
theorem vt (M : Nat) (v : Value) : (zfE M).fill v = v := rfl
def tkE (M : Nat) (fs : List (PF × Fr)) : PostE := PostE.ex (fun v x => ∃ (a : Option Addr) (c : Nat), v = .slice a fs.length c ∧ LF x M a c fs) (fun _ _ _ G ⟨a, c, h1, h2⟩ => ⟨a, c, h1, h2.gro G⟩)
theorem vu (M : Nat) (fs : List (PF × Fr)) (v : Value) : (tkE M fs).fill v = v := rfl
theorem YJ {w : World} {M g : Nat} (hg : M ≤ g) (hk : w.heap[g]? = some (.cells #[] 46 (0, 0))) : OY w 46 95 M (some ⟨g, 0, none⟩) 0 0 [] := ⟨rfl, .inr ⟨g, 0, #[], rfl, hg, hk, Nat.le_refl _, by simp only [maxLen]; omega, by simp, rfl⟩, fun _ h => by cases h⟩
theorem yY {ops : Array Oper} {o : Oper} {A : Act} {w x : World} {B M m : Nat} {a : Option Addr} {c : Nat} {f : List (PF × Fr)} (hw : Region.wanted o (yielded ops A.tmps) = true) (s y : Operand) (ho : o.op = .call { callee := .builtin .append, args := #[s, y], argTypes := #[50, 50] })
    (H : LF w B a c f) (G : Gro w x) (hf : f.length ≤ 200) (hm : m ≤ f.length) (hM : M ≤ x.heap.size) {v : Value} (hs : A.eval s = v) (hE : (zfE M).p v x) (hy : A.eval y = .slice a m c) : OpE Try.prog ops (tkE M (f.take m)) o A x := by
  obtain ⟨g, rfl, h1, h2⟩ := hE
  have hl : (f.take m).length = m := by rw [List.length_take, Nat.min_eq_left hm]
  have hx := ((H.gro G).take m hm).row.xc
  rw [hl] at hx
  refine ZQ rF _ hw s y ho hs (YJ h1 h2) hy hx (by omega) (by decide) hM fun a2 c2 w' hr G2 _ => ⟨a2, c2, by rw [hl, Nat.zero_add], ?_, fun z hz => ((H.gro G).fv z (List.mem_of_mem_take hz)).gro G2⟩
  rw [Nat.zero_add, List.nil_append] at hr
  rw [hl]
  exact hr
theorem yZ {ops : Array Oper} {o : Oper} {A : Act} {w x : World} {B M m : Nat} {a : Option Addr} {c : Nat} {f : List (PF × Fr)} {R : World → Prop} (hw : Region.wanted o (yielded ops A.tmps) = true) (s y : Operand) (ho : o.op = .call { callee := .builtin .append, args := #[s, y], argTypes := #[50, 50] })
    (H : LF w B a c f) (G : Gro w x) (hf : f.length ≤ 200) (hm : m < f.length) (hM : M ≤ x.heap.size) {v : Value} (hs : A.eval s = v) (hE : (tkE M (f.take m)).p v x) (hy : A.eval y = .slice (if c = m + 1 then a else a.map (·.add ((m + 1) * 95))) (f.length - (m + 1)) (c - (m + 1)))
    (hR : ∀ S w', (∀ k ∈ S, M ≤ k) → GroS S x w' → R w') : OpX Try.prog ops R (tkE M (f.take m ++ f.drop (m + 1))) o A x := by
  obtain ⟨a2, c2, rfl, h2⟩ := hE
  have hx := (H.gro G).tail (m + 1) hm
  have hx1 := hx.row.xc
  rw [List.length_drop] at hx1
  have hl : (f.take m).length ≤ 200 := by rw [List.length_take]; omega
  refine ZP rF _ hw s y ho hs h2.row hy hx1 (by omega) (by decide) hM fun a3 c3 w' hr G2 _ => ⟨hR _ w' h2.row.base G2, a3, c3, by rw [List.length_append, List.length_drop], ?_, fun z hz => ?_⟩
  · rw [List.length_append, List.length_drop, zY]
    exact hr
  · rcases List.mem_append.1 hz with hz | hz
    · exact (h2.fv z hz).no5 G2 h2.no5b
    · exact (hx.fv z hz).no5 G2 h2.no5b
end Go.Proofs.Ytlfanecaglbomaa
