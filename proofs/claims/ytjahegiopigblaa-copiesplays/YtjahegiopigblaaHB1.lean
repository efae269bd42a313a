/- Rows of numbers in memory, over any program: read, cut, turned to text, appended to, compared. -/
import Derived.Test.YtjahegiopigblaaHOps
import Derived.Laws.AppendOwnNone
import Derived.Laws.BytesString
import Derived.Laws.CopyOwn
import Derived.Lib.BufferRead
namespace Go.Proofs.Ytjahegiopigblaa
open Go.RowKit
/-- A fact kept from the walk. -/
structure Shut (p : Prop) : Prop where
  out : p
section
variable {P : Program}
/-- A slice type t of numbers of kind k, of b bytes each. -/
structure NumT (P : Program) (t e : TypeId) (k : IntKind) (b : Nat) : Prop where
  und : P.underlying t = some (.slice e)
  ue : P.underlying e = some (.int k)
  info : ∃ i, P.info? e = some i ∧ i.zero = some (.int k 0) ∧ i.size = 1 ∧ i.bytes = b
/-- A row of numbers in memory, as it is read. -/
structure NC (w : World) (k : IntKind) (ao : Option Addr) (cap : Nat) (l : List Nat) : Prop where
  fit : l.length ≤ cap
  bare : ao = none → cap = 0
  cell : ∀ ad, ao = some ad → ∀ j, j < l.length → w.cell? (ad.add j) = some (.int k (l.getD j 0 : Int))
  wf : ∀ x ∈ l, (x : Int) ≤ k.max
theorem add_add (a : Addr) (i j : Nat) : (a.add i).add j = a.add (i + j) := by
  unfold Addr.add
  by_cases hi : i = 0
  · subst hi; simp
  · by_cases hj : j = 0
    · subst hj; simp [hi]
    · have : i + j ≠ 0 := by omega
      simp only [hi, hj, this, if_false]
      simp
theorem add_zero (a : Addr) : a.add 0 = a := by simp [Addr.add]
theorem add_block (a : Addr) (j : Nat) : (a.add j).block = a.block := by unfold Addr.add; split <;> rfl
theorem add_at (g i j : Nat) : (⟨g, i, none⟩ : Addr).add j = ⟨g, i + j, none⟩ := by unfold Addr.add; split <;> simp_all
section
variable {w w' : World} {k : IntKind} {ao : Option Addr} {cap : Nat} {l : List Nat}
theorem NC.at (h : NC w k ao cap l) {j : Nat} (hj : j < l.length) : ∃ ad, ao = some ad ∧ w.cell? (ad.add j) = some (.int k (l.getD j 0 : Int)) := by
  cases hao : ao with
  | none => have := h.bare hao; have := h.fit; omega
  | some ad => exact ⟨ad, rfl, h.cell ad hao j hj⟩
theorem NC.below (h : NC w k ao cap l) {B : Nat} (G : Below B w w') (hb : ∀ ad, ao = some ad → 0 < l.length → ad.block < B) : NC w' k ao cap l :=
  ⟨h.fit, h.bare, fun ad ha j hj => (World.cell?_of_block (G.block _ (by rw [add_block]; exact hb ad ha (by omega)))).trans (h.cell ad ha j hj), h.wf⟩
theorem NC.lt (h : NC w k ao cap l) : ∀ ad, ao = some ad → 0 < l.length → ad.block < w.heap.size := fun ad ha h0 => by
  have := World.block_lt_of_cell? w _ (h.cell ad ha 0 h0)
  rwa [add_block] at this
theorem NC.gro (h : NC w k ao cap l) (G : Gro w w') : NC w' k ao cap l := h.below G h.lt
theorem NC.nil (w : World) (k : IntKind) : NC w k none 0 [] := ⟨Nat.le_refl _, fun _ => rfl, fun _ h => by (cases h), fun _ h => by (cases h)⟩
theorem NC.drop (h : NC w k ao cap l) (i : Nat) (hi : i ≤ l.length) : NC w k (if cap = i then ao else ao.map (·.add i)) (cap - i) (l.drop i) := by
  have hf := h.fit
  refine ⟨by rw [List.length_drop]; omega, fun hn => ?_, fun ad ha j hj => ?_, fun x hx => h.wf x (List.mem_of_mem_drop hx)⟩
  · split at hn
    · have := h.bare hn; omega
    · cases hao : ao with
      | none => have := h.bare hao; omega
      | some a => rw [hao] at hn; cases hn
  · rw [List.length_drop] at hj
    rw [if_neg (by omega)] at ha
    cases hao : ao with
    | none => rw [hao] at ha; cases ha
    | some a =>
      rw [hao] at ha
      cases ha
      rw [add_add, h.cell a hao (i + j) (by omega)]
      simp
theorem NC.take (h : NC w k ao cap l) (i : Nat) (hi : i ≤ l.length) : NC w k ao cap (l.take i) := by
  have hf := h.fit
  have hl : (l.take i).length = i := by rw [List.length_take]; omega
  refine ⟨by omega, h.bare, fun ad ha j hj => ?_, fun x hx => h.wf x (List.mem_of_mem_take hx)⟩
  rw [h.cell ad ha j (by omega), List.getD_eq_getElem?_getD, List.getD_eq_getElem?_getD, List.getElem?_take, if_pos (by omega)]
end
/-! ### Operations on rows -/
section
variable {o : Oper} {A : Act} {t e : TypeId} {k : IntKind} {b : Nat}
theorem run_size1 (T : NumT P t e k b) (w : World) : (sizeOf e).run P w = .ok 1 w := by
  obtain ⟨i, hi, _, hs, _⟩ := T.info
  simp [sizeOf, typeInfo, hi, hs]
theorem run_idx (T : NumT P t e k b) (x y : Operand) (ho : o.op = .indexAddr t x y) (ad : Addr) (n cap j : Nat) (hx : A.eval x = .slice (some ad) n cap) (hy : A.eval y = .int .i64 (j : Int)) (hj : j < n) (w : World) :
    (execOp A.eval o).run P w = .ok (.value (.pointer (some (ad.add j)))) w := by
  have h : (Instr.indexAt t (.slice (some ad) n cap) (.int .i64 (j : Int))).run P w = .ok (.pointer (some (ad.add j))) w := by
    simp only [Instr.indexAt, Sem.run_bind, run_underlying T.und, Result.andThen_ok]
    simp [asIntOf, hj, run_size1 T]
  unfold execOp
  simp only [ho, hx, hy, Sem.run_bind, h, Result.andThen_ok, Sem.run_pure]
theorem run_ld (T : NumT P t e k b) (x : Operand) (ho : o.op = .load e x) (p : Addr) (hx : A.eval x = .pointer (some p)) (w : World) (v : Value) (hc : w.cell? p = some v) :
    (execOp A.eval o).run P w = .ok (.value v) w := by
  have hagg : (isAgg e).run P w = .ok false w := by simp [isAgg, run_underlying T.ue]
  unfold execOp
  simp only [ho, hx]
  simp [go_sem, hc, hagg]
end
/-! ### Texts of bytes -/
def bas (l : List Nat) : ByteArray := ⟨(l.map UInt8.ofNat).toArray⟩
theorem push_all (ns : List Int) : ∀ s : ByteArray, ns.foldl (fun r n => r.push (UInt8.ofNat n.toNat)) s = ⟨s.data ++ (ns.map fun n => UInt8.ofNat n.toNat).toArray⟩ := by
  induction ns with
  | nil => intro s; cases s; simp
  | cons n ns ih =>
    intro s
    rw [List.foldl_cons, ih]
    cases s
    simp only [ByteArray.push, List.map_cons]
    congr 1
    apply Array.toList_inj.1
    simp
theorem loadCells_nc {w : World} {k : IntKind} {ad : Addr} {cap : Nat} {l : List Nat} (h : NC w k (some ad) cap l) : (loadCells ad l.length).run P w = .ok (l.map fun x : Nat => Value.int k (x : Int)).toArray w := by
  have := run_loadCells_list (P := P) w ad (l.map fun x : Nat => Value.int k (x : Int)) fun j v hv => by
    rw [List.getElem?_map] at hv
    by_cases hj : j < l.length
    · rw [List.getElem?_eq_getElem hj] at hv
      have hc := h.cell ad rfl j hj
      rw [List.getD_eq_getElem?_getD, List.getElem?_eq_getElem hj] at hc
      rw [hc]
      simpa using hv
    · rw [List.getElem?_eq_none (by omega)] at hv
      cases hv
  simpa using this
theorem run_toText {w : World} {t e : TypeId} {b : Nat} (T : NumT P t e .u8 b) (s : TypeId) (hs : P.underlying s = some .string) {ao : Option Addr} {cap : Nat} {l : List Nat} (h : NC w .u8 ao cap l) :
    (convert t s (.slice ao l.length cap)).run P w = .ok (.string (bas l)) w := by
  rw [run_convert_bytes_string w t s e ao l.length cap T.und T.ue hs]
  cases ao with
  | none =>
    have h1 := h.bare rfl
    have h2 := h.fit
    have : l = [] := List.eq_nil_of_length_eq_zero (by omega)
    subst this
    simp [Conv.bytesToString, bas]
    rfl
  | some ad =>
    rw [run_bytesToString w ad l.length cap (l.map fun x : Nat => (x : Int)) (by rw [loadCells_nc h]; simp [Function.comp_def])]
    rw [push_all]
    congr 3
    simp [Function.comp_def]
theorem run_text_op {o : Oper} {A : Act} {w : World} {t e : TypeId} {b : Nat} (T : NumT P t e .u8 b) (s : TypeId) (hs : P.underlying s = some .string) (x : Operand) (ho : o.op = .convert t s x) {ao : Option Addr} {cap : Nat} {l : List Nat} (hx : A.eval x = .slice ao l.length cap) (h : NC w .u8 ao cap l) :
    (execOp A.eval o).run P w = .ok (.value (.string (bas l))) w := by
  unfold execOp
  simp only [ho, hx, Sem.run_bind, run_toText T s hs h, Result.andThen_ok, Sem.run_pure]
theorem max_u8 : IntKind.u8.max = 255 := rfl
theorem bas_inj {l l' : List Nat} (h : ∀ x ∈ l, x < 256) (h' : ∀ x ∈ l', x < 256) (e : bas l = bas l') : l = l' := by
  unfold bas at e
  injection e with e
  have e2 := congrArg Array.toList e
  simp only at e2
  have : (l.map UInt8.ofNat).map UInt8.toNat = (l'.map UInt8.ofNat).map UInt8.toNat := by rw [e2]
  simp only [List.map_map] at this
  have f : ∀ m : List Nat, (∀ x ∈ m, x < 256) → m.map (UInt8.toNat ∘ UInt8.ofNat) = m := fun m hm => by
    conv => rhs; rw [← List.map_id m]
    apply List.map_congr_left
    intro x hx
    have := hm x hx
    simp [Function.comp, Nat.mod_eq_of_lt this]
  rw [f l h, f l' h'] at this
  exact this
theorem NC.lt256 {w : World} {ao : Option Addr} {cap : Nat} {l : List Nat} (h : NC w .u8 ao cap l) : ∀ x ∈ l, x < 256 := fun x hx => by
  have := h.wf x hx
  rw [max_u8] at this
  omega
theorem str_eq (a b : ByteArray) : (a.toList == b.toList) = decide (a = b) := by
  rw [ByteArray.toList_eq, ByteArray.toList_eq]
  by_cases h : a = b
  · subst h; simp
  · have h2 : a.data.toList ≠ b.data.toList := fun e => h (by
      have h3 := Array.toList_inj.1 e
      cases a
      cases b
      simp at h3
      rw [h3])
    simp [h]
    exact fun e => h2 (by rw [e])
theorem run_binop {o : Oper} {A : Act} {w : World} (op : BinOp) (t : TypeId) (x y : Operand) (t2 : TypeId) (ho : o.op = .binOp op t x y t2) (u v r : Value) (hx : A.eval x = u) (hy : A.eval y = v) (hg : (eqGuard op t x y u v).run P w = .ok () w) (h : (binOp op t u v).run P w = .ok r w) :
    (execOp A.eval o).run P w = .ok (.value r) w := by
  unfold execOp
  simp only [ho, hx, hy, Sem.run_bind, hg, h, Result.andThen_ok, Sem.run_pure]
/-! ### The call's own rows -/
structure OB (w : World) (e : TypeId) (k : IntKind) (B : Nat) (ao : Option Addr) (cap : Nat) (l : List Nat) : Prop where
  own : w.ownsRow B e 1 (.slice ao l.length cap) l.length (l.map fun r : Nat => Value.int k (r : Int))
  wf : ∀ x ∈ l, (x : Int) ≤ k.max
section
variable {w w' : World} {e : TypeId} {k : IntKind} {B : Nat} {ao : Option Addr} {cap : Nat} {l : List Nat}
theorem OB.nil (w : World) (e : TypeId) (k : IntKind) (B : Nat) : OB w e k B none 0 [] := ⟨World.ownsRow_nil _ _ _ _, fun _ h => by (cases h)⟩
theorem OB.nc (h : OB w e k B ao cap l) : NC w k ao cap l := by
  rcases h.own.2 with ⟨h1, h2⟩ | ⟨g, c, cur, h1, _, h2, h3, _, h4, h5⟩
  · injection h1 with e1 e2 e3
    subst e1 e3
    exact ⟨by omega, fun _ => rfl, fun _ h => by (cases h), h.wf⟩
  · injection h1 with e1 e2 e3
    subst e1 e3
    refine ⟨h3, fun h => by (cases h), fun ad ha j hj => ?_, h.wf⟩
    cases ha
    rw [add_at, Nat.zero_add, cell_of_row w g j _ e _ h2]
    have h6 : (l.map fun r : Nat => Value.int k (r : Int))[j]? = some (.int k (l.getD j 0 : Int)) := by
      rw [List.getElem?_map, List.getElem?_eq_getElem hj, List.getD_eq_getElem?_getD, List.getElem?_eq_getElem hj]
      rfl
    rw [← h5, List.getElem?_take, if_pos (by omega)] at h6
    simpa using h6
theorem OB.ge (h : OB w e k B ao cap l) : ∀ ad, ao = some ad → B ≤ ad.block ∧ ad.block < w.heap.size := fun ad ha => by
  subst ha
  exact h.own.lt _ rfl
theorem grown_of_below {w w' : World} (h : Below w.heap.size w w') : w.grownBy w' none := ⟨h.os, h.tape, h.output, h.size, fun k hk _ => h.block k hk⟩
theorem OB.gro (h : OB w e k B ao cap l) (G : Gro w w') : OB w' e k B ao cap l :=
  ⟨h.own.kept (grown_of_below G) (by cases hv : (Value.slice ao l.length cap).ownBlock <;> simp), h.wf⟩
theorem OB.mono (h : OB w e k B ao cap l) {B' : Nat} (hB : B' ≤ B) : OB w e k B' ao cap l := by
  refine ⟨⟨h.own.1, ?_⟩, h.wf⟩
  rcases h.own.2 with h1 | ⟨g, c, cur, h1, h2, h3⟩
  · exact .inl h1
  · exact .inr ⟨g, c, cur, h1, by omega, h3⟩
/-- What is written in another block leaves it alone. -/
theorem OB.apart (h : OB w e k B ao cap l) {g : Nat} {x : Obj} (S : Stored w w' g x) (hne : ∀ ad, ao = some ad → ad.block ≠ g) : OB w' e k B ao cap l :=
  ⟨h.own.kept (row := some g) ⟨S.os, S.tape, S.output, Nat.le_of_eq S.size.symm, fun k _ hk => S.old k (fun e => hk (by rw [e]))⟩ (by
    cases ao with
    | none => exact .inl rfl
    | some ad => exact .inr fun e => hne ad rfl (by simpa [Value.ownBlock] using e)), h.wf⟩
theorem below_of_grown {row : Option Nat} (h : w.grownBy w' row) (hB : ∀ k, row = some k → B ≤ k) (hs : B ≤ w.heap.size) : Below B w w' :=
  ⟨h.os, h.tape, h.output, h.size, fun k hk => h.block k (by omega) (fun e => by have := hB k e.symm; omega)⟩
/-- A new row. -/
theorem OB.made {g : Nat} {cs : Array Value} (hg : w.heap[g]? = some (.cells cs e (0, 0))) (hB : B ≤ g) (hl : l.length ≤ cap) (hm : cap ≤ maxLen) (hc : cs.size = cap) (ht : cs.toList.take l.length = l.map fun r : Nat => Value.int k (r : Int)) (hw : ∀ x ∈ l, (x : Int) ≤ k.max) : OB w e k B (some ⟨g, 0, none⟩) cap l :=
  ⟨⟨by simp, .inr ⟨g, cap, cs, rfl, hB, hg, hl, hm, by omega, by rw [Nat.mul_one]; exact ht⟩⟩, hw⟩
end
/-- Onto the call's own row. -/
theorem wpList_app {ops : Array Oper} {rest : List Oper} {o : Oper} {a : Act} {w : World} {Q : Exit → Act → World → Prop} {t e : TypeId} {k : IntKind} {b : Nat} (T : NumT P t e k b) (dst : Nat) (hd : o.dst = some dst) (hgd : o.guard = none) (s x : Operand)
    (ho : o.op = .call { callee := .builtin .append, args := #[s, x], argTypes := #[t, t] }) {B : Nat} {ao : Option Addr} {cap : Nat} {l : List Nat} (hs : a.eval s = .slice ao l.length cap) (hown : OB w e k B ao cap l)
    {ao' : Option Addr} {cap' : Nat} {l' : List Nat} (hx : a.eval x = .slice ao' l'.length cap') (hsrc : NC w k ao' cap' l') (hb : (l.length + l'.length) * b ≤ 140737488355328) (hb0 : 0 < b) (hB : B ≤ w.heap.size)
    (h : ∀ ao2 cap2 L w', Shut (L = l ++ l') → OB w' e k B ao2 cap2 L → Below B w w' → wpList P ops Q rest (a.put (some dst) (.slice ao2 L.length cap2)) w') : wpList P ops Q (o :: rest) a w := by
  obtain ⟨i, hi, hz, hsz, hby⟩ := T.info
  have hle : l.length + l'.length ≤ 140737488355328 := Nat.le_trans (Nat.le_mul_of_pos_right _ hb0) hb
  cases ao' with
  | none =>
    have h1 := hsrc.bare rfl
    have h2 := hsrc.fit
    have h3 : l' = [] := List.eq_nil_of_length_eq_zero (by omega)
    subst h3
    subst h1
    refine wpList_append_own_none hgd s x t ho B e i 1 T.und hi _ l.length _ hs hown.own hx ?_
    rw [hd]
    exact h ao cap l w ⟨by simp⟩ hown (Below.refl _ _)
  | some ad =>
    refine wpList_append_own w hgd s x t ho B e i (.int k 0) 1 b T.und hi hz hsz hby rfl (by decide) _ l.length _ hs hown.own ad l'.length cap' (l'.map fun r : Nat => Value.int k (r : Int)) hx (by simp) (fun j u hu => ?_) (fun u hu => ?_) (by simp only [maxLen]; omega) hb hB ?_
    · rw [List.getElem?_map] at hu
      by_cases hj : j < l'.length
      · rw [List.getElem?_eq_getElem hj] at hu
        have hc := hsrc.cell ad rfl j hj
        rw [List.getD_eq_getElem?_getD, List.getElem?_eq_getElem hj] at hc
        rw [hc]
        simpa using hu
      · rw [List.getElem?_eq_none (by omega)] at hu
        cases hu
    · obtain ⟨r, _, rfl⟩ := List.mem_map.1 hu; rfl
    · intro v' w' h1 h2 _
      have hB' : ∀ q, (Value.slice ao l.length cap).ownBlock = some q → B ≤ q := fun q hq => (hown.own.lt q hq).1
      have hbel := below_of_grown h2 hB' hB
      rw [hd]
      rw [← List.map_append] at h1
      have hl : l.length + l'.length = (l ++ l').length := by simp
      rw [hl] at h1
      have hwf : ∀ x ∈ l ++ l', (x : Int) ≤ k.max := fun x hx => by
        rcases List.mem_append.1 hx with hx | hx
        · exact hown.wf x hx
        · exact hsrc.wf x hx
      rcases h1.2 with ⟨rfl, h4⟩ | ⟨g, c, cur, rfl, _⟩
      · have := h none 0 (l ++ l') w' ⟨rfl⟩ ⟨by rw [h4] at h1; rw [h4]; exact h1, hwf⟩ hbel
        rw [h4] at this
        exact this
      · exact h (some ⟨g, 0, none⟩) c (l ++ l') w' ⟨rfl⟩ ⟨h1, hwf⟩ hbel
end
end Go.Proofs.Ytjahegiopigblaa
