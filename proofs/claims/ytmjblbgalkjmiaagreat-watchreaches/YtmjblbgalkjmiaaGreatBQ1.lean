/- Rows of one's own that may have been cut; pipes; a region in whatever order with one operation that changes some blocks. -/
import Derived.Test.YtmjblbgalkjmiaaGreatBQ0
import Derived.Test.YtmjblbgalkjmiaaGreatBLaw6
namespace Go.Proofs.YtmjblbgalkjmiaaGreat
open Go.RowKit
section
variable {P : Program} {o : Oper} {A : Act} {t e : TypeId} {sz b : Nat} {z : Value}
theorem sliceAtX_run (T : RowT P t e sz b z) (v : Value) (x y z : Option Value) (w : World) : (Instr.sliceAt t v x y z).run P w = (Instr.slice t v x y z).run P w := by
  simp only [Instr.sliceAt, Sem.run_bind, run_underlying T.und, Result.andThen_ok]
theorem run_cutX (T : RowT P t e sz b z) (x y : Operand) (ho : o.op = .slice t x (some y) none none) (ao : Option Addr) (n cap i : Nat) (hx : A.eval x = .slice ao n cap) (hy : A.eval y = .int .i64 (i : Int)) (hi : i ≤ n) (w : World) :
    (execOp A.eval o).run P w = .ok (.value (.slice (if cap = i then ao else ao.map (·.add (i * sz))) (n - i) (cap - i))) w := by
  have h : (Instr.slice t (.slice ao n cap) (some (.int .i64 (i : Int))) none none).run P w = .ok (.slice (if cap = i then ao else ao.map (·.add (i * sz))) (n - i) (cap - i)) w := by
    simp only [Instr.slice, Sem.run_bind, run_underlying T.und, Result.andThen_ok, Instr.sliceBounds, Instr.sliceBound, asIntOf, Sem.run_pure, run_sizeX T]
    have h2 : (0 : Int) ≤ (i : Int) ∧ (i : Int) ≤ (n : Int) := by omega
    simp [h2]
  unfold execOp
  simp only [ho, hx, hy, Option.map_some, Option.map_none, Sem.run_bind, sliceAtX_run T, h, Result.andThen_ok, Sem.run_pure]
end
/-- A row of one's own, of which the first and the last cells may have been cut off. -/
structure OY (w : World) (e : TypeId) (sz B : Nat) (ao : Option Addr) (cap n : Nat) (cs : List Value) : Prop where
  len : cs.length = n * sz
  row : (ao = none ∧ cap = 0 ∧ n = 0) ∨ ∃ g d cur, ao = some ⟨g, d, none⟩ ∧ B ≤ g ∧ w.heap[g]? = some (.cells cur e (0, 0)) ∧ n ≤ cap ∧ cap ≤ maxLen ∧ d + cap * sz ≤ cur.size ∧ (cur.toList.drop d).take (n * sz) = cs
  one : ∀ v ∈ cs, v.oneCell' = true
section
variable {w w' : World} {e : TypeId} {sz B : Nat} {ao : Option Addr} {cap n : Nat} {cs : List Value}
theorem OY.nil (w : World) (e : TypeId) (sz B : Nat) : OY w e sz B none 0 0 [] := ⟨by simp, .inl ⟨rfl, rfl, rfl⟩, fun _ h => by cases h⟩
theorem OY.xc (h : OY w e sz B ao cap n cs) : XC w sz ao cap n cs := by
  rcases h.row with ⟨h1, h2, h3⟩ | ⟨g, d, cur, h1, _, h2, h3, _, h4, h5⟩
  · exact ⟨h.len, by omega, fun _ => h2, fun _ ha => by (rw [h1] at ha; cases ha), h.one⟩
  · refine ⟨h.len, h3, fun hn => by (rw [h1] at hn; cases hn), fun ad ha j v hv => ?_, h.one⟩
    rw [h1] at ha
    cases ha
    rw [add_at, cell_of_row w g (d + j) _ e _ h2]
    have hj := (List.getElem?_eq_some_iff.1 hv).1
    have hl := h.len
    rw [← h5, List.getElem?_take, if_pos (by omega), List.getElem?_drop] at hv
    simpa using hv
theorem OY.at (h : OY w e sz B ao cap n cs) : ∀ k ∈ blk ao, B ≤ k ∧ ∃ cur, w.heap[k]? = some (.cells cur e (0, 0)) := fun k hk => by
  obtain ⟨ad, rfl, rfl⟩ := mem_blk.1 hk
  rcases h.row with ⟨h1, _, _⟩ | ⟨g, d, cur, h1, h2, h3, _⟩
  · cases h1
  · cases h1
    exact ⟨h2, cur, h3⟩
theorem OY.lt (h : OY w e sz B ao cap n cs) : ∀ k ∈ blk ao, k < w.heap.size := fun k hk => by
  obtain ⟨_, cur, hc⟩ := h.at k hk
  exact lt_of_heap hc
theorem OY.base (h : OY w e sz B ao cap n cs) : ∀ k ∈ blk ao, B ≤ k := fun k hk => (h.at k hk).1
theorem OY.ne (h : OY w e sz B ao cap n cs) {k : Nat} {c : Array Value} {t : TypeId} (hk : w.heap[k]? = some (.cells c t (0, 0))) (ht : t ≠ e) : k ∉ blk ao := fun hm => by
  obtain ⟨_, cur, hc⟩ := h.at k hm
  exact ne_type hk hc ht rfl
theorem OY.gros {S : List Nat} (h : OY w e sz B ao cap n cs) (G : GroS S w w') (hs : ∀ k ∈ blk ao, k ∉ S) : OY w' e sz B ao cap n cs := by
  refine ⟨h.len, ?_, h.one⟩
  rcases h.row with h1 | ⟨g, d, cur, h1, h2, h3, h4⟩
  · exact .inl h1
  · exact .inr ⟨g, d, cur, h1, h2, G.has h3 (hs g (mem_blk.2 ⟨_, h1, rfl⟩)), h4⟩
theorem OY.gro (h : OY w e sz B ao cap n cs) (G : Gro w w') : OY w' e sz B ao cap n cs := h.gros (S := []) (.of G) (fun _ _ => by simp)
theorem OY.mono (h : OY w e sz B ao cap n cs) {B' : Nat} (hB : B' ≤ B) : OY w e sz B' ao cap n cs := by
  refine ⟨h.len, ?_, h.one⟩
  rcases h.row with h1 | ⟨g, d, cur, h1, h2, h3⟩
  · exact .inl h1
  · exact .inr ⟨g, d, cur, h1, by omega, h3⟩
/-- The first ones cut off. -/
theorem OY.drop (h : OY w e sz B ao cap n cs) (i : Nat) (hi : i ≤ n) : OY w e sz B (if cap = i then ao else ao.map (·.add (i * sz))) (cap - i) (n - i) (cs.drop (i * sz)) := by
  have hl := h.len
  refine ⟨by rw [List.length_drop, hl, Nat.sub_mul], ?_, fun v hv => h.one v (List.mem_of_mem_drop hv)⟩
  rcases h.row with ⟨h1, h2, h3⟩ | ⟨g, d, cur, h1, h2, h3, h4, h5, h6, h7⟩
  · refine .inl ⟨?_, by omega, by omega⟩
    rw [h1]
    split <;> rfl
  · have hs : (cap - i) * sz = cap * sz - i * sz := Nat.sub_mul _ _ _
    have hs2 : (n - i) * sz = n * sz - i * sz := Nat.sub_mul _ _ _
    have hm : i * sz ≤ n * sz := Nat.mul_le_mul_right _ hi
    have hm2 : n * sz ≤ cap * sz := Nat.mul_le_mul_right _ h4
    by_cases hc : cap = i
    · have hn : n = i := by omega
      refine .inr ⟨g, d, cur, by rw [if_pos hc]; exact h1, h2, h3, by omega, by omega, by omega, ?_⟩
      rw [hn, Nat.sub_self, Nat.zero_mul, List.take_zero, List.drop_of_length_le (by rw [hl, hn]; exact Nat.le_refl _)]
    · refine .inr ⟨g, d + i * sz, cur, ?_, h2, h3, by omega, by omega, by omega, ?_⟩
      · rw [if_neg hc, h1, Option.map_some, add_at]
      · rw [← h7, List.drop_take, hs2, List.drop_drop]
/-- A cell of it written. -/
theorem OY.set (h : OY w e sz B ao cap n cs) {j : Nat} (hj : j < n * sz) (v : Value) (hv : v.oneCell' = true) : ∃ g d cur, ao = some ⟨g, d, none⟩ ∧ B ≤ g ∧ w.heap[g]? = some (.cells cur e (0, 0)) ∧ d + j < cur.size ∧
    ∀ w', Stored w w' g (.cells (splice cur (d + j) #[v]) e (0, 0)) → OY w' e sz B ao cap n (cs.set j v) := by
  rcases h.row with ⟨_, _, h3⟩ | ⟨g, d, cur, h1, h2, h3, h4, h5, h6, h7⟩
  · rw [h3, Nat.zero_mul] at hj
    omega
  have hm2 : n * sz ≤ cap * sz := Nat.mul_le_mul_right _ h4
  have hlt : d + j < cur.size := by omega
  refine ⟨g, d, cur, h1, h2, h3, hlt, fun w' St => ⟨by rw [List.length_set]; exact h.len, .inr ⟨g, d, _, h1, h2, St.new, h4, h5, ?_, ?_⟩, fun x hx => ?_⟩⟩
  · have : (splice cur (d + j) #[v]).size = cur.size := by
      simp only [splice, List.size_toArray, List.length_append, List.length_take, List.length_drop, Array.length_toList, List.length_cons, List.length_nil]
      omega
    omega
  · have e1 : (splice cur (d + j) #[v]).toList = cur.toList.set (d + j) v := by
      rw [List.set_eq_take_append_cons_drop, if_pos (by simpa using hlt)]
      simp [splice]
    rw [e1, ← h7]
    apply List.ext_getElem?
    intro k
    simp only [List.getElem?_take, List.getElem?_drop, List.getElem?_set, List.length_take, List.length_drop, Array.length_toList]
    by_cases hk : k < n * sz
    · by_cases hkj : j = k
      · subst hkj
        simp [hk, hlt]
        omega
      · have : ¬ (d + j = d + k) := by omega
        simp [hk, hkj]
    · have : ¬ (j = k) := by omega
      simp [hk, this]
  · rcases List.mem_or_eq_of_mem_set hx with hx | rfl
    · exact h.one x hx
    · exact hv
end
/-- What a call leaves of a row: it, or a new one. -/
def Kept (M : Nat) (ao ao2 : Option Addr) : Prop := ∀ k ∈ blk ao2, k ∈ blk ao ∨ M ≤ k
section
variable {P : Program} {t e : TypeId} {sz b : Nat} {z : Value}
/-- There is room, at a place within the block. -/
theorem append_roomD (w : World) (t ty e : TypeId) (i : TypeInfo) (ht : P.underlying t = some (.slice e)) (hi : P.info? e = some i)
    (g d sLen sCap : Nat) (cur : Array Value) (hg : w.heap[g]? = some (.cells cur e (0, 0)))
    (a : Addr) (m c : Nat) (news : List Value) (hl : news.length = m * i.size) (hnews : ∀ j u, news[j]? = some u → w.cell? (a.add j) = some u) (h1 : ∀ u ∈ news, u.oneCell' = true)
    (hroom : sLen + m ≤ sCap) (hfit : d + sLen * i.size + news.length ≤ cur.size) :
    (Builtin.append_ #[t, t] ty #[.slice (some ⟨g, d, none⟩) sLen sCap, .slice (some a) m c]).run P w =
      .ok (.slice (some ⟨g, d, none⟩) (sLen + m) sCap) (w.setRow g (cur.toList.take (d + sLen * i.size) ++ news ++ cur.toList.drop (d + sLen * i.size + news.length)).toArray) := by
  have hf := run_firstCells_some (P := P) w i.size m a m c news hl hnews
  have hst := run_storeCells_at P g (d + sLen * i.size) e news 0 cur w hg (by simpa using hfit) h1
  simp only [Nat.add_zero] at hst
  simp [Builtin.append_, run_underlying ht, sizeOf, typeInfo, hi, Builtin.lenOf, hroom, hf, Addr.add_lit, hst]
/-- Onto a row of one's own: its block alone changes, or none. -/
theorem run_appY (T : RowT P t e sz b z) (ty : TypeId) (w : World) {B : Nat} {ao : Option Addr} {cap n : Nat} {cs : List Value} (hown : OY w e sz B ao cap n cs) {ao' : Option Addr} {cap' m : Nat} {cs' : List Value} (hsrc : XC w sz ao' cap' m cs') (hb : (n + m) * b ≤ 140737488355328) (hb0 : 0 < b) (hB : B ≤ w.heap.size) :
    ∃ ao2 cap2 w', (Builtin.append_ #[t, t] ty #[.slice ao n cap, .slice ao' m cap']).run P w = .ok (.slice ao2 (n + m) cap2) w' ∧ OY w' e sz B ao2 cap2 (n + m) (cs ++ cs') ∧ GroS (blk ao) w w' ∧ Kept w.heap.size ao ao2 ∧ (cap = n → Gro w w') := by
  obtain ⟨i, hi, hz, hsz, hby⟩ := T.info
  subst hsz hby
  have hle : n + m ≤ 140737488355328 := Nat.le_trans (Nat.le_mul_of_pos_right _ hb0) hb
  have hl := hown.len
  have hl' := hsrc.len
  have hone : ∀ v ∈ cs ++ cs', v.oneCell' = true := fun v hv => by
    rcases List.mem_append.1 hv with hv | hv
    · exact hown.one v hv
    · exact hsrc.one v hv
  have hlen : (cs ++ cs').length = (n + m) * i.size := by rw [List.length_append, hl, hl', Nat.add_mul]
  have h63 : n + m ≤ maxLen := by simp only [maxLen]; omega
  by_cases hm : m = 0
  · subst hm
    have h0 : cs' = [] := List.eq_nil_of_length_eq_zero (by simpa using hl')
    subst h0
    have hnc : n ≤ cap := hown.xc.fit
    refine ⟨ao, cap, w, ?_, by simpa using hown, .refl _ _, fun k hk => .inl hk, fun _ => Gro.refl _⟩
    have hf : (Builtin.firstCells i.size 0 (.slice ao' 0 cap')).run P w = .ok #[] w := by
      cases ao' with
      | none => exact run_firstCells_none (P := P) w _ _ _ _
      | some a => exact run_firstCells_some (P := P) w i.size 0 a 0 cap' [] (by simp) (fun j v hv => by simp at hv)
    cases ao with
    | none => simp [Builtin.append_, run_underlying T.und, sizeOf, typeInfo, hi, Builtin.lenOf, hnc, hf]
    | some a => simp [Builtin.append_, run_underlying T.und, sizeOf, typeInfo, hi, Builtin.lenOf, hnc, hf, storeCells]
  have hsrc' : ∃ a, ao' = some a := hsrc.some (by omega)
  obtain ⟨a, rfl⟩ := hsrc'
  have hnews : ∀ j u, cs'[j]? = some u → w.cell? (a.add j) = some u := fun j u hu => hsrc.cell a rfl j u hu
  have grown : ∀ (old : Nat),
      OY (w.drew.alloc (.cells (cs.toArray ++ cs'.toArray ++ Builtin.zeroCells z.cells (grownCap w (n + m) old e - (n + m))) e)) e i.size B (some ⟨w.heap.size, 0, none⟩) (grownCap w (n + m) old e) (n + m) (cs ++ cs') ∧
      Gro w (w.drew.alloc (.cells (cs.toArray ++ cs'.toArray ++ Builtin.zeroCells z.cells (grownCap w (n + m) old e - (n + m))) e)) := by
    intro old
    have hge := grownCap_ge w (n + m) old e
    have hcm : grownCap w (n + m) old e ≤ maxLen := grownCap_le_maxLen w (n + m) old e h63
    refine ⟨⟨hlen, .inr ⟨w.heap.size, 0, _, rfl, hB, heap_alloc_new w.drew _, hge, hcm, ?_, ?_⟩, hone⟩, (Gro.refl w).drew.trans (gro_alloc _ _)⟩
    · simp only [Array.size_append, List.size_toArray, size_zeroCells, T.zs, hl, hl', ← Nat.add_mul, Nat.zero_add]
      apply Nat.mul_le_mul_right
      omega
    · simp only [Array.toList_append, List.append_assoc, List.drop_zero]
      rw [← List.append_assoc, ← hlen]
      exact List.take_left
  have kept : Kept w.heap.size ao (some ⟨w.heap.size, 0, none⟩) := fun k hk => by
    obtain ⟨ad, h1, h2⟩ := mem_blk.1 hk
    cases h1
    exact .inr (by rw [← h2]; exact Nat.le_refl _)
  rcases hown.row with ⟨rfl, rfl, rfl⟩ | ⟨g, d, cur, rfl, hbg, hg, hnc, hcm, hcs, htake⟩
  · have hx : cs = [] := List.eq_nil_of_length_eq_zero (by simpa using hl)
    subst hx
    have hr := run_append_nil (P := P) w t ty e i z T.und hi hz a m cap' cs' hl' hnews (by omega) (by omega) (by have hb := hb; simp only [Nat.zero_add] at hb; omega)
    have hgr := grown 0
    simp only [Nat.zero_add, List.nil_append, Array.empty_append] at hgr ⊢
    exact ⟨_, _, _, hr, hgr.1, .of hgr.2, kept, fun _ => hgr.2⟩
  · by_cases hroom : n + m ≤ cap
    · have hmul : (n + m) * i.size ≤ cap * i.size := Nat.mul_le_mul_right _ hroom
      have hfit : d + n * i.size + cs'.length ≤ cur.size := by rw [hl', Nat.add_assoc, ← Nat.add_mul]; omega
      have hr := append_roomD (P := P) w t ty e i T.und hi g d n cap cur hg a m cap' cs' hl' hnews hsrc.one hroom hfit
      refine ⟨some ⟨g, d, none⟩, cap, _, hr, ⟨hlen, .inr ⟨g, d, _, rfl, hbg, setRow_heap w g cur _ e _ hg, hroom, hcm, ?_, ?_⟩, hone⟩, ⟨rfl, rfl, rfl, by simp, fun k _ hk => setRow_other w g k _ (fun e => hk (mem_blk.2 ⟨_, rfl, e.symm⟩))⟩, fun k hk => .inl hk, fun e => by omega⟩
      · simp only [List.size_toArray, List.length_append, List.length_take, List.length_drop, Array.length_toList]
        omega
      · have hdl : (cur.toList.take d).length = d := by simp; omega
        rw [List.take_add, htake, List.append_assoc, List.append_assoc, List.drop_left' hdl, ← List.append_assoc, ← hlen]
        exact List.take_left
    · have holds : ∀ j u, cs[j]? = some u → w.cell? ((⟨g, d, none⟩ : Addr).add j) = some u := hown.xc.cell _ rfl
      have hr := run_append_grow (P := P) w t ty e i z T.und hi hz ⟨g, d, none⟩ n cap cs hl holds a m cap' cs' hl' hnews (by omega) (by omega) (growslice_fits (by omega) hb)
      have hgr := grown cap
      exact ⟨_, _, _, hr, hgr.1, .of hgr.2, kept, fun _ => hgr.2⟩
theorem exec_app {o : Oper} {A : Act} {w w' : World} {t : TypeId} {u v r : Value} (s x : Operand) (ho : o.op = .call { callee := .builtin .append, args := #[s, x], argTypes := #[t, t] }) (hs : A.eval s = u) (hx : A.eval x = v) (hr : (Builtin.append_ #[t, t] o.type #[u, v]).run P w = .ok r w') : (execOp A.eval o).run P w = .ok (.value r) w' := by
  unfold execOp
  simp only [ho, resolve, invoke, builtin, Sem.run_bind, Sem.run_pure, Result.andThen_ok, List.map_toArray, List.map_cons, List.map_nil, hs, hx, hr]
/-- The same, as a step of a walk. -/
theorem s_appY {ops : Array Oper} {rest : List Oper} {o : Oper} {T : List Value} {ds : List Deferred} {w : World} {Q : Exit → Act → World → Prop} (TT : RowT P t e sz b z) (dst : Nat) (hd : o.dst = some dst) (hgd : o.guard = none) (s x : Operand) (ho : o.op = .call { callee := .builtin .append, args := #[s, x], argTypes := #[t, t] })
    {B : Nat} {ao : Option Addr} {cap n : Nat} {cs : List Value} (hs : (⟨T.toArray, ds⟩ : Act).eval s = .slice ao n cap) (hown : OY w e sz B ao cap n cs) {ao' : Option Addr} {cap' m : Nat} {cs' : List Value} (hx : (⟨T.toArray, ds⟩ : Act).eval x = .slice ao' m cap') (hsrc : XC w sz ao' cap' m cs') (hb : (n + m) * b ≤ 140737488355328) (hb0 : 0 < b) (hB : B ≤ w.heap.size)
    (h : ∀ ao2 cap2 w', OY w' e sz B ao2 cap2 (n + m) (cs ++ cs') → GroS (blk ao) w w' → Kept w.heap.size ao ao2 → wpList P ops Q rest ⟨(T.set dst (.slice ao2 (n + m) cap2)).toArray, ds⟩ w') : wpList P ops Q (o :: rest) ⟨T.toArray, ds⟩ w := by
  obtain ⟨ao2, cap2, w', hr, h1, h2, h3, _⟩ := run_appY TT o.type w hown hsrc hb hb0 hB
  refine wpList_plain hgd fun K hK => ?_
  unfold Oper.wp
  rw [exec_app s x ho hs hx hr, Oper.upon_value, hd, put_list]
  exact hK _ _ (h ao2 cap2 w' h1 h2 h3)
end
/-! ### A region in whatever order, with one operation that changes some blocks -/
end Go.Proofs.YtmjblbgalkjmiaaGreat
