import Derived.Test.YtgfnjekpafempaaGreatBQ0
import Derived.Test.YtgfnjekpafempaaGreatBB1
import Derived.Test.YtgfnjekpafempaaGreatBB2
namespace Go.Proofs.YtgfnjekpafempaaGreat
open Go.Proofs.Tryz
open Go.RowKit
structure OY (w : World) (e : TypeId) (sz B : Nat) (ao : Option Addr) (cap n : Nat) (cs : List Value) : Prop where
  len : cs.length = n * sz
  row : (ao = none ∧ cap = 0 ∧ n = 0) ∨ ∃ g d cur, ao = some ⟨g, d, none⟩ ∧ B ≤ g ∧ w.heap[g]? = some (.cells cur e (0, 0)) ∧ n ≤ cap ∧ cap ≤ maxLen ∧ d + cap * sz ≤ cur.size ∧ (cur.toList.drop d).take (n * sz) = cs
  one : ∀ v ∈ cs, v.oneCell' = true
section
variable {w w' : World} {e : TypeId} {sz B : Nat} {ao : Option Addr} {cap n : Nat} {cs : List Value}
theorem OY.nil (w : World) (e : TypeId) (sz B : Nat) : OY w e sz B none 0 0 [] := ⟨by simp, .inl ⟨rfl, rfl, rfl⟩, fun _ h => by cases h⟩
theorem OY.xc (h : OY w e sz B ao cap n cs) : XC w sz ao cap n cs := by
  rcases h.row with ⟨h1, h2, h3⟩ | ⟨g, d, cur, h1, _, h2, h3, _, h4, h5⟩
  · exact ⟨h.len, by omega, fun _ => h2, fun _ ha => by (rw [h1] at ha; cases ha), h.one⟩
  · refine ⟨h.len, h3, fun hn => by (rw [h1] at hn; cases hn), fun ad ha j v hv => ?_, h.one⟩
    rw [h1] at ha
    cases ha
    rw [zQ, cell_of_row w g (d + j) _ e _ h2]
    have hj := (List.getElem?_eq_some_iff.1 hv).1
    have hl := h.len
    rw [← h5, List.getElem?_take, if_pos (by omega), List.getElem?_drop] at hv
    simpa using hv
theorem OY.at (h : OY w e sz B ao cap n cs) : ∀ k ∈ blk ao, B ≤ k ∧ ∃ cur, w.heap[k]? = some (.cells cur e (0, 0)) := fun k hk => by
  obtain ⟨ad, rfl, rfl⟩ := mem_blk.1 hk
  rcases h.row with ⟨h1, _, _⟩ | ⟨g, d, cur, h1, h2, h3, _⟩
  · cases h1
  · cases h1
    exact ⟨h2, cur, h3⟩
theorem OY.lt (h : OY w e sz B ao cap n cs) : ∀ k ∈ blk ao, k < w.heap.size := fun k hk => by
  obtain ⟨_, cur, hc⟩ := h.at k hk
  exact ji hc
theorem OY.base (h : OY w e sz B ao cap n cs) : ∀ k ∈ blk ao, B ≤ k := fun k hk => (h.at k hk).1
theorem OY.ne (h : OY w e sz B ao cap n cs) {k : Nat} {c : Array Value} {t : TypeId} (hk : w.heap[k]? = some (.cells c t (0, 0))) (ht : t ≠ e) : k ∉ blk ao := fun hm => by
  obtain ⟨_, cur, hc⟩ := h.at k hm
  exact jB hk hc ht rfl
theorem OY.gros {S : List Nat} (h : OY w e sz B ao cap n cs) (G : GroS S w w') (hs : ∀ k ∈ blk ao, k ∉ S) : OY w' e sz B ao cap n cs := by
  refine ⟨h.len, ?_, h.one⟩
  rcases h.row with h1 | ⟨g, d, cur, h1, h2, h3, h4⟩
  · exact .inl h1
  · exact .inr ⟨g, d, cur, h1, h2, G.has h3 (hs g (mem_blk.2 ⟨_, h1, rfl⟩)), h4⟩
theorem OY.gro (h : OY w e sz B ao cap n cs) (G : Gro w w') : OY w' e sz B ao cap n cs := h.gros (S := []) (.of G) (fun _ _ => by simp)
theorem OY.mono (h : OY w e sz B ao cap n cs) {B' : Nat} (hB : B' ≤ B) : OY w e sz B' ao cap n cs := by
  refine ⟨h.len, ?_, h.one⟩
  rcases h.row with h1 | ⟨g, d, cur, h1, h2, h3⟩
  · exact .inl h1
  · exact .inr ⟨g, d, cur, h1, by omega, h3⟩
theorem OY.drop (h : OY w e sz B ao cap n cs) (i : Nat) (hi : i ≤ n) : OY w e sz B (if cap = i then ao else ao.map (·.add (i * sz))) (cap - i) (n - i) (cs.drop (i * sz)) := by
  have hl := h.len
  refine ⟨by rw [List.length_drop, hl, Nat.sub_mul], ?_, fun v hv => h.one v (List.mem_of_mem_drop hv)⟩
  rcases h.row with ⟨h1, h2, h3⟩ | ⟨g, d, cur, h1, h2, h3, h4, h5, h6, h7⟩
  · refine .inl ⟨?_, by omega, by omega⟩
    rw [h1]
    split <;> rfl
  · have hs : (cap - i) * sz = cap * sz - i * sz := Nat.sub_mul _ _ _
    have hs2 : (n - i) * sz = n * sz - i * sz := Nat.sub_mul _ _ _
    have hm : i * sz ≤ n * sz := Nat.mul_le_mul_right _ hi
    have hm2 : n * sz ≤ cap * sz := Nat.mul_le_mul_right _ h4
    by_cases hc : cap = i
    · have hn : n = i := by omega
      refine .inr ⟨g, d, cur, by rw [if_pos hc]; exact h1, h2, h3, by omega, by omega, by omega, ?_⟩
      rw [hn, Nat.sub_self, Nat.zero_mul, List.take_zero, List.drop_of_length_le (by rw [hl, hn]; exact Nat.le_refl _)]
    · refine .inr ⟨g, d + i * sz, cur, ?_, h2, h3, by omega, by omega, by omega, ?_⟩
      · rw [if_neg hc, h1, Option.map_some, zQ]
      · rw [← h7, List.drop_take, hs2, List.drop_drop]
theorem OY.set (h : OY w e sz B ao cap n cs) {j : Nat} (hj : j < n * sz) (v : Value) (hv : v.oneCell' = true) : ∃ g d cur, ao = some ⟨g, d, none⟩ ∧ B ≤ g ∧ w.heap[g]? = some (.cells cur e (0, 0)) ∧ d + j < cur.size ∧
    ∀ w', Stored w w' g (.cells (splice cur (d + j) #[v]) e (0, 0)) → OY w' e sz B ao cap n (cs.set j v) := by
  rcases h.row with ⟨_, _, h3⟩ | ⟨g, d, cur, h1, h2, h3, h4, h5, h6, h7⟩
  · rw [h3, Nat.zero_mul] at hj
    omega
  have hm2 : n * sz ≤ cap * sz := Nat.mul_le_mul_right _ h4
  have hlt : d + j < cur.size := by omega
  refine ⟨g, d, cur, h1, h2, h3, hlt, fun w' St => ⟨by rw [List.length_set]; exact h.len, .inr ⟨g, d, _, h1, h2, St.new, h4, h5, ?_, ?_⟩, fun x hx => ?_⟩⟩
  · have : (splice cur (d + j) #[v]).size = cur.size := by
      simp only [splice, List.size_toArray, List.length_append, List.length_take, List.length_drop, Array.length_toList, List.length_cons, List.length_nil]
      omega
    omega
  · have e1 : (splice cur (d + j) #[v]).toList = cur.toList.set (d + j) v := by
      rw [List.set_eq_take_append_cons_drop, if_pos (by simpa using hlt)]
      simp [splice]
    rw [e1, ← h7]
    apply List.ext_getElem?
    intro k
    simp only [List.getElem?_take, List.getElem?_drop, List.getElem?_set, List.length_take, List.length_drop, Array.length_toList]
    by_cases hk : k < n * sz
    · by_cases hkj : j = k
      · subst hkj
        simp [hk, hlt]
        omega
      · have : ¬ (d + j = d + k) := by omega
        simp [hk, hkj]
    · have : ¬ (j = k) := by omega
      simp [hk, this]
  · rcases List.mem_or_eq_of_mem_set hx with hx | rfl
    · exact h.one x hx
    · exact hv
end
def Kept (M : Nat) (ao ao2 : Option Addr) : Prop := ∀ k ∈ blk ao2, k ∈ blk ao ∨ M ≤ k
section
variable {P : Program} {t e : TypeId} {sz b : Nat} {z : Value}
theorem Vx (w : World) (t ty e : TypeId) (i : TypeInfo) (ht : P.underlying t = some (.slice e)) (hi : P.info? e = some i)
    (g d sLen sCap : Nat) (cur : Array Value) (hg : w.heap[g]? = some (.cells cur e (0, 0)))
    (a : Addr) (m c : Nat) (news : List Value) (hl : news.length = m * i.size) (hnews : ∀ j u, news[j]? = some u → w.cell? (a.add j) = some u) (h1 : ∀ u ∈ news, u.oneCell' = true)
    (hroom : sLen + m ≤ sCap) (hfit : d + sLen * i.size + news.length ≤ cur.size) :
    (Builtin.append_ #[t, t] ty #[.slice (some ⟨g, d, none⟩) sLen sCap, .slice (some a) m c]).run P w =
      .ok (.slice (some ⟨g, d, none⟩) (sLen + m) sCap) (w.setRow g (cur.toList.take (d + sLen * i.size) ++ news ++ cur.toList.drop (d + sLen * i.size + news.length)).toArray) := by
  have hf := run_firstCells_some (P := P) w i.size m a m c news hl hnews
  have hst := run_storeCells_at P g (d + sLen * i.size) e news 0 cur w hg (by simpa using hfit) h1
  simp only [Nat.add_zero] at hst
  simp [Builtin.append_, run_underlying ht, sizeOf, typeInfo, hi, Builtin.lenOf, hroom, hf, Addr.add_lit, hst]
theorem Ua (T : RowT P t e sz b z) (ty : TypeId) (w : World) {B : Nat} {ao : Option Addr} {cap n : Nat} {cs : List Value} (hown : OY w e sz B ao cap n cs) {ao' : Option Addr} {cap' m : Nat} {cs' : List Value} (hsrc : XC w sz ao' cap' m cs') (hb : (n + m) * b ≤ 140737488355328) (hb0 : 0 < b) (hB : B ≤ w.heap.size) :
    ∃ ao2 cap2 w', (Builtin.append_ #[t, t] ty #[.slice ao n cap, .slice ao' m cap']).run P w = .ok (.slice ao2 (n + m) cap2) w' ∧ OY w' e sz B ao2 cap2 (n + m) (cs ++ cs') ∧ GroS (blk ao) w w' ∧ Kept w.heap.size ao ao2 ∧ (cap = n → Gro w w') := by
  obtain ⟨i, hi, hz, hsz, hby⟩ := T.info
  subst hsz hby
  have hle : n + m ≤ 140737488355328 := Nat.le_trans (Nat.le_mul_of_pos_right _ hb0) hb
  have hl := hown.len
  have hl' := hsrc.len
  have hone : ∀ v ∈ cs ++ cs', v.oneCell' = true := fun v hv => by
    rcases List.mem_append.1 hv with hv | hv
    · exact hown.one v hv
    · exact hsrc.one v hv
  have hlen : (cs ++ cs').length = (n + m) * i.size := by rw [List.length_append, hl, hl', Nat.add_mul]
  have h63 : n + m ≤ maxLen := by simp only [maxLen]; omega
  by_cases hm : m = 0
  · subst hm
    have h0 : cs' = [] := List.eq_nil_of_length_eq_zero (by simpa using hl')
    subst h0
    have hnc : n ≤ cap := hown.xc.fit
    refine ⟨ao, cap, w, ?_, by simpa using hown, .refl _ _, fun k hk => .inl hk, fun _ => Gro.refl _⟩
    have hf : (Builtin.firstCells i.size 0 (.slice ao' 0 cap')).run P w = .ok #[] w := by
      cases ao' with
      | none => exact run_firstCells_none (P := P) w _ _ _ _
      | some a => exact run_firstCells_some (P := P) w i.size 0 a 0 cap' [] (by simp) (fun j v hv => by simp at hv)
    cases ao with
    | none => simp [Builtin.append_, run_underlying T.und, sizeOf, typeInfo, hi, Builtin.lenOf, hnc, hf]
    | some a => simp [Builtin.append_, run_underlying T.und, sizeOf, typeInfo, hi, Builtin.lenOf, hnc, hf, storeCells]
  have hsrc' : ∃ a, ao' = some a := hsrc.some (by omega)
  obtain ⟨a, rfl⟩ := hsrc'
  have hnews : ∀ j u, cs'[j]? = some u → w.cell? (a.add j) = some u := fun j u hu => hsrc.cell a rfl j u hu
  have grown : ∀ (old : Nat),
      OY (w.drew.alloc (.cells (cs.toArray ++ cs'.toArray ++ Builtin.zeroCells z.cells (grownCap w (n + m) old e - (n + m))) e)) e i.size B (some ⟨w.heap.size, 0, none⟩) (grownCap w (n + m) old e) (n + m) (cs ++ cs') ∧
      Gro w (w.drew.alloc (.cells (cs.toArray ++ cs'.toArray ++ Builtin.zeroCells z.cells (grownCap w (n + m) old e - (n + m))) e)) := by
    intro old
    have hge := grownCap_ge w (n + m) old e
    have hcm : grownCap w (n + m) old e ≤ maxLen := grownCap_le_maxLen w (n + m) old e h63
    refine ⟨⟨hlen, .inr ⟨w.heap.size, 0, _, rfl, hB, heap_alloc_new w.drew _, hge, hcm, ?_, ?_⟩, hone⟩, (Gro.refl w).drew.trans (zl _ _)⟩
    · simp only [Array.size_append, List.size_toArray, size_zeroCells, T.zs, hl, hl', ← Nat.add_mul, Nat.zero_add]
      apply Nat.mul_le_mul_right
      omega
    · simp only [Array.toList_append, List.append_assoc, List.drop_zero]
      rw [← List.append_assoc, ← hlen]
      exact List.take_left
  have kept : Kept w.heap.size ao (some ⟨w.heap.size, 0, none⟩) := fun k hk => by
    obtain ⟨ad, h1, h2⟩ := mem_blk.1 hk
    cases h1
    exact .inr (by rw [← h2]; exact Nat.le_refl _)
  rcases hown.row with ⟨rfl, rfl, rfl⟩ | ⟨g, d, cur, rfl, hbg, hg, hnc, hcm, hcs, htake⟩
  · have hx : cs = [] := List.eq_nil_of_length_eq_zero (by simpa using hl)
    subst hx
    have hr := run_append_nil (P := P) w t ty e i z T.und hi hz a m cap' cs' hl' hnews (by omega) (by omega) (by have hb := hb; simp only [Nat.zero_add] at hb; omega)
    have hgr := grown 0
    simp only [Nat.zero_add, List.nil_append, Array.empty_append] at hgr ⊢
    exact ⟨_, _, _, hr, hgr.1, .of hgr.2, kept, fun _ => hgr.2⟩
  · by_cases hroom : n + m ≤ cap
    · have hmul : (n + m) * i.size ≤ cap * i.size := Nat.mul_le_mul_right _ hroom
      have hfit : d + n * i.size + cs'.length ≤ cur.size := by rw [hl', Nat.add_assoc, ← Nat.add_mul]; omega
      have hr := Vx (P := P) w t ty e i T.und hi g d n cap cur hg a m cap' cs' hl' hnews hsrc.one hroom hfit
      refine ⟨some ⟨g, d, none⟩, cap, _, hr, ⟨hlen, .inr ⟨g, d, _, rfl, hbg, setRow_heap w g cur _ e _ hg, hroom, hcm, ?_, ?_⟩, hone⟩, ⟨rfl, rfl, rfl, by simp, fun k _ hk => setRow_other w g k _ (fun e => hk (mem_blk.2 ⟨_, rfl, e.symm⟩))⟩, fun k hk => .inl hk, fun e => by omega⟩
      · simp only [List.size_toArray, List.length_append, List.length_take, List.length_drop, Array.length_toList]
        omega
      · have hdl : (cur.toList.take d).length = d := by simp; omega
        rw [List.take_add, htake, List.append_assoc, List.append_assoc, List.drop_left' hdl, ← List.append_assoc, ← hlen]
        exact List.take_left
    · have holds : ∀ j u, cs[j]? = some u → w.cell? ((⟨g, d, none⟩ : Addr).add j) = some u := hown.xc.cell _ rfl
      have hr := run_append_grow (P := P) w t ty e i z T.und hi hz ⟨g, d, none⟩ n cap cs hl holds a m cap' cs' hl' hnews (by omega) (by omega) (growslice_fits (by omega) hb)
      have hgr := grown cap
      exact ⟨_, _, _, hr, hgr.1, .of hgr.2, kept, fun _ => hgr.2⟩
theorem Yf {o : Oper} {A : Act} {w w' : World} {t : TypeId} {u v r : Value} (s x : Operand) (ho : o.op = .call { callee := .builtin .append, args := #[s, x], argTypes := #[t, t] }) (hs : A.eval s = u) (hx : A.eval x = v) (hr : (Builtin.append_ #[t, t] o.type #[u, v]).run P w = .ok r w') : (execOp A.eval o).run P w = .ok (.value r) w' := by
  unfold execOp
  simp only [ho, resolve, invoke, builtin, Sem.run_bind, Sem.run_pure, Result.andThen_ok, List.map_toArray, List.map_cons, List.map_nil, hs, hx, hr]
theorem s_appY {ops : Array Oper} {rest : List Oper} {o : Oper} {T : List Value} {ds : List Deferred} {w : World} {Q : Exit → Act → World → Prop} (TT : RowT P t e sz b z) (dst : Nat) (hd : o.dst = some dst) (hgd : o.guard = none) (s x : Operand) (ho : o.op = .call { callee := .builtin .append, args := #[s, x], argTypes := #[t, t] })
    {B : Nat} {ao : Option Addr} {cap n : Nat} {cs : List Value} (hs : (⟨T.toArray, ds⟩ : Act).eval s = .slice ao n cap) (hown : OY w e sz B ao cap n cs) {ao' : Option Addr} {cap' m : Nat} {cs' : List Value} (hx : (⟨T.toArray, ds⟩ : Act).eval x = .slice ao' m cap') (hsrc : XC w sz ao' cap' m cs') (hb : (n + m) * b ≤ 140737488355328) (hb0 : 0 < b) (hB : B ≤ w.heap.size)
    (h : ∀ ao2 cap2 w', OY w' e sz B ao2 cap2 (n + m) (cs ++ cs') → GroS (blk ao) w w' → Kept w.heap.size ao ao2 → wpList P ops Q rest ⟨(T.set dst (.slice ao2 (n + m) cap2)).toArray, ds⟩ w') : wpList P ops Q (o :: rest) ⟨T.toArray, ds⟩ w := by
  obtain ⟨ao2, cap2, w', hr, h1, h2, h3, _⟩ := Ua TT o.type w hown hsrc hb hb0 hB
  refine wpList_plain hgd fun K hK => ?_
  unfold Oper.wp
  rw [Yf s x ho hs hx hr, Oper.upon_value, hd, jX]
  exact hK _ _ (h ao2 cap2 w' h1 h2 h3)
end
/-! ### A region in whatever order, with one operation that changes some blocks -/
def half : Nat := 18446744073709551616
theorem ZA : half = 256 ^ 8 := by decide
theorem UF (s e p : Nat) : s % 256 ^ e / 256 ^ p % 256 = if p < e then s / 256 ^ p % 256 else 0 := by
  by_cases h : p < e
  · rw [if_pos h]
    have e1 : 256 ^ e = 256 ^ p * 256 ^ (e - p) := by rw [← Nat.pow_add]; congr 1; omega
    rw [e1, Nat.mod_mul_right_div_self]
    have e2 : e - p = (e - p - 1) + 1 := by omega
    rw [e2, Nat.pow_succ, Nat.mod_mod_of_dvd]
    exact Nat.dvd_mul_left _ _
  · rw [if_neg h]
    have h1 : s % 256 ^ e < 256 ^ p := Nat.lt_of_lt_of_le (Nat.mod_lt _ (Nat.pow_pos (by omega))) (Nat.pow_le_pow_right (by omega) (by omega))
    rw [Nat.div_eq_of_lt h1]
def hiN (a i : Nat) : Nat := a / 256 ^ (16 - i)
def loN (a i : Nat) : Nat := a % half / 256 ^ (8 - i)
theorem hiN_0 (a : Nat) (ha : a < top) : hiN a 0 = 0 := Nat.div_eq_of_lt (by rw [uW] at ha; exact ha)
theorem loN_0 (a : Nat) : loN a 0 = 0 := Nat.div_eq_of_lt (by rw [ZA]; exact Nat.mod_lt _ (Nat.pow_pos (by omega)))
theorem hiN_8 (a : Nat) : hiN a 8 = a / half := by rw [ZA]; rfl
theorem loN_8 (a : Nat) : loN a 8 = a % half := by unfold loN; simp
theorem jec (a i : Nat) (hi : i < 8) : hiN a (i + 1) = hiN a i * 256 + byt a i := by
  unfold hiN
  have e : 16 - (i + 1) = 15 - i := by omega
  rw [e, um a i (by omega)]
  omega
theorem jdw (a i : Nat) (hi : i < 8) : loN a (i + 1) = loN a i * 256 + byt a (8 + i) := by
  unfold loN byt
  have e : 8 - (i + 1) = 7 - i := by omega
  have e2 : 15 - (8 + i) = 7 - i := by omega
  have e3 : 256 ^ (8 - i) = 256 ^ (7 - i) * 256 := by
    have : 8 - i = (7 - i) + 1 := by omega
    rw [this, Nat.pow_succ]
  have e4 := UF a 8 (7 - i)
  rw [if_pos (by omega), ← ZA] at e4
  rw [e, e2, e3, ← Nat.div_div_eq_div_mul, ← e4]
  omega
theorem hiN_lt (a i : Nat) (ha : a < top) (hi : i < 8) : hiN a i < 72057594037927936 := by
  unfold hiN
  apply Nat.div_lt_of_lt_mul
  rw [uW] at ha
  have e : (72057594037927936 : Nat) = 256 ^ 7 := by decide
  rw [e, ← Nat.pow_add]
  exact Nat.lt_of_lt_of_le ha (Nat.pow_le_pow_right (by omega) (by omega))
theorem loN_lt (a i : Nat) (hi : i < 8) : loN a i < 72057594037927936 := by
  unfold loN
  apply Nat.div_lt_of_lt_mul
  have e : (72057594037927936 : Nat) = 256 ^ 7 := by decide
  rw [e, ← Nat.pow_add]
  exact Nat.lt_of_lt_of_le (Nat.mod_lt a (by decide : 0 < half)) (by rw [ZA]; exact Nat.pow_le_pow_right (by omega) (by omega))
theorem lo_lt (a : Nat) : a % half < half := Nat.mod_lt _ (by decide)
theorem lt_two (a b : Nat) : a < b ↔ a / half < b / half ∨ (a / half = b / half ∧ a % half < b % half) := by
  have h := lex_lt half (a / half) (b / half) (a % half) (b % half) (lo_lt a) (lo_lt b)
  rwa [Nat.div_add_mod, Nat.div_add_mod] at h
set_option maxHeartbeats 400000 in
theorem jbj (a : Nat) (ha : a < top) (w : World) :
    Calls Tryz.prog 79 #[idV a] w fun e w' => e = .returned (.tuple #[.int .u64 (hiN a 8), .int .u64 (loN a 8)]) ∧ Gro w w' := by
  have HA : Hid (a < top) := ha
  clear ha
  unfold idV
  go_enter func79, ntmps79
  go_wp2_with (refine yj rfl 38 _ rfl _ rfl ?_; intro w1 g1 G1 e1 h1)
  clear e1
  go_loop [4, 5, 6] (fun hi lo i => ∃ k : Nat, k ≤ 8 ∧ i = .int .i64 k ∧ hi = .int .u64 (hiN a k) ∧ lo = .int .u64 (loN a k)) (fun _ _ i => 8 - (intOf i).toNat)
  case atStart => exact ⟨0, by omega, rfl, by rw [hiN_0 a HA.out]; rfl, by rw [loN_0 a]; rfl⟩
  case round =>
    obtain ⟨k, hk, rfl, rfl, rfl⟩ := hrel
    cases hlt : decide ((k : Int) < 8)
    · have e8 : k = 8 := by simp at hlt; omega
      subst e8
      go_wp2
      go_ret2
      exact ⟨rfl, G1⟩
    · have hk8 : k < 8 := by simp at hlt; omega
      have c1 : w1.cell? ⟨g1, k, none⟩ = some (.int .u8 (byt a k)) := by rw [cell_of_row w1 g1 k _ 38 _ h1]; exact zX a k (by omega)
      have c2 : w1.cell? ⟨g1, 8 + k, none⟩ = some (.int .u8 (byt a (8 + k))) := by rw [cell_of_row w1 g1 _ _ 38 _ h1]; exact zX a _ (by omega)
      have HS : Hid (hiN a (k + 1) = hiN a k * 256 + byt a k) := jec a k hk8
      have HT : Hid (loN a (k + 1) = loN a k * 256 + byt a (8 + k)) := jdw a k hk8
      have b1 := hiN_lt a k HA.out hk8
      have b2 := loN_lt a k hk8
      have b3 := Qv a k
      have b4 := Qv a (8 + k)
      generalize hiN a k = H at *
      generalize loN a k = L at *
      generalize byt a k = X at *
      generalize byt a (8 + k) = Y at *
      go_wp2
      go_light
      go_round
      case rel => exact ⟨k + 1, by omega, by go_num, by rw [HS.out]; go_num, by rw [HT.out]; go_num⟩
      case measure => simp [intOf]; omega
theorem jdy (a b : Nat) (p q r : Bool) (hp : decide (hiN a 8 < hiN b 8) = p) (hq : ((hiN a 8 : Int) == hiN b 8) = q) (hr : decide (loN a 8 < loN b 8) = r) : decide (a < b) = (p || (q && r)) := by
  subst hp hq hr
  rw [Bool.eq_iff_iff]
  simp only [decide_eq_true_eq, Bool.or_eq_true, Bool.and_eq_true, beq_iff_eq]
  rw [lt_two, hiN_8, hiN_8, loN_8, loN_8]
  omega
set_option maxHeartbeats 400000 in
theorem ZY (a b : Nat) (ha : a < top) (hb : b < top) (w : World) :
    Calls Tryz.prog 62 #[idV a, idV b] w fun e w' => e = .returned (.bool (decide (a < b))) ∧ Gro w w' := by
  obtain ⟨p, hp⟩ : ∃ p, decide (hiN a 8 < hiN b 8) = p := ⟨_, rfl⟩
  obtain ⟨q, hq⟩ : ∃ q, ((hiN a 8 : Int) == hiN b 8) = q := ⟨_, rfl⟩
  obtain ⟨r, hr⟩ : ∃ r, decide (loN a 8 < loN b 8) = r := ⟨_, rfl⟩
  rw [jdy a b p q r hp hq hr]
  unfold idV
  have GG : Gro w w := Gro.refl w
  cases p
  all_goals cases q
  all_goals
    go_enter func62, ntmps62
    go_wp2_with (first | (refine zJ 2 rfl rfl 38 _ rfl _ rfl ?_; intro w1 g1 G1 e1 k1; have b1 := jh GG e1; replace GG := GG.trans G1; clear G1 e1) | (refine zJ 3 rfl rfl 38 _ rfl _ rfl ?_; intro w2 g2 G2 e2 k2; have b2 := jh GG e2; have d12 := jn k1 e2; replace k1 := G2.has k1; replace GG := GG.trans G2; clear G2 e2) | (refine wpList_load_row rfl 38 _ rfl _ rfl 38 _ (0, 0) _ (by first | exact k1 | exact k2) underlying38 rfl (size23' _) ?_) | (go_at_call 79; refine (jbj _ (by assumption) _).mono ?_; rintro e wN ⟨rfl, GN⟩; (try replace k1 := GN.has k1); (try replace k2 := GN.has k2); replace GG := GG.trans GN; clear GN))
    go_ret
    exact ⟨rfl, GG⟩
set_option maxHeartbeats 400000 in
theorem Vu (a b : Nat) (ha : a < top) (hb : b < top) (w : World) :
    Calls Tryz.prog 42 #[idV a, idV b] w fun e w' => e = .returned (.int .i64 (cmpN a b)) ∧ Gro w w' := by
  have HA : Hid (a < 256 ^ 16) := by rw [uW] at ha; exact ha
  have HB : Hid (b < 256 ^ 16) := by rw [uW] at hb; exact hb
  clear ha hb
  have GG : Gro w w := Gro.refl w
  unfold idV
  go_enter func42, ntmps42
  go_wp2_with (first | (refine zJ 2 rfl rfl 38 _ rfl _ rfl ?_; intro w1 g1 G1 e1 k1; have b1 := jh GG e1; replace GG := GG.trans G1; clear G1 e1) | (refine zJ 3 rfl rfl 38 _ rfl _ rfl ?_; intro w2 g2 G2 e2 k2; have b2 := jh GG e2; have d12 := jn k1 e2; replace k1 := G2.has k1; replace GG := GG.trans G2; clear G2 e2) | (refine wpList_load_row rfl 38 _ rfl _ rfl 38 _ (0, 0) _ (by first | exact k1 | exact k2) underlying38 rfl (size23' _) ?_))
  go_loop [8] (fun i => ∃ k : Nat, k ≤ 16 ∧ i = .int .i64 k ∧ Hid (a / 256 ^ (16 - k) = b / 256 ^ (16 - k))) (fun i => 16 - (intOf i).toNat)
  case atStart => exact ⟨0, by omega, rfl, by show _ = _; rw [Nat.div_eq_of_lt HA.out, Nat.div_eq_of_lt HB.out]⟩
  case round =>
    obtain ⟨k, hk, rfl, HE⟩ := hrel
    cases hlt : decide ((k : Int) < 16)
    · have e16 : k = 16 := by simp at hlt; omega
      subst e16
      go_wp2
      go_ret
      exact ⟨ux (Kv (by simpa using HE.out)), GG⟩
    · have hk16 : k < 16 := by simp at hlt; omega
      have hi := Jk a k hk16
      have c2 : w2.cell? ⟨g2, k, none⟩ = some (.int .u8 (byt b k)) := by rw [cell_of_row w2 g2 k _ 38 _ k2]; exact zX b k hk16
      have HL : Hid (byt a k < byt b k → a < b) := vl hk16 HE.out
      have HG : Hid (byt b k < byt a k → b < a) := vl hk16 HE.out.symm
      have HQ : Hid (byt a k = byt b k → a / 256 ^ (16 - (k + 1)) = b / 256 ^ (16 - (k + 1))) := Vr hk16 HE.out
      cases h1 : decide (byt a k < byt b k)
      all_goals cases h2 : decide (byt b k < byt a k)
      all_goals
        simp only [decide_eq_true_eq, decide_eq_false_iff_not] at h1 h2
      · go_wp2
        go_light
        go_round
        case rel => exact ⟨k + 1, by omega, by go_num, HQ.out (by omega)⟩
        case measure => simp [intOf]; omega
      · go_wp2
        go_ret
        exact ⟨ux (Ku (HG.out h2)), GG⟩
      · go_wp2
        go_ret
        exact ⟨ux (Kt (HL.out h1)), GG⟩
      · omega
theorem cmpN_neg (a b : Nat) : (cmpN a b < 0) = (a < b) := by
  unfold cmpN
  apply propext
  split
  · simp [*]
  · split <;> simp_all
theorem idA_low (x : Nat) (hx : x < 256) : (idA 0).setIfInBounds 15 (.int .u8 (x : Int)) = idA x := by
  have h := set_low x 15 (by omega)
  have e1 : x % 256 ^ (15 - 15) = 0 := by simp [Nat.mod_one]
  have e2 : x % 256 ^ (16 - 15) = x := Nat.mod_eq_of_lt (by simpa using hx)
  have e3 : byt x 15 = x := by unfold byt; simp; omega
  rw [e1, e2, e3] at h
  exact h
theorem VZ {o : Oper} {A : Act} (x : Operand) (ho : o.op = .build 38 #[(15, x)]) (n : Nat) (hx : A.eval x = .int .u8 (n : Int)) (hn : n < 256) (w : World) : (execOp A.eval o).run Tryz.prog w = .ok (.value (.agg (idA n))) w := by
  have h1 : (Instr.build 38 #[(15, .int .u8 (n : Int))]).run Tryz.prog w = .ok (.agg ((idA 0).setIfInBounds 15 (.int .u8 (n : Int)))) w := by kernel_rfl
  unfold execOp
  simp only [ho, List.map_toArray, List.map_cons, List.map_nil, hx, Sem.run_bind, h1, Result.andThen_ok, Sem.run_pure, idA_low n hn]
end Go.Proofs.YtgfnjekpafempaaGreat
