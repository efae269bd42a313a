/- Rows cut, cleared, made; of a sorted row the first one of each identity stays. -/
import Derived.Test.YtfabgonoonanfaaEA5
namespace Go.Proofs.Ytfabgonoonanfaa
open Go.RowKit
theorem made_K {α : Type} (K : Kd α) (zc : Array Value) (hz : zc.toList = K.E K.z) (n : Nat) : madeCells zc (n * K.sz) = ((List.replicate n K.z).flatMap K.E).toArray := by
  have hs : zc.size = K.sz := by rw [← Array.length_toList, hz, K.len]
  apply Array.toList_inj.1
  apply List.ext_getElem?
  intro i
  have hl : ((List.replicate n K.z).flatMap K.E).length = n * K.sz := by rw [flx_len K.len, List.length_replicate]
  by_cases hi : i < n * K.sz
  · have h0 : 0 < K.sz := Nat.pos_of_ne_zero fun h => by rw [h, Nat.mul_zero] at hi; omega
    have hq : i / K.sz < n := Nat.div_lt_of_lt_mul (by rw [Nat.mul_comm]; exact hi)
    have hr : i % K.sz < K.sz := Nat.mod_lt _ h0
    have ej : i / K.sz * K.sz + i % K.sz = i := by rw [Nat.mul_comm]; exact Nat.div_add_mod i K.sz
    have h2 := flx_cell K.len K.z (List.replicate n K.z) (i / K.sz) (by rw [List.length_replicate]; exact hq) (i % K.sz) hr
    have hg : (List.replicate n K.z).getD (i / K.sz) K.z = K.z := by simp [List.getD_eq_getElem?_getD, hq]
    rw [ej, hg, ← hz] at h2
    rw [h2]
    simp only [madeCells, Array.toList_map, Array.toList_range, List.getElem?_map, List.getElem?_range hi, Option.map_some, hs]
    rw [Array.getElem?_toList]
    generalize i % K.sz = k at *
    rw [getElem!_pos zc k (by omega), Array.getElem?_eq_getElem (by omega)]
  · rw [List.getElem?_eq_none (by simp only [madeCells, Array.toList_map, Array.toList_range, List.length_map, List.length_range]; omega), List.getElem?_eq_none (by rw [hl]; omega)]
section
variable {α : Type} {K : Kd α} {e t b : TypeId} {z : Value} {ops : Array Oper} {rest : List Oper} {T : List Value} {ds : List Deferred} {w : World} {Q : Exit → Act → World → Prop} {o : Oper} {ao : Option Addr} {cap B : Nat} {L : List α}
/-- An empty row with room. -/
theorem s_mkE (R : RowT Try.prog t e K.sz b z) (hzc : z.cells.toList = K.E K.z) (dst : Nat) (hd : o.dst = some dst) (hgd : o.guard = none) (x y : Operand) (ho : o.op = .makeSlice t x y) (n : Nat) (hx : (⟨T.toArray, ds⟩ : Act).eval x = .int .i64 0) (hy : (⟨T.toArray, ds⟩ : Act).eval y = .int .i64 (n : Int)) (hb : n ≤ 1000000) (hb2 : b ≤ 100) (hB : B ≤ w.heap.size)
    (h : ∀ w' g, Gro w w' → w.heap.size = g → OW K e w' B (some ⟨g, 0, none⟩) n [] → wpList Try.prog ops Q rest ⟨(T.set dst (.slice (some ⟨g, 0, none⟩) 0 n)).toArray, ds⟩ w') : wpList Try.prog ops Q (o :: rest) ⟨T.toArray, ds⟩ w := by
  obtain ⟨i, hi, hz, hsz, hby⟩ := R.info
  have hm : n * b ≤ 100000000 := Nat.mul_le_mul hb hb2
  have hr := run_make (P := Try.prog) w t e i _ R.und hi hz .i64 .i64 0 (n : Int) (by omega) (by omega) (by rw [hby, ← Int.natCast_mul]; have h9 : b * n ≤ 100000000 := (by rw [Nat.mul_comm]; exact hm); exact Int.le_trans (Int.ofNat_le.2 h9) (by decide)) (by omega)
  simp only [Int.toNat_natCast, hsz, made_K K z.cells hzc n] at hr
  refine wpList_plain hgd fun _ hK => ?_
  have he : (execOp (Act.eval ⟨T.toArray, ds⟩) o).run Try.prog w = .ok (.value (.slice (some ⟨w.heap.size, 0, none⟩) 0 n)) (w.alloc (.cells ((List.replicate n K.z).flatMap K.E).toArray e)) := by
    unfold execOp
    simp only [ho, hx, hy, Sem.run_bind, hr, Result.andThen_ok, Sem.run_pure]
    rfl
  unfold Oper.wp
  rw [he, Oper.upon_value, hd, put_list]
  refine hK _ _ (h _ _ (gro_alloc _ _) rfl ⟨⟨by simp, .inr ⟨w.heap.size, 0, _, rfl, hB, heap_alloc_new _ _, Nat.zero_le _, by unfold maxLen; omega, ?_, by simp⟩, fun _ h => by cases h⟩, fun _ h => by cases h⟩)
  simp only [List.size_toArray, flx_len K.len, List.length_replicate]
  omega
/-- The first ones of a row, and those from a place on. -/
theorem OW.take (h : OW K e w B ao cap L) (u : Nat) (hu : u ≤ L.length) : OW K e w B ao cap (L.take u) := by
  have hl : (L.take u).length = u := by rw [List.length_take]; omega
  refine ⟨⟨by rw [flx_len K.len], ?_, fl_oneK⟩, fun x hx => h.all x (List.mem_of_mem_take hx)⟩
  rcases h.own.row with ⟨h1, h2, h3⟩ | ⟨g, d, cur, h1, h2, h3, h4, h5, h6, h7⟩
  · exact .inl ⟨h1, h2, by omega⟩
  · refine .inr ⟨g, d, cur, h1, h2, h3, by omega, h5, h6, ?_⟩
    rw [hl, ← flx_take K.len, ← h7, List.take_take, Nat.min_eq_left (Nat.mul_le_mul_right _ hu)]
theorem OW.sub (h : OW K e w B ao cap L) (k : Nat) (hk : k < L.length) : RK K w (ao.map (·.add (k * K.sz))) (cap - k) (L.drop k) := by
  have h4 : L.length ≤ cap := h.own.xc.fit
  have hd := (h.own.drop k (by omega)).xc
  rw [if_neg (by omega), flx_drop K.len, ← List.length_drop] at hd
  exact ⟨hd, fun x hx => h.all x (List.mem_of_mem_drop hx)⟩
theorem zero_K (K : Kd α) (zc : Array Value) (hz : zc.toList = K.E K.z) (n : Nat) : (Builtin.zeroCells zc n).toList = (List.replicate n K.z).flatMap K.E := by
  have hs : zc.size = K.sz := by rw [← Array.length_toList, hz, K.len]
  have := congrArg Array.toList (made_K K zc hz n)
  rw [← hs] at this
  simpa [Builtin.zeroCells, madeCells] using this
set_option maxRecDepth 100000 in
/-- The last ones are cleared. -/
theorem s_clK (R : RowT Try.prog t e K.sz b z) (zc : Array Value) (hzv : ∀ w, (zeroValue e).run Try.prog w = .ok (.agg zc) w) (hzc : zc.toList = K.E K.z) (hzok : K.ok K.z) (hs0 : 0 < K.sz) (hgd : o.guard = none) (hdst : o.dst = none) (x : Operand) (ho : o.op = .call { callee := .builtin .clear, args := #[x], argTypes := #[t] })
    (h : OW K e w B ao cap L) (i : Nat) (hi : i ≤ L.length) (hx : (⟨T.toArray, ds⟩ : Act).eval x = .slice (if cap = i then ao else ao.map (·.add (i * K.sz))) (L.length - i) (cap - i))
    (hh : ∀ w', OW K e w' B ao cap (L.take i ++ List.replicate (L.length - i) K.z) → GroS (Go.Proofs.Ytfabgonoonanfaa.blk ao) w w' → wpList Try.prog ops Q rest ⟨T.toArray, ds⟩ w') : wpList Try.prog ops Q (o :: rest) ⟨T.toArray, ds⟩ w := by
  refine wpList_plain hgd fun _ hK => ?_
  by_cases h0 : L.length - i = 0
  · have hni : L.length = i := by omega
    have hL : L.take i ++ List.replicate (L.length - i) K.z = L := by rw [h0, ← hni]; simp
    have := hK _ _ (hh w (by rw [hL]; exact h) (GroS.refl _ _))
    have he : (execOp (Act.eval ⟨T.toArray, ds⟩) o).run Try.prog w = .ok (.value (.tuple #[])) w := by
      unfold execOp
      simp only [ho]
      rw [h0] at hx
      generalize (if cap = i then ao else ao.map (·.add (i * K.sz))) = q at hx
      cases q <;> simp [resolve, invoke, builtin, hx, Builtin.clear_, run_underlying R.und]
    unfold Oper.wp
    rw [he, Oper.upon_value, hdst]
    exact this
  · have h4 : L.length ≤ cap := h.own.xc.fit
    have hci : cap ≠ i := by omega
    obtain ⟨m, hm⟩ : ∃ m, L.length - i = m + 1 := ⟨L.length - i - 1, by omega⟩
    have hln : ((List.replicate (m + 1) K.z).flatMap K.E).length = (m + 1) * K.sz := by rw [flx_len K.len, List.length_replicate]
    have hadd : i * K.sz + (m + 1) * K.sz = L.length * K.sz := by rw [← Nat.add_mul, show i + (m + 1) = L.length by omega]
    obtain ⟨g, d, cur, e1, hB, hg, hle, hput⟩ := h.own.put (j := i * K.sz) ((List.replicate (m + 1) K.z).flatMap K.E) (by rw [hln]; omega) (by rw [hln]; exact Nat.mul_pos (by omega) hs0) fl_oneK
    have hx2 : (⟨T.toArray, ds⟩ : Act).eval x = .slice (some ⟨g, d + i * K.sz, none⟩) (m + 1) (cap - i) := by
      rw [hx, if_neg hci, e1, Option.map_some, add_at, hm]
    have hst := run_storeCells_at Try.prog g (d + i * K.sz) e ((List.replicate (m + 1) K.z).flatMap K.E) 0 cur w hg (by omega) fl_oneK
    have hrow : (cur.toList.take (d + i * K.sz + 0) ++ (List.replicate (m + 1) K.z).flatMap K.E ++ cur.toList.drop (d + i * K.sz + 0 + ((List.replicate (m + 1) K.z).flatMap K.E).length)).toArray = splice cur (d + i * K.sz) ((List.replicate (m + 1) K.z).flatMap K.E).toArray := by
      simp [splice, List.append_assoc]
    rw [hrow] at hst
    have hz := zero_K K zc hzc (m + 1)
    have he : (execOp (Act.eval ⟨T.toArray, ds⟩) o).run Try.prog w = .ok (.value (.tuple #[])) (w.setRow g (splice cur (d + i * K.sz) ((List.replicate (m + 1) K.z).flatMap K.E).toArray)) := by
      unfold execOp
      simp only [ho]
      simp [resolve, invoke, builtin, hx2, Builtin.clear_, run_underlying R.und, hzv, Value.cells, hz, hst]
    have St := stored_setRow (splice cur (d + i * K.sz) ((List.replicate (m + 1) K.z).flatMap K.E).toArray) hg
    have hO := hput _ St
    have hsp : spl (L.flatMap K.E) (i * K.sz) ((List.replicate (m + 1) K.z).flatMap K.E) = (L.take i ++ List.replicate (L.length - i) K.z).flatMap K.E := by
      unfold spl
      rw [flx_take K.len, hln, hadd, List.drop_of_length_le (by rw [flx_len K.len]; exact Nat.le_refl _), List.append_nil, List.flatMap_append, hm]
    have hlen : (L.take i ++ List.replicate (L.length - i) K.z).length = L.length := by rw [List.length_append, List.length_take, List.length_replicate]; omega
    replace hO : OY (w.setRow g (splice cur (d + i * K.sz) ((List.replicate (m + 1) K.z).flatMap K.E).toArray)) e K.sz B ao cap (L.take i ++ List.replicate (L.length - i) K.z).length ((L.take i ++ List.replicate (L.length - i) K.z).flatMap K.E) := by rw [hlen, ← hsp]; exact hO
    have := hK _ _ (hh _ ⟨hO, fun y hy => by
      rcases List.mem_append.1 hy with hy | hy
      · exact h.all y (List.mem_of_mem_take hy)
      · rw [List.eq_of_mem_replicate hy]; exact hzok⟩ ⟨St.os, St.tape, St.output, Nat.le_of_eq St.size.symm, fun k _ hk => St.old k fun hkg => hk (by rw [e1, hkg]; exact mem_blk.2 ⟨_, rfl, rfl⟩)⟩)
    unfold Oper.wp
    rw [he, Oper.upon_value, hdst]
    exact this
end
theorem cut_end {P : Program} {o : Oper} {A : Act} {t e : TypeId} {sz b : Nat} {z : Value} (T : RowT P t e sz b z) (x z : Operand) (ho : o.op = .slice t x none (some z) none) (ao : Option Addr) (n cap j : Nat) (hx : A.eval x = .slice ao n cap) (hz : A.eval z = .int .i64 (j : Int)) (hj : j ≤ cap) (w : World) :
    (execOp A.eval o).run P w = .ok (.value (.slice ao j cap)) w := by
  have h : (Instr.slice t (.slice ao n cap) none (some (.int .i64 (j : Int))) none).run P w = .ok (.slice ao j cap) w := by
    simp only [Instr.slice, Sem.run_bind, run_underlying T.und, Result.andThen_ok, Instr.sliceBounds, Instr.sliceBound, asIntOf, Sem.run_pure, run_sizeX T]
    have h3 : (0 : Int) ≤ (j : Int) ∧ (j : Int) ≤ (cap : Int) := by omega
    simp [h3]
    intro _
    cases ao <;> simp [add_zero]
  unfold execOp
  simp only [ho, hx, hz, Option.map_some, Option.map_none, Sem.run_bind, sliceAtX_run T, h, Result.andThen_ok, Sem.run_pure]
/-- A row that has been made shorter in place. -/
def CutP {α : Type} (K : Kd α) (e : TypeId) (w : World) (B : Nat) (ao : Option Addr) (cap : Nat) (L : List α) (x : Ending) (w' : World) : Prop := x = .returned (.slice ao L.length cap) ∧ GroS (Go.Proofs.Ytfabgonoonanfaa.blk ao) w w' ∧ OW K e w' B ao cap L
theorem takeC_set {α : Type} (Z : List α) (i : Nat) (v : α) (hi : i < Z.length) : (Z.set i v).take (i + 1) = Z.take i ++ [v] := by
  rw [List.set_eq_take_append_cons_drop, if_pos hi, List.take_append, List.length_take, Nat.min_eq_left (by omega), List.take_of_length_le (by rw [List.length_take]; omega), Nat.add_sub_cancel_left]
  simp
theorem getC_drop {α : Type} (z : α) (Z l : List α) (j q : Nat) (h : Z.drop j = l.drop j) (hq : j ≤ q) : Z.getD q z = l.getD q z := by
  have := congrArg (fun m : List α => m[q - j]?) h
  simp only [List.getElem?_drop] at this
  rw [show j + (q - j) = q by omega] at this
  rw [List.getD_eq_getElem?_getD, List.getD_eq_getElem?_getD, this]
theorem dropC_step {α : Type} {Z l : List α} {i j : Nat} (h : Z.drop i = l.drop i) (hij : i ≤ j) : Z.drop j = l.drop j := by
  rw [show j = i + (j - i) by omega, ← List.drop_drop, ← List.drop_drop, h]
theorem getD_dr {α : Type} (z : α) (Z : List α) (k q : Nat) : (Z.drop k).getD q z = Z.getD (k + q) z := by rw [List.getD_eq_getElem?_getD, List.getElem?_drop, List.getD_eq_getElem?_getD]
theorem take1C {l : List Cd} (h : 0 < l.length) : cpC l 1 = l.take 1 := by
  rw [cpC_1, snoc_take (S := l) (e := 0) h]
  rfl
theorem cpC_few {l : List Cd} (h : l.length < 2) : cpC l l.length = l := by
  rcases (by omega : l.length = 0 ∨ l.length = 1) with e | e
  · rw [List.length_eq_zero_iff.1 e]; rfl
  · rw [e, take1C (by omega), ← e, List.take_length]
set_option maxRecDepth 100000 in
set_option maxHeartbeats 4000000 in
theorem compactF_any (w : World) (B : Nat) (ao : Option Addr) (cap : Nat) (l : List Cd) (HO : OW kC 33 w B ao cap l) (hl : l.length ≤ 1000000) : Calls Try.prog 25 #[.slice ao l.length cap, .func (.func 26) #[] #[]] w (CutP kC 33 w B ao cap (cpC l l.length)) := by
  refine s_enter Try.func25 rfl Try.ntmps25 [.slice ao l.length cap, .func (.func 26) #[] #[]] [.slice ao l.length cap, .func (.func 26) #[] #[], undef, undef, undef, undef, undef, undef, undef, undef, undef, undef, undef, undef, undef, undef, undef, undef, undef, undef, undef, undef, undef, undef, undef, undef, undef, undef, undef, undef, undef, undef, undef, undef, undef, undef, undef, undef, undef, undef, undef, undef, undef, undef, undef, undef, undef, undef, undef, undef, undef, undef, undef, undef, undef, undef, undef, undef, undef, undef, undef, undef, undef, undef, undef, undef] rfl ?_
  have GG := GroS.refl (Go.Proofs.Ytfabgonoonanfaa.blk ao) w
  refine wp_seq ?_
  refine wp_region_lit ?_
  refine s_val 4 rfl rfl (.slice none 0 0) (rfl) ?_
  refine nr ?_; intro U h; simp only [z0, z1] at h; subst h
  refine wpList_nil ?_
  refine then_n ?_
  refine wp_seq ?_
  refine wp_seq ?_
  refine wp_region_lit ?_
  refine s_val 8 rfl rfl (.slice ao l.length cap) (rfl) ?_
  refine nr ?_; intro U h; simp only [z0, z1] at h; subst h
  refine s_val 9 rfl rfl (.int .i64 ((l.length : Nat) : Int)) (run_len Try.underlying25 _ rfl _ _ _ rfl _) ?_
  refine nr ?_; intro U h; simp only [z0, z1] at h; subst h
  cases h0 : decide (((l.length : Nat) : Int) < (2 : Int))
  · have h02 : 2 ≤ l.length := by have := of_decide_eq_false h0; omega
    refine s_val 10 rfl rfl (.bool false) (run_lssT 3 _ _ _ rfl ((l.length : Nat) : Int) 2 rfl rfl false h0 _) ?_
    refine nr ?_; intro U h; simp only [z0, z1] at h; subst h
    refine wpList_nil ?_
    refine then_n ?_
    refine wp_cond_false rfl ?_
    refine wp_skip ?_
    refine then_n ?_
    refine wp_seq ?_
    refine wp_seq ?_
    refine wp_region_lit ?_
    refine s_val 5 rfl rfl (.int .i64 1) (rfl) ?_
    refine nr ?_; intro U h; simp only [z0, z1] at h; subst h
    refine wpList_nil ?_
    refine then_n ?_
    refine wp_block ?_
    refine wp_loopN (fun mz az wv => ∃ (k : Nat) (us1 : Nat → Value), mz = l.length + 1 - k ∧ az = ⟨[.slice ao l.length cap, .func (.func 26) #[] #[], undef, undef, us1 0, .int .i64 ((k : Nat) : Int), us1 1, us1 2, .slice ao l.length cap, .int .i64 ((l.length : Nat) : Int), .bool false, undef, us1 3, us1 4, us1 5, us1 6, us1 7, us1 8, us1 9, us1 10, us1 11, us1 12, us1 13, us1 14, us1 15, us1 16, us1 17, us1 18, us1 19, us1 20, us1 21, us1 22, us1 23, us1 24, us1 25, us1 26, us1 27, us1 28, us1 29, us1 30, us1 31, us1 32, us1 33, us1 34, us1 35, us1 36, us1 37, us1 38, us1 39, us1 40, us1 41, us1 42, us1 43, us1 44, us1 45, us1 46, us1 47, us1 48, us1 49, us1 50, us1 51, us1 52, us1 53, us1 54, us1 55, undef].toArray, []⟩ ∧ 1 ≤ k ∧ k ≤ l.length ∧ cpC l k = l.take k ∧ GroS (Go.Proofs.Ytfabgonoonanfaa.blk ao) w wv ∧ OW kC 33 wv B ao cap l) ?_ _ ⟨1, (fun kz => ([.slice none 0 0, undef, undef, undef, undef, undef, undef, undef, undef, undef, undef, undef, undef, undef, undef, undef, undef, undef, undef, undef, undef, undef, undef, undef, undef, undef, undef, undef, undef, undef, undef, undef, undef, undef, undef, undef, undef, undef, undef, undef, undef, undef, undef, undef, undef, undef, undef, undef, undef, undef, undef, undef, undef, undef, undef, undef] : List Value).getD kz undef), rfl, rfl, Nat.le_refl _, by omega, take1C (by omega), GG, HO⟩
    clear GG HO
    rintro mz az wv ⟨k, us1, rfl, rfl, hk1, hk, hp, GG, HO⟩
    refine wp_seq ?_
    refine wp_seq ?_
    refine wp_region_lit ?_
    refine s_val 12 rfl rfl (.int .i64 ((k : Nat) : Int)) (rfl) ?_
    refine nr ?_; intro U h; simp only [z0, z1] at h; subst h
    refine s_val 13 rfl rfl (.slice ao l.length cap) (rfl) ?_
    refine nr ?_; intro U h; simp only [z0, z1] at h; subst h
    refine s_val 14 rfl rfl (.int .i64 ((l.length : Nat) : Int)) (run_len Try.underlying25 _ rfl _ _ _ rfl _) ?_
    refine nr ?_; intro U h; simp only [z0, z1] at h; subst h
    cases hk2 : decide (((k : Nat) : Int) < ((l.length : Nat) : Int))
    · have hke : k = l.length := by have := of_decide_eq_false hk2; omega
      refine s_val 15 rfl rfl (.bool false) (run_lssT 3 _ _ _ rfl ((k : Nat) : Int) ((l.length : Nat) : Int) rfl rfl false hk2 _) ?_
      refine nr ?_; intro U h; simp only [z0, z1] at h; subst h
      refine wpList_nil ?_
      refine then_n ?_
      refine wp_cond_false rfl ?_
      refine wp_exit ?_
      refine then_x ?_
      refine then_x ?_
      refine blk_x ?_
      refine then_n ?_
      refine wp_seq ?_
      refine wp_region_lit ?_
      refine s_val 65 rfl rfl (.slice ao l.length cap) (rfl) ?_
      refine nr ?_; intro U h; simp only [z0, z1] at h; subst h
      refine s_val 4 rfl rfl (.slice ao l.length cap) (rfl) ?_
      refine nr ?_; intro U h; simp only [z0, z1] at h; subst h
      refine wpList_nil ?_
      refine then_n ?_
      refine wp_ret ?_
      refine bodyPost_ret (results_tmp Try.results25 _ _ _) rfl ?_
      rw [hke, List.take_length] at hp
      exact ⟨by rw [hp]; rfl, GG, by rw [hp]; exact HO⟩
    · have hkl : k < l.length := by have := of_decide_eq_true hk2; omega
      refine s_val 15 rfl rfl (.bool true) (run_lssT 3 _ _ _ rfl ((k : Nat) : Int) ((l.length : Nat) : Int) rfl rfl true hk2 _) ?_
      refine nr ?_; intro U h; simp only [z0, z1] at h; subst h
      refine wpList_nil ?_
      refine then_n ?_
      refine wp_cond_true rfl ?_
      refine wp_skip ?_
      refine then_n ?_
      refine wp_seq ?_
      refine wp_block ?_
      refine wp_seq ?_
      cases hc : decide ((l.getD k zC).id = (l.getD (k - 1) zC).id)
      · refine wp_region_exA (A := ?Ax1) 10 [(0, 18), (1, 19), (2, 20), (3, 21), (4, 22), (5, 23), (6, 24), (7, 25), (8, 26), (9, 27)] [.val (.func (.func 26) #[] #[]), .val (.slice ao l.length cap), .val (.int .i64 ((k : Nat) : Int)), .val (.pointer (pK kC ao k 0)), .val (.agg (cdA (l.getD k zC))), .val (.slice ao l.length cap), .val (.int .i64 ((k : Nat) : Int)), .val (.int .i64 ((k - 1 : Nat) : Int)), .val (.pointer (pK kC ao (k - 1) 0)), .val (.agg (cdA (l.getD (k - 1) zC)))] follows (by kernel_rfl) rfl ?hAx1 (opsA_cons ?o0x1 (opsA_cons ?o1x1 (opsA_cons ?o2x1 (opsA_cons ?o3x1 (opsA_cons ?o4x1 (opsA_cons ?o5x1 (opsA_cons ?o6x1 (opsA_cons ?o7x1 (opsA_cons ?o8x1 (opsA_cons ?o9x1 opsA_nil)))))))))) ?restx1
        case hAx1 =>
          intro ptrs
          simp only [full, foldSlots, filledE, postE, List.foldl_cons, List.foldl_nil, List.getD_cons_zero, List.getD_cons_succ, fill_val, List.set_cons_zero, List.set_cons_succ]
          exact rfl
        case o0x1 => exact fun _ _ _ _ => opE_move (v := .func (.func 26) #[] #[]) _ rfl rfl rfl
        case o1x1 => exact fun _ _ _ _ => opE_move (v := .slice ao l.length cap) _ rfl rfl rfl
        case o2x1 => exact fun _ _ _ _ => opE_move (v := .int .i64 ((k : Nat) : Int)) _ rfl rfl rfl
        case o3x1 => exact fun _ _ hw _ => opE_value (v := .pointer (pK kC ao k 0)) rfl (run_ixK rC ((HO.gro ((Gro.refl _).drew.trans hw)).re) _ _ rfl rfl k rfl (by omega))
        case o4x1 => exact fun _ _ hw _ => opE_value (v := .agg (cdA (l.getD k zC))) rfl (run_ldKC ((HO.gro ((Gro.refl _).drew.trans hw)).re) _ rfl k rfl (by omega))
        case o5x1 => exact fun _ _ _ _ => opE_move (v := .slice ao l.length cap) _ rfl rfl rfl
        case o6x1 => exact fun _ _ _ _ => opE_move (v := .int .i64 ((k : Nat) : Int)) _ rfl rfl rfl
        case o7x1 => exact fun _ _ _ _ => opE_value (v := .int .i64 ((k - 1 : Nat) : Int)) rfl (run_subI 3 _ _ _ rfl ((k : Nat) : Int) 1 ((k - 1 : Nat) : Int) rfl rfl (by omega) (by omega) (by omega) _)
        case o8x1 => exact fun _ _ hw _ => opE_value (v := .pointer (pK kC ao (k - 1) 0)) rfl (run_ixK rC ((HO.gro ((Gro.refl _).drew.trans hw)).re) _ _ rfl rfl (k - 1) rfl (by omega))
        case o9x1 => exact fun _ _ hw _ => opE_value (v := .agg (cdA (l.getD (k - 1) zC))) rfl (run_ldKC ((HO.gro ((Gro.refl _).drew.trans hw)).re) _ rfl (k - 1) rfl (by omega))
        intro ptrs w1 GD hxE
        simp only [List.drop_succ_cons, List.drop_zero]
        replace HO := HO.gro ((Gro.refl _).drew.trans GD)
        replace GG := GG.drew.tg GD
        clear GD
        refine s_callF 28 rfl rfl _ 26 #[] Try.call26 rfl _ rfl rfl _ rfl [.agg (cdA (l.getD k zC)), .agg (cdA (l.getD (k - 1) zC))] rfl (Calls.bool (sameID_any (l.getD k zC) (l.getD (k - 1) zC) (atC HO.re (by omega)) (atC HO.re (by omega)) _) hc) ?_
        intro w2 G
        replace HO := HO.gro G
        replace GG := GG.tg G
        clear G
        refine nr ?_; intro U h; simp only [z0, z1] at h; subst h
        refine wpList_nil ?_
        refine then_n ?_
        refine wp_cond_false rfl ?_
        refine wp_skip ?_
        refine blk_n ?_
        refine then_n ?_
        refine wp_region_lit ?_
        refine s_val 16 rfl rfl (.int .i64 ((k : Nat) : Int)) (rfl) ?_
        refine nr ?_; intro U h; simp only [z0, z1] at h; subst h
        refine s_val 17 rfl rfl (.int .i64 ((k + 1 : Nat) : Int)) (run_addI 3 _ _ _ rfl ((k : Nat) : Int) 1 ((k + 1 : Nat) : Int) rfl rfl (by omega) (by omega) (by omega) _) ?_
        refine nr ?_; intro U h; simp only [z0, z1] at h; subst h
        refine s_val 5 rfl rfl (.int .i64 ((k + 1 : Nat) : Int)) (rfl) ?_
        refine nr ?_; intro U h; simp only [z0, z1] at h; subst h
        refine wpList_nil ?_
        refine then_n ?_
        exact ⟨l.length + 1 - (k + 1), by omega, k + 1, (fun kz => ([us1 0, us1 1, us1 2, .int .i64 ((k : Nat) : Int), .slice ao l.length cap, .int .i64 ((l.length : Nat) : Int), .bool true, .int .i64 ((k : Nat) : Int), .int .i64 ((k + 1 : Nat) : Int), .func (.func 26) #[] #[], .slice ao l.length cap, .int .i64 ((k : Nat) : Int), .pointer (pK kC ao k 0), .agg (cdA (l.getD k zC)), .slice ao l.length cap, .int .i64 ((k : Nat) : Int), .int .i64 ((k - 1 : Nat) : Int), .pointer (pK kC ao (k - 1) 0), .agg (cdA (l.getD (k - 1) zC)), .bool false, us1 20, us1 21, us1 22, us1 23, us1 24, us1 25, us1 26, us1 27, us1 28, us1 29, us1 30, us1 31, us1 32, us1 33, us1 34, us1 35, us1 36, us1 37, us1 38, us1 39, us1 40, us1 41, us1 42, us1 43, us1 44, us1 45, us1 46, us1 47, us1 48, us1 49, us1 50, us1 51, us1 52, us1 53, us1 54, us1 55] : List Value).getD kz undef), rfl, rfl, by omega, by omega, by rw [cpC_ne (of_decide_eq_false hc), hp, snoc_take hkl], GG, HO⟩
      · refine wp_region_exA (A := ?Ax2) 10 [(0, 18), (1, 19), (2, 20), (3, 21), (4, 22), (5, 23), (6, 24), (7, 25), (8, 26), (9, 27)] [.val (.func (.func 26) #[] #[]), .val (.slice ao l.length cap), .val (.int .i64 ((k : Nat) : Int)), .val (.pointer (pK kC ao k 0)), .val (.agg (cdA (l.getD k zC))), .val (.slice ao l.length cap), .val (.int .i64 ((k : Nat) : Int)), .val (.int .i64 ((k - 1 : Nat) : Int)), .val (.pointer (pK kC ao (k - 1) 0)), .val (.agg (cdA (l.getD (k - 1) zC)))] follows (by kernel_rfl) rfl ?hAx2 (opsA_cons ?o0x2 (opsA_cons ?o1x2 (opsA_cons ?o2x2 (opsA_cons ?o3x2 (opsA_cons ?o4x2 (opsA_cons ?o5x2 (opsA_cons ?o6x2 (opsA_cons ?o7x2 (opsA_cons ?o8x2 (opsA_cons ?o9x2 opsA_nil)))))))))) ?restx2
        case hAx2 =>
          intro ptrs
          simp only [full, foldSlots, filledE, postE, List.foldl_cons, List.foldl_nil, List.getD_cons_zero, List.getD_cons_succ, fill_val, List.set_cons_zero, List.set_cons_succ]
          exact rfl
        case o0x2 => exact fun _ _ _ _ => opE_move (v := .func (.func 26) #[] #[]) _ rfl rfl rfl
        case o1x2 => exact fun _ _ _ _ => opE_move (v := .slice ao l.length cap) _ rfl rfl rfl
        case o2x2 => exact fun _ _ _ _ => opE_move (v := .int .i64 ((k : Nat) : Int)) _ rfl rfl rfl
        case o3x2 => exact fun _ _ hw _ => opE_value (v := .pointer (pK kC ao k 0)) rfl (run_ixK rC ((HO.gro ((Gro.refl _).drew.trans hw)).re) _ _ rfl rfl k rfl (by omega))
        case o4x2 => exact fun _ _ hw _ => opE_value (v := .agg (cdA (l.getD k zC))) rfl (run_ldKC ((HO.gro ((Gro.refl _).drew.trans hw)).re) _ rfl k rfl (by omega))
        case o5x2 => exact fun _ _ _ _ => opE_move (v := .slice ao l.length cap) _ rfl rfl rfl
        case o6x2 => exact fun _ _ _ _ => opE_move (v := .int .i64 ((k : Nat) : Int)) _ rfl rfl rfl
        case o7x2 => exact fun _ _ _ _ => opE_value (v := .int .i64 ((k - 1 : Nat) : Int)) rfl (run_subI 3 _ _ _ rfl ((k : Nat) : Int) 1 ((k - 1 : Nat) : Int) rfl rfl (by omega) (by omega) (by omega) _)
        case o8x2 => exact fun _ _ hw _ => opE_value (v := .pointer (pK kC ao (k - 1) 0)) rfl (run_ixK rC ((HO.gro ((Gro.refl _).drew.trans hw)).re) _ _ rfl rfl (k - 1) rfl (by omega))
        case o9x2 => exact fun _ _ hw _ => opE_value (v := .agg (cdA (l.getD (k - 1) zC))) rfl (run_ldKC ((HO.gro ((Gro.refl _).drew.trans hw)).re) _ rfl (k - 1) rfl (by omega))
        intro ptrs w1 GD hxE
        simp only [List.drop_succ_cons, List.drop_zero]
        replace HO := HO.gro ((Gro.refl _).drew.trans GD)
        replace GG := GG.drew.tg GD
        clear GD
        refine s_callF 28 rfl rfl _ 26 #[] Try.call26 rfl _ rfl rfl _ rfl [.agg (cdA (l.getD k zC)), .agg (cdA (l.getD (k - 1) zC))] rfl (Calls.bool (sameID_any (l.getD k zC) (l.getD (k - 1) zC) (atC HO.re (by omega)) (atC HO.re (by omega)) _) hc) ?_
        intro w2 G
        replace HO := HO.gro G
        replace GG := GG.tg G
        clear G
        refine nr ?_; intro U h; simp only [z0, z1] at h; subst h
        refine wpList_nil ?_
        refine then_n ?_
        refine wp_cond_true rfl ?_
        refine wp_seq ?_
        refine wp_region_lit ?_
        refine s_val 29 rfl rfl (.slice ao l.length cap) (rfl) ?_
        refine nr ?_; intro U h; simp only [z0, z1] at h; subst h
        refine s_val 30 rfl rfl (.int .i64 ((k : Nat) : Int)) (rfl) ?_
        refine nr ?_; intro U h; simp only [z0, z1] at h; subst h
        refine s_val 31 rfl rfl (.slice (ao.map (·.add (k * kC.sz))) (l.length - k) (cap - k)) ((run_cutX rC _ _ rfl ao l.length cap k rfl rfl (by omega) _).trans (by rw [if_neg (by have := HO.own.xc.fit; omega)])) ?_
        refine nr ?_; intro U h; simp only [z0, z1] at h; subst h
        refine s_val 6 rfl rfl (.slice (ao.map (·.add (k * kC.sz))) (l.length - k) (cap - k)) (rfl) ?_
        refine nr ?_; intro U h; simp only [z0, z1] at h; subst h
        refine wpList_nil ?_
        refine then_n ?_
        refine wp_seq ?_
        refine wp_seq ?_
        refine wp_region_lit ?_
        refine s_val 7 rfl rfl (.int .i64 1) (rfl) ?_
        refine nr ?_; intro U h; simp only [z0, z1] at h; subst h
        refine wpList_nil ?_
        refine then_n ?_
        refine wp_block ?_
        refine wp_loopN (fun mz az wv => ∃ (q : Nat) (u : Nat) (Z : List Cd) (us2 : Nat → Value), mz = l.length + 1 - q ∧ az = ⟨[.slice ao l.length cap, .func (.func 26) #[] #[], undef, undef, us1 0, .int .i64 ((u : Nat) : Int), .slice (ao.map (·.add (k * kC.sz))) (l.length - k) (cap - k), .int .i64 ((q : Nat) : Int), .slice ao l.length cap, .int .i64 ((l.length : Nat) : Int), .bool false, undef, .int .i64 ((k : Nat) : Int), .slice ao l.length cap, .int .i64 ((l.length : Nat) : Int), .bool true, us1 7, us1 8, .func (.func 26) #[] #[], .slice ao l.length cap, .int .i64 ((k : Nat) : Int), .pointer (pK kC ao k 0), .agg (cdA (l.getD k zC)), .slice ao l.length cap, .int .i64 ((k : Nat) : Int), .int .i64 ((k - 1 : Nat) : Int), .pointer (pK kC ao (k - 1) 0), .agg (cdA (l.getD (k - 1) zC)), .bool true, .slice ao l.length cap, .int .i64 ((k : Nat) : Int), .slice (ao.map (·.add (k * kC.sz))) (l.length - k) (cap - k), us2 0, us2 1, us2 2, us2 3, us2 4, us2 5, us2 6, us2 7, us2 8, us2 9, us2 10, us2 11, us2 12, us2 13, us2 14, us2 15, us2 16, us2 17, us2 18, us2 19, us2 20, us2 21, us2 22, us2 23, us2 24, us2 25, us2 26, us1 50, us1 51, us1 52, us1 53, us1 54, us1 55, undef].toArray, []⟩ ∧ 1 ≤ q ∧ k + q ≤ l.length ∧ u + 1 ≤ k + q ∧ Z.length = l.length ∧ Z.take u = cpC l (k + q) ∧ Z.drop (k + q - 1) = l.drop (k + q - 1) ∧ GroS (Go.Proofs.Ytfabgonoonanfaa.blk ao) w wv ∧ OW kC 33 wv B ao cap Z) ?_ _ ⟨1, k, l, (fun kz => ([us1 23, us1 24, us1 25, us1 26, us1 27, us1 28, us1 29, us1 30, us1 31, us1 32, us1 33, us1 34, us1 35, us1 36, us1 37, us1 38, us1 39, us1 40, us1 41, us1 42, us1 43, us1 44, us1 45, us1 46, us1 47, us1 48, us1 49] : List Value).getD kz undef), rfl, rfl, Nat.le_refl _, by omega, by omega, rfl, by rw [cpC_eq (by omega) (of_decide_eq_true hc), hp], rfl, GG, HO⟩
        clear GG HO
        rintro mz az wv ⟨q, u, Z, us2, rfl, rfl, hq1, hq, hu, hZ, hZt, hZd, GG, HO⟩
        have HS := HO.sub k (by rw [hZ]; omega)
        refine wp_seq ?_
        refine wp_seq ?_
        refine wp_region_lit ?_
        refine s_val 32 rfl rfl (.int .i64 ((q : Nat) : Int)) (rfl) ?_
        refine nr ?_; intro U h; simp only [z0, z1] at h; subst h
        refine s_val 33 rfl rfl (.slice (ao.map (·.add (k * kC.sz))) (l.length - k) (cap - k)) (rfl) ?_
        refine nr ?_; intro U h; simp only [z0, z1] at h; subst h
        refine s_val 34 rfl rfl (.int .i64 (((l.length - k) : Nat) : Int)) (run_len Try.underlying25 _ rfl _ _ _ rfl _) ?_
        refine nr ?_; intro U h; simp only [z0, z1] at h; subst h
        cases hq2 : decide (((q : Nat) : Int) < ((l.length - k : Nat) : Int))
        · have hqe : k + q = l.length := by have := of_decide_eq_false hq2; omega
          refine s_val 35 rfl rfl (.bool false) (run_lssT 3 _ _ _ rfl ((q : Nat) : Int) (((l.length - k) : Nat) : Int) rfl rfl false hq2 _) ?_
          refine nr ?_; intro U h; simp only [z0, z1] at h; subst h
          refine wpList_nil ?_
          refine then_n ?_
          refine wp_cond_false rfl ?_
          refine wp_exit ?_
          refine then_x ?_
          refine then_x ?_
          refine blk_x ?_
          refine then_n ?_
          refine wp_seq ?_
          refine wp_region_lit ?_
          refine s_val 59 rfl rfl (.slice ao l.length cap) (rfl) ?_
          refine nr ?_; intro U h; simp only [z0, z1] at h; subst h
          refine s_val 60 rfl rfl (.int .i64 ((u : Nat) : Int)) (rfl) ?_
          refine nr ?_; intro U h; simp only [z0, z1] at h; subst h
          refine s_val 61 rfl rfl (.slice (if cap = u then ao else ao.map (·.add (u * kC.sz))) (Z.length - u) (cap - u)) (by rw [hZ]; exact run_cutX rC _ _ rfl ao l.length cap u rfl rfl (by omega) _) ?_
          refine nr ?_; intro U h; simp only [z0, z1] at h; subst h
          refine s_clK rC (cdA zC) zeroC rfl zC_ok (by decide) rfl rfl _ rfl HO u (by omega) rfl ?_
          intro w3 HO2 G2
          replace GG := GG.trans G2
          clear G2 HO HS
          have HO := HO2
          clear HO2
          refine wpList_nil ?_
          refine then_n ?_
          refine wp_seq ?_
          refine wp_region_lit ?_
          refine s_val 62 rfl rfl (.slice ao l.length cap) (rfl) ?_
          refine nr ?_; intro U h; simp only [z0, z1] at h; subst h
          refine s_val 63 rfl rfl (.int .i64 ((u : Nat) : Int)) (rfl) ?_
          refine nr ?_; intro U h; simp only [z0, z1] at h; subst h
          refine s_val 64 rfl rfl (.slice ao u cap) (cut_end rC _ _ rfl ao l.length cap u rfl rfl (by have := HO.own.xc.fit; rw [List.length_append, List.length_take, List.length_replicate] at this; omega) _) ?_
          refine nr ?_; intro U h; simp only [z0, z1] at h; subst h
          refine s_val 4 rfl rfl (.slice ao u cap) (rfl) ?_
          refine nr ?_; intro U h; simp only [z0, z1] at h; subst h
          refine wpList_nil ?_
          refine then_n ?_
          refine wp_ret ?_
          refine blk_r ?_
          refine then_r ?_
          refine then_r ?_
          refine blk_r ?_
          refine then_r ?_
          refine bodyPost_ret (results_tmp Try.results25 _ _ _) rfl ?_
          rw [hqe] at hZt
          have hul : (cpC l l.length).length = u := by rw [← hZt, List.length_take]; omega
          have hT := HO.take u (by rw [List.length_append, List.length_take, List.length_replicate]; omega)
          rw [List.take_append_of_le_length (by rw [List.length_take]; omega), List.take_take, Nat.min_self, hZt] at hT
          exact ⟨by rw [hul]; rfl, GG, hT⟩
        · have hql : k + q < l.length := by have := of_decide_eq_true hq2; omega
          refine s_val 35 rfl rfl (.bool true) (run_lssT 3 _ _ _ rfl ((q : Nat) : Int) (((l.length - k) : Nat) : Int) rfl rfl true hq2 _) ?_
          refine nr ?_; intro U h; simp only [z0, z1] at h; subst h
          refine wpList_nil ?_
          refine then_n ?_
          refine wp_cond_true rfl ?_
          refine wp_skip ?_
          refine then_n ?_
          refine wp_seq ?_
          refine wp_block ?_
          refine wp_seq ?_
          cases hc : decide ((l.getD (k + q) zC).id = (l.getD (k + q - 1) zC).id)
          · refine wp_region_exA (A := ?Ax3) 10 [(0, 38), (1, 39), (2, 40), (3, 41), (4, 42), (5, 43), (6, 44), (7, 45), (8, 46), (9, 47)] [.val (.func (.func 26) #[] #[]), .val (.slice (ao.map (·.add (k * kC.sz))) (l.length - k) (cap - k)), .val (.int .i64 ((q : Nat) : Int)), .val (.pointer (pK kC (ao.map (·.add (k * kC.sz))) q 0)), .val (.agg (cdA ((Z.drop k).getD q zC))), .val (.slice (ao.map (·.add (k * kC.sz))) (l.length - k) (cap - k)), .val (.int .i64 ((q : Nat) : Int)), .val (.int .i64 ((q - 1 : Nat) : Int)), .val (.pointer (pK kC (ao.map (·.add (k * kC.sz))) (q - 1) 0)), .val (.agg (cdA ((Z.drop k).getD (q - 1) zC)))] follows (by kernel_rfl) rfl ?hAx3 (opsA_cons ?o0x3 (opsA_cons ?o1x3 (opsA_cons ?o2x3 (opsA_cons ?o3x3 (opsA_cons ?o4x3 (opsA_cons ?o5x3 (opsA_cons ?o6x3 (opsA_cons ?o7x3 (opsA_cons ?o8x3 (opsA_cons ?o9x3 opsA_nil)))))))))) ?restx3
            case hAx3 =>
              intro ptrs
              simp only [full, foldSlots, filledE, postE, List.foldl_cons, List.foldl_nil, List.getD_cons_zero, List.getD_cons_succ, fill_val, List.set_cons_zero, List.set_cons_succ]
              exact rfl
            case o0x3 => exact fun _ _ _ _ => opE_move (v := .func (.func 26) #[] #[]) _ rfl rfl rfl
            case o1x3 => exact fun _ _ _ _ => opE_move (v := .slice (ao.map (·.add (k * kC.sz))) (l.length - k) (cap - k)) _ rfl rfl rfl
            case o2x3 => exact fun _ _ _ _ => opE_move (v := .int .i64 ((q : Nat) : Int)) _ rfl rfl rfl
            case o3x3 => exact fun _ _ hw _ => opE_value (v := .pointer (pK kC (ao.map (·.add (k * kC.sz))) q 0)) rfl (run_ixK rC (HS.gro ((Gro.refl _).drew.trans hw)) _ _ rfl (by rw [List.length_drop, hZ]; rfl) q rfl (by rw [List.length_drop, hZ]; omega))
            case o4x3 => exact fun _ _ hw _ => opE_value (v := .agg (cdA ((Z.drop k).getD q zC))) rfl (run_ldKC (HS.gro ((Gro.refl _).drew.trans hw)) _ rfl q rfl (by rw [List.length_drop, hZ]; omega))
            case o5x3 => exact fun _ _ _ _ => opE_move (v := .slice (ao.map (·.add (k * kC.sz))) (l.length - k) (cap - k)) _ rfl rfl rfl
            case o6x3 => exact fun _ _ _ _ => opE_move (v := .int .i64 ((q : Nat) : Int)) _ rfl rfl rfl
            case o7x3 => exact fun _ _ _ _ => opE_value (v := .int .i64 ((q - 1 : Nat) : Int)) rfl (run_subI 3 _ _ _ rfl ((q : Nat) : Int) 1 ((q - 1 : Nat) : Int) rfl rfl (by omega) (by omega) (by omega) _)
            case o8x3 => exact fun _ _ hw _ => opE_value (v := .pointer (pK kC (ao.map (·.add (k * kC.sz))) (q - 1) 0)) rfl (run_ixK rC (HS.gro ((Gro.refl _).drew.trans hw)) _ _ rfl (by rw [List.length_drop, hZ]; rfl) (q - 1) rfl (by rw [List.length_drop, hZ]; omega))
            case o9x3 => exact fun _ _ hw _ => opE_value (v := .agg (cdA ((Z.drop k).getD (q - 1) zC))) rfl (run_ldKC (HS.gro ((Gro.refl _).drew.trans hw)) _ rfl (q - 1) rfl (by rw [List.length_drop, hZ]; omega))
            intro ptrs w3 GD hxE
            simp only [List.drop_succ_cons, List.drop_zero]
            replace HO := HO.gro ((Gro.refl _).drew.trans GD)
            replace HS := HS.gro ((Gro.refl _).drew.trans GD)
            replace GG := GG.drew.tg GD
            clear GD
            refine s_callF 48 rfl rfl _ 26 #[] Try.call26 rfl _ rfl rfl _ rfl [.agg (cdA ((Z.drop k).getD q zC)), .agg (cdA ((Z.drop k).getD (q - 1) zC))] rfl (Calls.bool (q := false) (sameID_any ((Z.drop k).getD q zC) ((Z.drop k).getD (q - 1) zC) (atC HS (by rw [List.length_drop, hZ]; omega)) (atC HS (by rw [List.length_drop, hZ]; omega)) _) (by rw [getD_dr, getD_dr, show k + (q - 1) = k + q - 1 by omega, getC_drop zC Z l _ (k + q) hZd (by omega), getC_drop zC Z l _ (k + q - 1) hZd (Nat.le_refl _)]; exact hc)) ?_
            intro w4 G
            replace HO := HO.gro G
            replace HS := HS.gro G
            replace GG := GG.tg G
            clear G
            refine nr ?_; intro U h; simp only [z0, z1] at h; subst h
            refine s_val 49 rfl rfl (.bool true) (run_nt _ _ rfl false rfl) ?_
            refine nr ?_; intro U h; simp only [z0, z1] at h; subst h
            refine wpList_nil ?_
            refine then_n ?_
            refine wp_cond_true rfl ?_
            refine wp_seq ?_
            refine wp_region_lit ?_
            refine s_val 50 rfl rfl (.slice ao l.length cap) (rfl) ?_
            refine nr ?_; intro U h; simp only [z0, z1] at h; subst h
            refine s_val 51 rfl rfl (.int .i64 ((u : Nat) : Int)) (rfl) ?_
            refine nr ?_; intro U h; simp only [z0, z1] at h; subst h
            refine s_val 52 rfl rfl (.slice (ao.map (·.add (k * kC.sz))) (l.length - k) (cap - k)) (rfl) ?_
            refine nr ?_; intro U h; simp only [z0, z1] at h; subst h
            refine s_val 53 rfl rfl (.int .i64 ((q : Nat) : Int)) (rfl) ?_
            refine nr ?_; intro U h; simp only [z0, z1] at h; subst h
            refine s_val 54 rfl rfl (.pointer (pK kC (ao.map (·.add (k * kC.sz))) q 0)) (run_ixK rC (HS) _ _ rfl (by rw [List.length_drop, hZ]; rfl) q rfl (by rw [List.length_drop, hZ]; omega)) ?_
            refine nr ?_; intro U h; simp only [z0, z1] at h; subst h
            refine s_val 55 rfl rfl (.agg (cdA ((Z.drop k).getD q zC))) (run_ldKC (HS) _ rfl q rfl (by rw [List.length_drop, hZ]; omega)) ?_
            refine nr ?_; intro U h; simp only [z0, z1] at h; subst h
            refine s_val 56 rfl rfl (.pointer (pK kC ao u 0)) (run_ixK rC (HO.re) _ _ rfl (by rw [hZ]; rfl) u rfl (by rw [hZ]; omega)) ?_
            refine nr ?_; intro U h; simp only [z0, z1] at h; subst h
            refine s_stK rfl rfl 33 _ _ rfl HO u 0 (by rw [hZ]; omega) rfl (.agg (cdA ((Z.drop k).getD q zC))) rfl (cdL ((Z.drop k).getD q zC)) rfl (siCl _) (by rw [cdL_len]; decide) (by rw [cdL_len]; decide) (cdL_one _) ((Z.drop k).getD q zC) (spl_cd _ _) (atC HS (by rw [List.length_drop, hZ]; omega)) ?_
            intro w5 HO2 G2
            replace GG := GG.trans G2
            clear G2 HO HS
            have HO := HO2
            clear HO2
            refine wpList_nil ?_
            refine then_n ?_
            refine wp_region_lit ?_
            refine s_val 57 rfl rfl (.int .i64 ((u : Nat) : Int)) (rfl) ?_
            refine nr ?_; intro U h; simp only [z0, z1] at h; subst h
            refine s_val 58 rfl rfl (.int .i64 ((u + 1 : Nat) : Int)) (run_addI 3 _ _ _ rfl ((u : Nat) : Int) 1 ((u + 1 : Nat) : Int) rfl rfl (by omega) (by omega) (by omega) _) ?_
            refine nr ?_; intro U h; simp only [z0, z1] at h; subst h
            refine s_val 5 rfl rfl (.int .i64 ((u + 1 : Nat) : Int)) (rfl) ?_
            refine nr ?_; intro U h; simp only [z0, z1] at h; subst h
            refine wpList_nil ?_
            refine blk_n ?_
            refine then_n ?_
            refine wp_region_lit ?_
            refine s_val 36 rfl rfl (.int .i64 ((q : Nat) : Int)) (rfl) ?_
            refine nr ?_; intro U h; simp only [z0, z1] at h; subst h
            refine s_val 37 rfl rfl (.int .i64 ((q + 1 : Nat) : Int)) (run_addI 3 _ _ _ rfl ((q : Nat) : Int) 1 ((q + 1 : Nat) : Int) rfl rfl (by omega) (by omega) (by omega) _) ?_
            refine nr ?_; intro U h; simp only [z0, z1] at h; subst h
            refine s_val 7 rfl rfl (.int .i64 ((q + 1 : Nat) : Int)) (rfl) ?_
            refine nr ?_; intro U h; simp only [z0, z1] at h; subst h
            refine wpList_nil ?_
            refine then_n ?_
            exact ⟨l.length + 1 - (q + 1), by omega, q + 1, u + 1, Z.set u ((Z.drop k).getD q zC), (fun kz => ([.int .i64 ((q : Nat) : Int), .slice (ao.map (·.add (k * kC.sz))) (l.length - k) (cap - k), .int .i64 (((l.length - k) : Nat) : Int), .bool true, .int .i64 ((q : Nat) : Int), .int .i64 ((q + 1 : Nat) : Int), .func (.func 26) #[] #[], .slice (ao.map (·.add (k * kC.sz))) (l.length - k) (cap - k), .int .i64 ((q : Nat) : Int), .pointer (pK kC (ao.map (·.add (k * kC.sz))) q 0), .agg (cdA ((Z.drop k).getD q zC)), .slice (ao.map (·.add (k * kC.sz))) (l.length - k) (cap - k), .int .i64 ((q : Nat) : Int), .int .i64 ((q - 1 : Nat) : Int), .pointer (pK kC (ao.map (·.add (k * kC.sz))) (q - 1) 0), .agg (cdA ((Z.drop k).getD (q - 1) zC)), .bool false, .bool true, .slice ao l.length cap, .int .i64 ((u : Nat) : Int), .slice (ao.map (·.add (k * kC.sz))) (l.length - k) (cap - k), .int .i64 ((q : Nat) : Int), .pointer (pK kC (ao.map (·.add (k * kC.sz))) q 0), .agg (cdA ((Z.drop k).getD q zC)), .pointer (pK kC ao u 0), .int .i64 ((u : Nat) : Int), .int .i64 ((u + 1 : Nat) : Int)] : List Value).getD kz undef), rfl, rfl, by omega, by omega, by omega, by rw [List.length_set]; exact hZ, by rw [show k + (q + 1) = k + q + 1 by omega, cpC_ne (of_decide_eq_false hc), takeC_set Z u _ (by omega), hZt, getD_dr, getC_drop zC Z l _ (k + q) hZd (by omega)], by rw [List.drop_set_of_lt (by omega)]; exact dropC_step hZd (by omega), GG, HO⟩
          · refine wp_region_exA (A := ?Ax4) 10 [(0, 38), (1, 39), (2, 40), (3, 41), (4, 42), (5, 43), (6, 44), (7, 45), (8, 46), (9, 47)] [.val (.func (.func 26) #[] #[]), .val (.slice (ao.map (·.add (k * kC.sz))) (l.length - k) (cap - k)), .val (.int .i64 ((q : Nat) : Int)), .val (.pointer (pK kC (ao.map (·.add (k * kC.sz))) q 0)), .val (.agg (cdA ((Z.drop k).getD q zC))), .val (.slice (ao.map (·.add (k * kC.sz))) (l.length - k) (cap - k)), .val (.int .i64 ((q : Nat) : Int)), .val (.int .i64 ((q - 1 : Nat) : Int)), .val (.pointer (pK kC (ao.map (·.add (k * kC.sz))) (q - 1) 0)), .val (.agg (cdA ((Z.drop k).getD (q - 1) zC)))] follows (by kernel_rfl) rfl ?hAx4 (opsA_cons ?o0x4 (opsA_cons ?o1x4 (opsA_cons ?o2x4 (opsA_cons ?o3x4 (opsA_cons ?o4x4 (opsA_cons ?o5x4 (opsA_cons ?o6x4 (opsA_cons ?o7x4 (opsA_cons ?o8x4 (opsA_cons ?o9x4 opsA_nil)))))))))) ?restx4
            case hAx4 =>
              intro ptrs
              simp only [full, foldSlots, filledE, postE, List.foldl_cons, List.foldl_nil, List.getD_cons_zero, List.getD_cons_succ, fill_val, List.set_cons_zero, List.set_cons_succ]
              exact rfl
            case o0x4 => exact fun _ _ _ _ => opE_move (v := .func (.func 26) #[] #[]) _ rfl rfl rfl
            case o1x4 => exact fun _ _ _ _ => opE_move (v := .slice (ao.map (·.add (k * kC.sz))) (l.length - k) (cap - k)) _ rfl rfl rfl
            case o2x4 => exact fun _ _ _ _ => opE_move (v := .int .i64 ((q : Nat) : Int)) _ rfl rfl rfl
            case o3x4 => exact fun _ _ hw _ => opE_value (v := .pointer (pK kC (ao.map (·.add (k * kC.sz))) q 0)) rfl (run_ixK rC (HS.gro ((Gro.refl _).drew.trans hw)) _ _ rfl (by rw [List.length_drop, hZ]; rfl) q rfl (by rw [List.length_drop, hZ]; omega))
            case o4x4 => exact fun _ _ hw _ => opE_value (v := .agg (cdA ((Z.drop k).getD q zC))) rfl (run_ldKC (HS.gro ((Gro.refl _).drew.trans hw)) _ rfl q rfl (by rw [List.length_drop, hZ]; omega))
            case o5x4 => exact fun _ _ _ _ => opE_move (v := .slice (ao.map (·.add (k * kC.sz))) (l.length - k) (cap - k)) _ rfl rfl rfl
            case o6x4 => exact fun _ _ _ _ => opE_move (v := .int .i64 ((q : Nat) : Int)) _ rfl rfl rfl
            case o7x4 => exact fun _ _ _ _ => opE_value (v := .int .i64 ((q - 1 : Nat) : Int)) rfl (run_subI 3 _ _ _ rfl ((q : Nat) : Int) 1 ((q - 1 : Nat) : Int) rfl rfl (by omega) (by omega) (by omega) _)
            case o8x4 => exact fun _ _ hw _ => opE_value (v := .pointer (pK kC (ao.map (·.add (k * kC.sz))) (q - 1) 0)) rfl (run_ixK rC (HS.gro ((Gro.refl _).drew.trans hw)) _ _ rfl (by rw [List.length_drop, hZ]; rfl) (q - 1) rfl (by rw [List.length_drop, hZ]; omega))
            case o9x4 => exact fun _ _ hw _ => opE_value (v := .agg (cdA ((Z.drop k).getD (q - 1) zC))) rfl (run_ldKC (HS.gro ((Gro.refl _).drew.trans hw)) _ rfl (q - 1) rfl (by rw [List.length_drop, hZ]; omega))
            intro ptrs w3 GD hxE
            simp only [List.drop_succ_cons, List.drop_zero]
            replace HO := HO.gro ((Gro.refl _).drew.trans GD)
            replace HS := HS.gro ((Gro.refl _).drew.trans GD)
            replace GG := GG.drew.tg GD
            clear GD
            refine s_callF 48 rfl rfl _ 26 #[] Try.call26 rfl _ rfl rfl _ rfl [.agg (cdA ((Z.drop k).getD q zC)), .agg (cdA ((Z.drop k).getD (q - 1) zC))] rfl (Calls.bool (q := true) (sameID_any ((Z.drop k).getD q zC) ((Z.drop k).getD (q - 1) zC) (atC HS (by rw [List.length_drop, hZ]; omega)) (atC HS (by rw [List.length_drop, hZ]; omega)) _) (by rw [getD_dr, getD_dr, show k + (q - 1) = k + q - 1 by omega, getC_drop zC Z l _ (k + q) hZd (by omega), getC_drop zC Z l _ (k + q - 1) hZd (Nat.le_refl _)]; exact hc)) ?_
            intro w4 G
            replace HO := HO.gro G
            replace HS := HS.gro G
            replace GG := GG.tg G
            clear G
            refine nr ?_; intro U h; simp only [z0, z1] at h; subst h
            refine s_val 49 rfl rfl (.bool false) (run_nt _ _ rfl true rfl) ?_
            refine nr ?_; intro U h; simp only [z0, z1] at h; subst h
            refine wpList_nil ?_
            refine then_n ?_
            refine wp_cond_false rfl ?_
            refine wp_skip ?_
            refine blk_n ?_
            refine then_n ?_
            refine wp_region_lit ?_
            refine s_val 36 rfl rfl (.int .i64 ((q : Nat) : Int)) (rfl) ?_
            refine nr ?_; intro U h; simp only [z0, z1] at h; subst h
            refine s_val 37 rfl rfl (.int .i64 ((q + 1 : Nat) : Int)) (run_addI 3 _ _ _ rfl ((q : Nat) : Int) 1 ((q + 1 : Nat) : Int) rfl rfl (by omega) (by omega) (by omega) _) ?_
            refine nr ?_; intro U h; simp only [z0, z1] at h; subst h
            refine s_val 7 rfl rfl (.int .i64 ((q + 1 : Nat) : Int)) (rfl) ?_
            refine nr ?_; intro U h; simp only [z0, z1] at h; subst h
            refine wpList_nil ?_
            refine then_n ?_
            exact ⟨l.length + 1 - (q + 1), by omega, q + 1, u, Z, (fun kz => ([.int .i64 ((q : Nat) : Int), .slice (ao.map (·.add (k * kC.sz))) (l.length - k) (cap - k), .int .i64 (((l.length - k) : Nat) : Int), .bool true, .int .i64 ((q : Nat) : Int), .int .i64 ((q + 1 : Nat) : Int), .func (.func 26) #[] #[], .slice (ao.map (·.add (k * kC.sz))) (l.length - k) (cap - k), .int .i64 ((q : Nat) : Int), .pointer (pK kC (ao.map (·.add (k * kC.sz))) q 0), .agg (cdA ((Z.drop k).getD q zC)), .slice (ao.map (·.add (k * kC.sz))) (l.length - k) (cap - k), .int .i64 ((q : Nat) : Int), .int .i64 ((q - 1 : Nat) : Int), .pointer (pK kC (ao.map (·.add (k * kC.sz))) (q - 1) 0), .agg (cdA ((Z.drop k).getD (q - 1) zC)), .bool true, .bool false, us2 18, us2 19, us2 20, us2 21, us2 22, us2 23, us2 24, us2 25, us2 26] : List Value).getD kz undef), rfl, rfl, by omega, by omega, by omega, hZ, by rw [show k + (q + 1) = k + q + 1 by omega, cpC_eq (by omega) (of_decide_eq_true hc)]; exact hZt, dropC_step hZd (by omega), GG, HO⟩
  · have h02 : l.length < 2 := by have := of_decide_eq_true h0; omega
    refine s_val 10 rfl rfl (.bool true) (run_lssT 3 _ _ _ rfl ((l.length : Nat) : Int) 2 rfl rfl true h0 _) ?_
    refine nr ?_; intro U h; simp only [z0, z1] at h; subst h
    refine wpList_nil ?_
    refine then_n ?_
    refine wp_cond_true rfl ?_
    refine wp_seq ?_
    refine wp_region_lit ?_
    refine s_val 11 rfl rfl (.slice ao l.length cap) (rfl) ?_
    refine nr ?_; intro U h; simp only [z0, z1] at h; subst h
    refine s_val 4 rfl rfl (.slice ao l.length cap) (rfl) ?_
    refine nr ?_; intro U h; simp only [z0, z1] at h; subst h
    refine wpList_nil ?_
    refine then_n ?_
    refine wp_ret ?_
    refine then_r ?_
    refine bodyPost_ret (results_tmp Try.results25 _ _ _) rfl ?_
    exact ⟨by rw [cpC_few h02]; rfl, GG, by rw [cpC_few h02]; exact HO⟩
end Go.Proofs.Ytfabgonoonanfaa
