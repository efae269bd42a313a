/- Lists of bytes held against each other; the chapter's example (fixed); a nil log. -/
import Derived.Test.YtaejjmoocnpdaaaE6
import Derived.Lib.SlBytesConst
namespace Go.Proofs.Ytaejjmoocnpdaaa
open Go.RowKit
structure LC (w : World) (ao : Option Addr) (cap : Nat) (ls : List (List Nat)) : Prop where
  fit : ls.length ≤ cap
  bare : ao = none → cap = 0
  cell : ∀ ad, ao = some ad → ∀ j, j < ls.length → ∃ ao' cap', w.cell? (ad.add j) = some (.slice ao' (ls.getD j []).length cap') ∧ NC w .u8 ao' cap' (ls.getD j [])
theorem LC.at {w : World} {ao : Option Addr} {cap : Nat} {ls : List (List Nat)} (h : LC w ao cap ls) {j : Nat} (hj : j < ls.length) : ∃ ad ao' cap', ao = some ad ∧ w.cell? (ad.add j) = some (.slice ao' (ls.getD j []).length cap') ∧ NC w .u8 ao' cap' (ls.getD j []) := by
  cases hao : ao with
  | none => have := h.bare hao; have := h.fit; omega
  | some ad => obtain ⟨ao', cap', h1, h2⟩ := h.cell ad hao j hj; exact ⟨ad, ao', cap', rfl, h1, h2⟩
theorem LC.gro {w w' : World} {ao : Option Addr} {cap : Nat} {ls : List (List Nat)} (h : LC w ao cap ls) (G : Gro w w') : LC w' ao cap ls :=
  ⟨h.fit, h.bare, fun ad ha j hj => by
    obtain ⟨ao', cap', h1, h2⟩ := h.cell ad ha j hj
    exact ⟨ao', cap', (World.cell?_of_block (G.block _ (World.block_lt_of_cell? w _ h1))).trans h1, h2.gro G⟩⟩
theorem size24 (w : World) : (sizeOf 22).run Try.prog w = .ok 1 w := by kernel_rfl
theorem agg24 (w : World) : (isAgg 22).run Try.prog w = .ok false w := by kernel_rfl
theorem run_idx23 {o : Oper} {A : Act} (x y : Operand) (ho : o.op = .indexAddr 30 x y) (ad : Addr) (n cap j : Nat) (hx : A.eval x = .slice (some ad) n cap) (hy : A.eval y = .int .i64 (j : Int)) (hj : j < n) (w : World) :
    (execOp A.eval o).run Try.prog w = .ok (.value (.pointer (some (ad.add j)))) w := by
  have h : (Instr.indexAt 30 (.slice (some ad) n cap) (.int .i64 (j : Int))).run Try.prog w = .ok (.pointer (some (ad.add j))) w := by
    simp only [Instr.indexAt, Sem.run_bind, run_underlying Try.underlying30, Result.andThen_ok]
    simp [asIntOf, hj]
  unfold execOp
  simp only [ho, hx, hy, Sem.run_bind, h, Result.andThen_ok, Sem.run_pure]
theorem run_ld24 {o : Oper} {A : Act} (x : Operand) (ho : o.op = .load 22 x) (p : Addr) (hx : A.eval x = .pointer (some p)) (w : World) (v : Value) (hc : w.cell? p = some v) :
    (execOp A.eval o).run Try.prog w = .ok (.value v) w := by
  unfold execOp
  simp only [ho, hx]
  simp [go_sem, hc]
section
variable {P : Program} {ops : Array Oper} {rest : List Oper} {o : Oper} {T : List Value} {ds : List Deferred} {w : World} {Q : Exit → Act → World → Prop}

theorem s_gbslY {gi d : Nat} {b : Bool} (dst : Nat) (hd : o.dst = some dst) (hg : o.guard = some (gi, b)) (y : ∀ T, yielded ops T gi = yv T d) (hv : (yv T.toArray d == some b) = true) (t : TypeId) (n : Nat) (l : List (Nat × Operand)) (ho : o.op = .buildSlice t n l.toArray) (vals : List (Nat × Value)) (hvl : (l.map fun p => (p.1, (⟨T.toArray, ds⟩ : Act).eval p.2)) = vals) (cs : Array Value) (e : TypeId)
    (hr : (Instr.buildSlice t n vals.toArray).run P w = .ok (.slice (some ⟨w.heap.size, 0, none⟩) n n) (w.alloc (.cells cs e)))
    (h : ∀ w' g, Gro w w' → w.heap.size = g → w'.heap[g]? = some (.cells cs e (0, 0)) → wpList P ops Q rest ⟨(T.set dst (.slice (some ⟨g, 0, none⟩) n n)).toArray, ds⟩ w') : wpList P ops Q (o :: rest) ⟨T.toArray, ds⟩ w :=
  wpList_step fun K hK => by
    rw [if_pos (wanted_yv hg y hv)]
    have he := run_bsl (A := ⟨T.toArray, ds⟩) t n l ho vals hvl hr
    unfold Oper.wp
    rw [he, Oper.upon_value, hd, put_list]
    exact hK _ _ (h _ _ (gro_alloc _ _) rfl (heap_alloc_new _ _))
end
section
variable {ops : Array Oper} {rest : List Oper} {o o2 : Oper} {T : List Value} {ds : List Deferred} {w : World} {Q : Exit → Act → World → Prop}
/-- A constant text as bytes: a row is laid, and marked behind its last cell. -/
theorem s_gconstY {gi d : Nat} {b : Bool} (dst dst2 : Nat) (hd : o.dst = some dst) (hd2 : o2.dst = some dst2) (hg : o.guard = some (gi, b)) (hg2 : o2.guard = some (gi, b)) (y : ∀ T, yielded ops T gi = yv T d) (hv : (yv T.toArray d == some b) = true) (l : List Nat) (pr : List (Nat × Operand)) (ho : o.op = .buildSlice 22 l.length pr.toArray) (vals : List (Nat × Value)) (hvl : (pr.map fun p => (p.1, (⟨T.toArray, ds⟩ : Act).eval p.2)) = vals)
    (hr : ∀ w, (Instr.buildSlice 22 l.length vals.toArray).run Try.prog w = .ok (.slice (some ⟨w.heap.size, 0, none⟩) l.length l.length) (w.alloc (.cells (bv l) 5)))
    (x : Operand) (ho2 : o2.op = .convert 22 22 x) (hx : ∀ g, (⟨(T.set dst (.slice (some ⟨g, 0, none⟩) l.length l.length)).toArray, ds⟩ : Act).eval x = .slice (some ⟨g, 0, none⟩) l.length l.length) (hv2 : ∀ g, (yv (T.set dst (.slice (some ⟨g, 0, none⟩) l.length l.length)).toArray d == some b) = true)
    (h : ∀ w' g, Gro w w' → w.heap.size = g → (∀ j, j < l.length → w'.cell? ⟨g, j, none⟩ = some (.int .u8 (l.getD j 0 : Int))) → wpList Try.prog ops Q rest ⟨((T.set dst (.slice (some ⟨g, 0, none⟩) l.length l.length)).set dst2 (.slice (some ⟨g, 0, none⟩) l.length l.length)).toArray, ds⟩ w') : wpList Try.prog ops Q (o :: o2 :: rest) ⟨T.toArray, ds⟩ w :=
  wpList_step fun K hK => by
    rw [if_pos (wanted_yv hg y hv)]
    have he := run_bsl (A := ⟨T.toArray, ds⟩) 22 l.length pr ho vals hvl (hr w)
    unfold Oper.wp
    rw [he, Oper.upon_value, hd, put_list]
    refine hK _ _ (wpList_step fun K2 hK2 => ?_)
    rw [if_pos (wanted_yv hg2 y (hv2 _))]
    have hc := Lib.run_convert_bytes_const (P := Try.prog) w 22 5 (bv l) l.length l.length Try.underlying22 Try.underlying5
    have he2 : (execOp (Act.eval ⟨(T.set dst (.slice (some ⟨w.heap.size, 0, none⟩) l.length l.length)).toArray, ds⟩) o2).run Try.prog (w.alloc (.cells (bv l) 5)) = .ok (.value (.slice (some ⟨w.heap.size, 0, none⟩) l.length l.length)) (w.alloc (.cells (bv l) 5 ((bv l).size, (bv l).size + 1))) := by
      unfold execOp
      simp only [ho2, hx, Sem.run_bind, hc, Result.andThen_ok, Sem.run_pure]
    unfold Oper.wp
    rw [he2, Oper.upon_value, hd2, put_list]
    refine hK2 _ _ (h _ _ (gro_alloc _ _) rfl fun j hj => ?_)
    have hb := heap_alloc_new w (.cells (bv l) 5 ((bv l).size, (bv l).size + 1))
    simp only [World.cell?, hb]
    exact bv_get l j hj
end
theorem nc_cells {w : World} {g : Nat} {l : List Nat} (hc : ∀ j, j < l.length → w.cell? ⟨g, j, none⟩ = some (.int .u8 (l.getD j 0 : Int))) (hl : ∀ x ∈ l, x < 256) : NC w .u8 (some ⟨g, 0, none⟩) l.length l :=
  ⟨Nat.le_refl _, fun h => by (cases h), fun ad ha j hj => by (cases ha; rw [add_at, Nat.zero_add]; exact hc j hj), fun x hx => by (have := hl x hx; rw [max_u8]; omega)⟩
def uN (x : Int) : Nat := (x % 18446744073709551616).toNat
theorem uN_eq (x : Int) : IntKind.u64.wrap x = ((uN x : Nat) : Int) := by
  simp [IntKind.wrap, IntKind.bits, IntKind.signed, uN]
  omega
theorem conv345 {o : Oper} {A : Act} (x : Operand) (ho : o.op = .convert 3 45 x) (z : Int) (hx : A.eval x = .int .i64 z) (w : World) : (execOp A.eval o).run Try.prog w = .ok (.value (.int .u64 ((uN z : Nat) : Int))) w := by
  unfold execOp
  simp only [ho, hx]
  simp [go_sem, uN_eq]
theorem run_remN {P : Program} {o : Oper} {A : Act} (t t2 : TypeId) (x y : Operand) (ho : o.op = .binOp .rem t x y t2) (a m : Nat) (hx : A.eval x = .int .u64 (a : Int)) (hy : A.eval y = .int .u64 (m : Int)) (hm : m ≠ 0) (w : World) : (execOp A.eval o).run P w = .ok (.value (.int .u64 ((a % m : Nat) : Int))) w := by
  refine run_binop .rem t x y t2 ho _ _ _ hx hy (by simp [eqGuard]) ?_
  have h1 : (a : Int).tmod (m : Int) = ((a % m : Nat) : Int) := tmodN a m
  have h2 : (m : Int) ≠ 0 := by omega
  simp only [binOp, Op.intDiv, if_neg h2, h1]
  rfl
theorem conv453 {o : Oper} {A : Act} (x : Operand) (ho : o.op = .convert 45 3 x) (n : Nat) (hn : n < 9223372036854775808) (hx : A.eval x = .int .u64 (n : Int)) (w : World) : (execOp A.eval o).run Try.prog w = .ok (.value (.int .i64 (n : Int))) w := by
  have h : IntKind.i64.wrap (n : Int) = (n : Int) := wrap_in _ (by omega) (by omega)
  unfold execOp
  simp only [ho, hx]
  simp [go_sem, h]
theorem bvcv {w : World} {g : Nat} {L : List Nat} {t : TypeId} (hg : w.heap[g]? = some (.cells (bv L) t (0, 0))) {j v : Nat} (hj : j < L.length) (hv : L.getD j 0 = v) : w.cell? ⟨g, j, none⟩ = some (.int .u8 (v : Int)) := by
  subst hv
  exact bvc hg hj
theorem append_ok (w : World) (lp p : Nat) (h : Hd) (HK : LK w lp p h false) (sg n : Nat) (L : List Nat) (pw dn : Int) (HD : DK w p sg n L pw dn) (hu : h.u + 2 ≤ n) (ao : Option Addr) (cap : Nat) (l : List Nat) (HB : BS [p, sg] w ao cap l) (hl : l.length ≤ 1024) (hf : h.u + secN l.length + 2 ≤ n) (hP : okP pw) (hg : h.g + 1 < lim) (hc : h.c + 1 < lim) (hne1 : lp ≠ p) (hne2 : lp ≠ sg) (hd : 0 ≤ dn) (hd2 : dn < 9223372036854760000) (hA : apOK pw (secN l.length) = true) :
    Calls Try.prog 21 #[.pointer (some ⟨lp, 0, none⟩), .slice ao l.length cap] w fun e w' => ∃ dn', e = .returned (.int .i64 0) ∧ GroS [p, sg, lp] w w' ∧ dn ≤ dn' ∧ dn' ≤ dn + 20 ∧ DK w' p sg n (okL L h l) (apP pw (secN l.length)) dn' ∧ LK w' lp p (h.next (secN l.length)) false := by
  refine (append_go w lp p h HK sg n L pw dn HD hu ao cap l HB hl hf hP hg hc hne1 hne2 hd hd2).mono fun e w' H => ?_
  unfold AppendP apL apH at H
  rw [hA] at H
  exact H
theorem append_no (w : World) (lp p : Nat) (h : Hd) (HK : LK w lp p h false) (sg n : Nat) (L : List Nat) (pw dn : Int) (HD : DK w p sg n L pw dn) (hu : h.u + 2 ≤ n) (ao : Option Addr) (cap : Nat) (l : List Nat) (HB : BS [p, sg] w ao cap l) (hl : l.length ≤ 1024) (hf : h.u + secN l.length + 2 ≤ n) (hP : okP pw) (hg : h.g + 1 < lim) (hc : h.c + 1 < lim) (hne1 : lp ≠ p) (hne2 : lp ≠ sg) (hd : 0 ≤ dn) (hd2 : dn < 9223372036854760000) (hA : apOK pw (secN l.length) = false) :
    Calls Try.prog 21 #[.pointer (some ⟨lp, 0, none⟩), .slice ao l.length cap] w fun e w' => ∃ dn', e = .returned (.int .i64 8) ∧ GroS [p, sg, lp] w w' ∧ dn ≤ dn' ∧ dn' ≤ dn + 20 ∧ DK w' p sg n (apL L pw h l) (apP pw (secN l.length)) dn' ∧ LK w' lp p h true := by
  refine (append_go w lp p h HK sg n L pw dn HD hu ao cap l HB hl hf hP hg hc hne1 hne2 hd hd2).mono fun e w' H => ?_
  unfold AppendP apH at H
  rw [hA] at H
  exact H
def FA : List Nat := [97, 98, 99]
def FL1 : List Nat := okL (zs (5 * 64)) ⟨0, 0, 0⟩ [97, 98, 99]
theorem good_f1 : Good FL1 5 ⟨1, 1, 1⟩ [[97, 98, 99]] := (good_new 5 (by decide)).ok (by decide) (by decide) (by decide) (by decide)
theorem f1_7 : (secL FL1 1).getD 7 0 = 1 := by decide +kernel
theorem f1_15 : (secL FL1 1).getD 15 0 = 1 := by decide +kernel
theorem f1_23 : (secL FL1 1).getD 23 0 = 1 := by decide +kernel
theorem f1_5 : (secL FL1 2).take 5 = [0, 3, 97, 98, 99] := by decide +kernel
theorem nc_abc {w : World} {g : Nat} (hg : w.heap[g]? = some (.cells #[.int .u8 97, .int .u8 98, .int .u8 99] 5 (0, 0))) : NC w .u8 (some ⟨g, 0, none⟩) 3 [97, 98, 99] :=
  nc_blk (L := [97, 98, 99]) (off := 0) (n := 3) (cap := 3) hg (by decide) (by decide) (by decide)
theorem nc_f5 {w : World} {g : Nat} (hg : w.heap[g]? = some (.cells (bv (secL FL1 2)) 5 (0, 0))) (hb : ∀ x ∈ FL1, x < 256) : NC w .u8 (some ⟨g, 0, none⟩) 64 [0, 3, 97, 98, 99] := by
  have h := (nc_blk (L := secL FL1 2) (off := 0) (n := 64) (cap := 64) hg (by decide +kernel) (by decide) (secL_byte hb 2)).take 5 (by decide +kernel)
  rw [List.drop_zero, secL_take, f1_5] at h
  exact h
def neB (a b : List Nat) : Bool := decide (bas a ≠ bas b)
theorem q_nil {q : List (Nat × List Nat)} (h : ([] : List (List Nat)) = q.map (·.2)) : q = [] := by
  cases q with
  | nil => rfl
  | cons x y => cases h
theorem dec_nn (a b : Nat) : decide ((a : Int) = (b : Int)) = !decide (a ≠ b) := by
  by_cases h : a = b
  · subst h; simp
  · rw [decide_eq_true h, decide_eq_false (by omega)]; rfl
theorem dec_nb (a b : List Nat) : decide (bas a = bas b) = !neB a b := by
  unfold neB
  by_cases h : bas a = bas b <;> simp [h]
theorem gro_cell {w w' : World} (G : Gro w w') {a : Addr} {v : Value} (h : w.cell? a = some v) : w'.cell? a = some v := (World.cell?_of_block (G.block _ (World.block_lt_of_cell? w _ h))).trans h
theorem ext_getD {l m : List (List Nat)} (h : l.length = m.length) (hx : ∀ x, x < l.length → l.getD x [] = m.getD x []) : l = m := by
  apply List.ext_getElem h
  intro i h1 h2
  have := hx i h1
  rw [List.getD_eq_getElem?_getD, List.getD_eq_getElem?_getD, List.getElem?_eq_getElem h1, List.getElem?_eq_getElem h2] at this
  exact this
set_option maxRecDepth 100000 in
set_option maxHeartbeats 4000000 in
theorem sameAll_any (w : World) (ao : Option Addr) (cap : Nat) (ls : List (List Nat)) (HA : LC w ao cap ls) (ao2 : Option Addr) (cap2 : Nat) (ms : List (List Nat)) (HB : LC w ao2 cap2 ms) (hl : ls.length < 9223372036854775807) : Calls Try.prog 14 #[.slice ao ls.length cap, .slice ao2 ms.length cap2] w fun e w' => e = .returned (.bool (decide (ls = ms))) ∧ Gro w w' := by
  refine s_enter Try.func14 rfl Try.ntmps14 [.slice ao ls.length cap, .slice ao2 ms.length cap2] [.slice ao ls.length cap, .slice ao2 ms.length cap2, undef, undef, undef, undef, undef, undef, undef, undef, undef, undef, undef, undef, undef, undef, undef, undef, undef, undef, undef, undef, undef, undef, undef, undef, undef, undef] rfl ?_
  have GG := Gro.refl w
  refine wp_seq ?_
  refine wp_region_lit ?_
  refine s_val 4 rfl rfl (.bool false) (rfl) ?_
  refine nr ?_; intro U h; simp only [z0, z1] at h; subst h
  refine wpList_nil ?_
  refine then_n ?_
  refine wp_seq ?_
  refine wp_seq ?_
  refine wp_region_lit ?_
  refine s_val 6 rfl rfl (.slice ao ls.length cap) (rfl) ?_
  refine nr ?_; intro U h; simp only [z0, z1] at h; subst h
  refine s_val 7 rfl rfl (.int .i64 ((ls.length : Nat) : Int)) (run_len Try.underlying30 _ rfl _ _ _ rfl _) ?_
  refine nr ?_; intro U h; simp only [z0, z1] at h; subst h
  refine s_val 8 rfl rfl (.slice ao2 ms.length cap2) (rfl) ?_
  refine nr ?_; intro U h; simp only [z0, z1] at h; subst h
  refine s_val 9 rfl rfl (.int .i64 ((ms.length : Nat) : Int)) (run_len Try.underlying30 _ rfl _ _ _ rfl _) ?_
  refine nr ?_; intro U h; simp only [z0, z1] at h; subst h
  obtain ⟨p1, hp1⟩ : ∃ p, decide (ls.length ≠ ms.length) = p := ⟨_, rfl⟩
  refine s_val 10 rfl rfl (.bool p1) (run_neq_k 3 .i64 _ _ _ rfl Try.underlying3 ((ls.length : Nat) : Int) ((ms.length : Nat) : Int) rfl rfl p1 (by rw [← hp1]; exact dec_nn _ _) _) ?_
  refine nr ?_; intro U h; simp only [z0, z1] at h; subst h
  cases p1
  · have hlen : ls.length = ms.length := Decidable.of_not_not (of_decide_eq_false hp1)
    refine wpList_nil ?_
    refine then_n ?_
    refine wp_cond_false rfl ?_
    refine wp_skip ?_
    refine then_n ?_
    refine wp_seq ?_
    refine wp_seq ?_
    refine wp_region_lit ?_
    refine s_val 5 rfl rfl (.int .i64 0) (rfl) ?_
    refine nr ?_; intro U h; simp only [z0, z1] at h; subst h
    refine wpList_nil ?_
    refine then_n ?_
    refine wp_block ?_
    refine wp_loopN (fun mz az wv => ∃ (j : Nat) (us1 : Nat → Value), mz = ls.length - j ∧ az = ⟨[.slice ao ls.length cap, .slice ao2 ms.length cap2, undef, undef, us1 0, .int .i64 ((j : Nat) : Int), .slice ao ls.length cap, .int .i64 ((ls.length : Nat) : Int), .slice ao2 ms.length cap2, .int .i64 ((ms.length : Nat) : Int), .bool false, us1 1, us1 2, us1 3, us1 4, us1 5, us1 6, us1 7, us1 8, us1 9, us1 10, us1 11, us1 12, us1 13, us1 14, us1 15, us1 16, us1 17].toArray, []⟩ ∧ j ≤ ls.length ∧ (∀ x, x < j → ls.getD x [] = ms.getD x []) ∧ Gro w wv) ?_ _ ⟨0, (fun kz => ([.bool false, undef, undef, undef, undef, undef, undef, undef, undef, undef, undef, undef, undef, undef, undef, undef, undef, undef] : List Value).getD kz undef), rfl, rfl, Nat.zero_le _, (fun x hx => absurd hx (Nat.not_lt_zero _)), GG⟩
    clear GG
    rintro mz az wv ⟨j, us1, rfl, rfl, hj, hs, GG⟩
    refine wp_seq ?_
    refine wp_seq ?_
    refine wp_region_lit ?_
    refine s_val 11 rfl rfl (.int .i64 ((j : Nat) : Int)) (rfl) ?_
    refine nr ?_; intro U h; simp only [z0, z1] at h; subst h
    refine s_val 12 rfl rfl (.slice ao ls.length cap) (rfl) ?_
    refine nr ?_; intro U h; simp only [z0, z1] at h; subst h
    refine s_val 13 rfl rfl (.int .i64 ((ls.length : Nat) : Int)) (run_len Try.underlying30 _ rfl _ _ _ rfl _) ?_
    refine nr ?_; intro U h; simp only [z0, z1] at h; subst h
    obtain ⟨p2, hp2⟩ : ∃ p, decide (((j : Nat) : Int) < ((ls.length : Nat) : Int)) = p := ⟨_, rfl⟩
    refine s_val 14 rfl rfl (.bool p2) (run_lssT 3 _ _ _ rfl ((j : Nat) : Int) ((ls.length : Nat) : Int) rfl rfl p2 hp2 _) ?_
    refine nr ?_; intro U h; simp only [z0, z1] at h; subst h
    cases p2
    · have hjn : j = ls.length := by have := of_decide_eq_false hp2; omega
      have hD : decide (ls = ms) = true := decide_eq_true (ext_getD hlen fun x hx => hs x (by omega))
      refine wpList_nil ?_
      refine then_n ?_
      refine wp_cond_false rfl ?_
      refine wp_exit ?_
      refine then_x ?_
      refine then_x ?_
      refine blk_x ?_
      refine then_n ?_
      refine wp_seq ?_
      refine wp_region_lit ?_
      refine s_val 4 rfl rfl (.bool true) (rfl) ?_
      refine nr ?_; intro U h; simp only [z0, z1] at h; subst h
      refine wpList_nil ?_
      refine then_n ?_
      refine wp_ret ?_
      refine bodyPost_ret (results_tmp Try.results14 _ _ _) rfl ?_
      rw [hD]
      exact ⟨rfl, GG⟩
    have hjn : j < ls.length := by have := of_decide_eq_true hp2; omega
    obtain ⟨ad, ao3, cap3, hao, clA, ncA⟩ := (HA.gro GG).at hjn
    obtain ⟨bd, ao4, cap4, hbo, clB, ncB⟩ := (HB.gro GG).at (j := j) (by omega)
    refine wpList_nil ?_
    refine then_n ?_
    refine wp_cond_true rfl ?_
    refine wp_skip ?_
    refine then_n ?_
    refine wp_seq ?_
    refine wp_block ?_
    refine wp_seq ?_
    refine wp_region_exA (A := ?Ax1) 10 [(0, 17), (1, 18), (2, 19), (3, 20), (4, 21), (5, 22), (6, 23), (7, 24), (8, 25), (9, 26)] [.val (.slice ao ls.length cap), .val (.int .i64 ((j : Nat) : Int)), .val (.pointer (some (ad.add j))), .val (.slice ao3 ((ls.getD j []).length) cap3), .val (.string (bas (ls.getD j []))), .val (.slice ao2 ms.length cap2), .val (.int .i64 ((j : Nat) : Int)), .val (.pointer (some (bd.add j))), .val (.slice ao4 ((ms.getD j []).length) cap4), .val (.string (bas (ms.getD j [])))] follows (by kernel_rfl) rfl ?hAx1 (opsA_cons ?o0x1 (opsA_cons ?o1x1 (opsA_cons ?o2x1 (opsA_cons ?o3x1 (opsA_cons ?o4x1 (opsA_cons ?o5x1 (opsA_cons ?o6x1 (opsA_cons ?o7x1 (opsA_cons ?o8x1 (opsA_cons ?o9x1 opsA_nil)))))))))) ?restx1
    case hAx1 =>
      intro ptrs
      simp only [full, foldSlots, filledE, postE, List.foldl_cons, List.foldl_nil, List.getD_cons_zero, List.getD_cons_succ, fill_val, List.set_cons_zero, List.set_cons_succ]
      exact rfl
    case o0x1 => exact fun _ _ _ _ => opE_move (v := .slice ao ls.length cap) _ rfl rfl rfl
    case o1x1 => exact fun _ _ _ _ => opE_move (v := .int .i64 ((j : Nat) : Int)) _ rfl rfl rfl
    case o2x1 => exact fun _ _ hw _ => opE_value (v := .pointer (some (ad.add j))) rfl (run_idx23 _ _ rfl ad ls.length cap j (by exact congrArg (fun a => Value.slice a ls.length cap) hao) rfl hjn _)
    case o3x1 => exact fun _ _ hw _ => opE_value (v := .slice ao3 ((ls.getD j []).length) cap3) rfl (run_ld24 _ rfl _ rfl _ _ (gro_cell ((Gro.refl _).drew.trans hw) clA))
    case o4x1 => exact fun _ _ hw _ => opE_value (v := .string (bas (ls.getD j []))) rfl (run_text_op bT 9 Try.underlying9 _ rfl rfl (ncA.gro ((Gro.refl _).drew.trans hw)))
    case o5x1 => exact fun _ _ _ _ => opE_move (v := .slice ao2 ms.length cap2) _ rfl rfl rfl
    case o6x1 => exact fun _ _ _ _ => opE_move (v := .int .i64 ((j : Nat) : Int)) _ rfl rfl rfl
    case o7x1 => exact fun _ _ hw _ => opE_value (v := .pointer (some (bd.add j))) rfl (run_idx23 _ _ rfl bd ms.length cap2 j (by exact congrArg (fun a => Value.slice a ms.length cap2) hbo) rfl (by omega) _)
    case o8x1 => exact fun _ _ hw _ => opE_value (v := .slice ao4 ((ms.getD j []).length) cap4) rfl (run_ld24 _ rfl _ rfl _ _ (gro_cell ((Gro.refl _).drew.trans hw) clB))
    case o9x1 => exact fun _ _ hw _ => opE_value (v := .string (bas (ms.getD j []))) rfl (run_text_op bT 9 Try.underlying9 _ rfl rfl (ncB.gro ((Gro.refl _).drew.trans hw)))
    intro ptrs w1 GD hxE
    simp only [List.drop_succ_cons, List.drop_zero]
    replace GG := GG.drew.trans GD
    clear GD
    obtain ⟨p3, hp3⟩ : ∃ p, neB (ls.getD j []) (ms.getD j []) = p := ⟨_, rfl⟩
    refine s_val 27 rfl rfl (.bool p3) (run_nes_op _ _ _ rfl (bas (ls.getD j [])) (bas (ms.getD j [])) rfl rfl p3 (by rw [← hp3]; exact dec_nb _ _) _) ?_
    refine nr ?_; intro U h; simp only [z0, z1] at h; subst h
    cases p3
    · have heq : ls.getD j [] = ms.getD j [] := bas_inj ncA.lt256 ncB.lt256 (by unfold neB at hp3; simpa using hp3)
      refine wpList_nil ?_
      refine then_n ?_
      refine wp_cond_false rfl ?_
      refine wp_skip ?_
      refine blk_n ?_
      refine then_n ?_
      refine wp_region_lit ?_
      refine s_val 15 rfl rfl (.int .i64 ((j : Nat) : Int)) (rfl) ?_
      refine nr ?_; intro U h; simp only [z0, z1] at h; subst h
      refine s_val 16 rfl rfl (.int .i64 ((j + 1 : Nat) : Int)) (run_add64 _ _ _ rfl ((j : Nat) : Int) 1 _ rfl rfl (by omega) (by omega) (by omega) _) ?_
      refine nr ?_; intro U h; simp only [z0, z1] at h; subst h
      refine s_val 5 rfl rfl (.int .i64 ((j + 1 : Nat) : Int)) (rfl) ?_
      refine nr ?_; intro U h; simp only [z0, z1] at h; subst h
      refine wpList_nil ?_
      refine then_n ?_
      exact ⟨_, (by omega : ls.length - (j + 1) < ls.length - j), j + 1, (fun kz => ([us1 0, .int .i64 ((j : Nat) : Int), .slice ao ls.length cap, .int .i64 ((ls.length : Nat) : Int), .bool true, .int .i64 ((j : Nat) : Int), .int .i64 ((j + 1 : Nat) : Int), .slice ao ls.length cap, .int .i64 ((j : Nat) : Int), .pointer (some (ad.add j)), .slice ao3 ((ls.getD j []).length) cap3, .string (bas (ls.getD j [])), .slice ao2 ms.length cap2, .int .i64 ((j : Nat) : Int), .pointer (some (bd.add j)), .slice ao4 ((ms.getD j []).length) cap4, .string (bas (ms.getD j [])), .bool false] : List Value).getD kz undef), rfl, rfl, (by omega), (fun x hx => by by_cases hxe : x = j; (subst hxe; exact heq); exact hs x (by omega)), GG⟩
    have hD : decide (ls = ms) = false := decide_eq_false fun e => by subst e; unfold neB at hp3; simp at hp3
    refine wpList_nil ?_
    refine then_n ?_
    refine wp_cond_true rfl ?_
    refine wp_seq ?_
    refine wp_region_lit ?_
    refine s_val 4 rfl rfl (.bool false) (rfl) ?_
    refine nr ?_; intro U h; simp only [z0, z1] at h; subst h
    refine wpList_nil ?_
    refine then_n ?_
    refine wp_ret ?_
    refine blk_r ?_
    refine then_r ?_
    refine then_r ?_
    refine blk_r ?_
    refine then_r ?_
    refine bodyPost_ret (results_tmp Try.results14 _ _ _) rfl ?_
    rw [hD]
    exact ⟨rfl, GG⟩
  have hlen := of_decide_eq_true hp1
  have hD : decide (ls = ms) = false := decide_eq_false fun e => hlen (congrArg List.length e)
  refine wpList_nil ?_
  refine then_n ?_
  refine wp_cond_true rfl ?_
  refine wp_seq ?_
  refine wp_region_lit ?_
  refine s_val 4 rfl rfl (.bool false) (rfl) ?_
  refine nr ?_; intro U h; simp only [z0, z1] at h; subst h
  refine wpList_nil ?_
  refine then_n ?_
  refine wp_ret ?_
  refine then_r ?_
  refine bodyPost_ret (results_tmp Try.results14 _ _ _) rfl ?_
  rw [hD]
  exact ⟨rfl, GG⟩
set_option maxRecDepth 100000 in
set_option maxHeartbeats 4000000 in
theorem fixed_true (w : World) : Calls Try.prog 11 #[] w fun e w' => e = .returned (.bool true) ∧ Gro w w' := by
  refine s_enter Try.func11 rfl Try.ntmps11 [] [undef, undef, undef, undef, undef, undef, undef, undef, undef, undef, undef, undef, undef, undef, undef, undef, undef, undef, undef, undef, undef, undef, undef, undef, undef, undef, undef, undef, undef, undef, undef, undef, undef, undef, undef, undef, undef, undef, undef, undef, undef, undef, undef, undef, undef, undef, undef, undef, undef, undef, undef, undef, undef, undef, undef, undef, undef, undef, undef, undef, undef, undef, undef, undef, undef, undef, undef, undef, undef, undef, undef, undef, undef, undef, undef, undef, undef, undef, undef, undef, undef, undef, undef, undef, undef, undef, undef, undef, undef, undef, undef, undef, undef, undef, undef, undef, undef, undef, undef, undef, undef, undef, undef, undef] rfl ?_
  have GG := Gro.refl w
  refine wp_seq ?_
  refine wp_region_lit ?_
  refine s_val 0 rfl rfl (.bool false) (rfl) ?_
  refine nr ?_; intro U h; simp only [z0] at h; subst h
  refine wpList_nil ?_
  refine then_n ?_
  refine wp_seq ?_
  refine wp_region_lit ?_
  have HC := new_any w 5
  rw [show clN 5 = 5 from rfl] at HC
  refine s_callx 9 rfl rfl _ 23 Try.call23 rfl rfl _ rfl [.int .i64 5] rfl (HC) (fun _ _ ⟨_, _, he, _⟩ => ⟨_, he⟩) ?_
  rintro v w1 ⟨p, sg, he, G, bp, bsg, HD⟩
  cases he
  clear HC
  replace GG := GG.trans G
  clear G
  refine nr ?_; intro U h; simp only [z0, z1] at h; subst h
  refine s_val 1 rfl rfl (.pointer (some ⟨p, 0, none⟩)) (rfl) ?_
  refine nr ?_; intro U h; simp only [z0, z1] at h; subst h
  refine wpList_nil ?_
  refine then_n ?_
  refine wp_seq ?_
  refine wp_region_lit ?_
  refine s_val 11 rfl rfl (.pointer (some ⟨p, 0, none⟩)) (rfl) ?_
  refine nr ?_; intro U h; simp only [z0, z1] at h; subst h
  have hlp := lt_of_heap HD.box
  have hls := lt_of_heap HD.sec
  refine s_callx 12 rfl rfl _ 12 Try.call12 rfl rfl _ rfl [.pointer (some ⟨p, 0, none⟩)] rfl (open_ok _ p sg 5 (zs (5 * 64)) (-1) 0 HD (by decide) [] ((good_new 5 (by decide)).opens (by decide))) (fun _ _ ⟨_, _, _, _, he, _⟩ => ⟨_, he⟩) ?_
  rintro v w2 ⟨lp, ao, cap, q, he, hq, G, blp, HK, HL⟩
  cases he
  have hq0 := q_nil hq
  subst hq0
  rw [(good_new 5 (by decide)).counts] at HK
  have hn1 : lp ≠ p := by omega
  have hn2 : lp ≠ sg := by omega
  have blp := Nat.le_trans GG.size blp
  clear HL hq
  replace HD := HD.gro G
  replace GG := GG.trans G
  clear G
  refine nr ?_; intro U h; simp only [z0, z1] at h; subst h
  refine s_val 10 rfl rfl (.tuple #[.pointer (some ⟨lp, 0, none⟩), .slice ao 0 cap, .int .i64 0]) (rfl) ?_
  refine nr ?_; intro U h; simp only [z0, z1] at h; subst h
  refine s_val 13 rfl rfl (.pointer (some ⟨lp, 0, none⟩)) (rfl) ?_
  refine nr ?_; intro U h; simp only [z0, z1] at h; subst h
  refine s_val 14 rfl rfl (.slice ao 0 cap) (rfl) ?_
  refine nr ?_; intro U h; simp only [z0, z1] at h; subst h
  refine s_val 15 rfl rfl (.int .i64 0) (rfl) ?_
  refine nr ?_; intro U h; simp only [z0, z1] at h; subst h
  refine s_val 2 rfl rfl (.pointer (some ⟨lp, 0, none⟩)) (rfl) ?_
  refine nr ?_; intro U h; simp only [z0, z1] at h; subst h
  refine s_val 3 rfl rfl (.slice ao 0 cap) (rfl) ?_
  refine nr ?_; intro U h; simp only [z0, z1] at h; subst h
  refine s_val 4 rfl rfl (.int .i64 0) (rfl) ?_
  refine nr ?_; intro U h; simp only [z0, z1] at h; subst h
  refine wpList_nil ?_
  refine then_n ?_
  refine wp_seq ?_
  refine wp_seq ?_
  refine wp_region_opq ?_
  intro OPS hY
  have y2 := hY 2 18 rfl
  have y6 := hY 6 22 rfl
  have y10 := hY 10 26 rfl
  have y15 := hY 15 31 rfl
  have y22 := hY 22 38 rfl
  have y27 := hY 27 43 rfl
  clear hY
  refine s_val 16 rfl rfl (.pointer (some ⟨p, 0, none⟩)) (rfl) ?_
  refine nr ?_; intro U h; simp only [z0, z1] at h; subst h
  refine s_val 17 rfl rfl (.bool false) (run_eqnp 24 _ _ _ rfl _ rfl rfl Try.underlying24 _) ?_
  refine nr ?_; intro U h; simp only [z0, z1] at h; subst h
  refine s_val 18 rfl rfl (.bool false) (rfl) ?_
  refine nr ?_; intro U h; simp only [z0, z1] at h; subst h
  refine s_gvalY 19 rfl rfl y2 rfl (.pointer (some ⟨lp, 0, none⟩)) (rfl) ?_
  refine nr ?_; intro U h; simp only [z0, z1] at h; subst h
  refine s_gvalY 20 rfl rfl y2 rfl (.bool false) (run_eqnp 29 _ _ _ rfl _ rfl rfl Try.underlying29 _) ?_
  refine nr ?_; intro U h; simp only [z0, z1] at h; subst h
  refine s_val 21 rfl rfl (.bool false) (rfl) ?_
  refine nr ?_; intro U h; simp only [z0, z1] at h; subst h
  refine s_val 22 rfl rfl (.bool false) (rfl) ?_
  refine nr ?_; intro U h; simp only [z0, z1] at h; subst h
  refine s_gvalY 23 rfl rfl y6 rfl (.int .i64 0) (rfl) ?_
  refine nr ?_; intro U h; simp only [z0, z1] at h; subst h
  refine s_gvalY 24 rfl rfl y6 rfl (.bool false) (run_neq_k 31 .i64 _ _ _ rfl Try.underlying31 _ _ rfl rfl false rfl _) ?_
  refine nr ?_; intro U h; simp only [z0, z1] at h; subst h
  refine s_val 25 rfl rfl (.bool false) (rfl) ?_
  refine nr ?_; intro U h; simp only [z0, z1] at h; subst h
  refine s_val 26 rfl rfl (.bool false) (rfl) ?_
  refine nr ?_; intro U h; simp only [z0, z1] at h; subst h
  refine s_gvalY 27 rfl rfl y10 rfl (.slice ao 0 cap) (rfl) ?_
  refine nr ?_; intro U h; simp only [z0, z1] at h; subst h
  refine s_gvalY 28 rfl rfl y10 rfl (.int .i64 0) (run_len Try.underlying30 _ rfl _ _ _ rfl _) ?_
  refine nr ?_; intro U h; simp only [z0, z1] at h; subst h
  refine s_gvalY 29 rfl rfl y10 rfl (.bool false) (run_neq_k 3 .i64 _ _ _ rfl Try.underlying3 _ _ rfl rfl false rfl _) ?_
  refine nr ?_; intro U h; simp only [z0, z1] at h; subst h
  refine s_val 30 rfl rfl (.bool false) (rfl) ?_
  refine nr ?_; intro U h; simp only [z0, z1] at h; subst h
  refine s_val 31 rfl rfl (.bool false) (rfl) ?_
  refine nr ?_; intro U h; simp only [z0, z1] at h; subst h
  refine s_gvalY 32 rfl rfl y15 rfl (.pointer (some ⟨lp, 0, none⟩)) (rfl) ?_
  refine nr ?_; intro U h; simp only [z0, z1] at h; subst h
  refine s_gconstY 33 34 rfl rfl rfl rfl y15 rfl FA _ rfl [(0, .int .u8 97), (1, .int .u8 98), (2, .int .u8 99)] rfl (fun _ => by kernel_rfl) _ rfl (fun _ => rfl) (fun _ => rfl) ?_
  intro w9 gs G egs kgs
  have hgs : gs ≠ p ∧ gs ≠ sg ∧ gs ≠ lp := by have := lt_of_heap HD.box; have := lt_of_heap HD.sec; have := lt_of_heap HK.box; omega
  clear egs
  have ncs := nc_cells kgs (by decide)
  clear kgs
  replace HD := HD.gro G
  replace HK := HK.gro G
  replace GG := GG.trans G
  clear G
  refine nr ?_; intro U h; simp only [z0, z1] at h; subst h
  refine s_gcallxY 35 rfl rfl y15 rfl _ 21 Try.call21 rfl rfl _ rfl [.pointer (some ⟨lp, 0, none⟩), .slice (some ⟨gs, 0, none⟩) FA.length FA.length] rfl (append_ok _ lp p ⟨0, 0, 0⟩ HK sg 5 _ _ _ HD (by decide) (some ⟨gs, 0, none⟩) _ FA ⟨ncs, fun ad ha _ => by cases ha; simp; omega⟩ (by decide) (by decide) (by unfold okP; omega) (by decide) (by decide) hn1 hn2 (by decide) (by decide) rfl) (fun _ _ ⟨_, he, _⟩ => ⟨_, he⟩) ?_
  rintro v w10 ⟨dn, he, G, hd1, hd2, HD2, HK2⟩
  cases he
  replace GG := G.gro GG (by simp; omega)
  clear G HD HK
  have HD := HD2
  have HK := HK2
  clear HD2 HK2
  replace HD : DK _ p sg 5 FL1 (-1) dn := HD
  replace HK : LK _ lp p ⟨1, 1, 1⟩ false := HK
  have hbF := HD.byte
  have hFl := HD.len
  clear ncs
  refine nr ?_; intro U h; simp only [z0, z1] at h; subst h
  refine s_gvalY 36 rfl rfl y15 rfl (.bool false) (run_neq_k 31 .i64 _ _ _ rfl Try.underlying31 _ _ rfl rfl false rfl _) ?_
  refine nr ?_; intro U h; simp only [z0, z1] at h; subst h
  refine s_val 37 rfl rfl (.bool false) (rfl) ?_
  refine nr ?_; intro U h; simp only [z0, z1] at h; subst h
  refine s_val 38 rfl rfl (.bool false) (rfl) ?_
  refine nr ?_; intro U h; simp only [z0, z1] at h; subst h
  refine s_gvalY 39 rfl rfl y22 rfl (.pointer (some ⟨lp, 0, none⟩)) (rfl) ?_
  refine nr ?_; intro U h; simp only [z0, z1] at h; subst h
  refine s_gcallvY 40 rfl rfl y22 rfl _ 16 Try.call16 rfl rfl _ rfl [.pointer (some ⟨lp, 0, none⟩)] rfl (len_any _ lp p ⟨1, 1, 1⟩ false HK (by decide)) ?_
  intro w11 G
  replace HD := HD.gro G
  replace HK := HK.gro G
  replace GG := GG.trans G
  clear G
  refine nr ?_; intro U h; simp only [z0, z1] at h; subst h
  refine s_gvalY 41 rfl rfl y22 rfl (.bool false) (run_neq_k 3 .i64 _ _ _ rfl Try.underlying3 _ _ rfl rfl false rfl _) ?_
  refine nr ?_; intro U h; simp only [z0, z1] at h; subst h
  refine s_val 42 rfl rfl (.bool false) (rfl) ?_
  refine nr ?_; intro U h; simp only [z0, z1] at h; subst h
  refine s_val 43 rfl rfl (.bool false) (rfl) ?_
  refine nr ?_; intro U h; simp only [z0, z1] at h; subst h
  refine s_gvalY 44 rfl rfl y27 rfl (.pointer (some ⟨lp, 0, none⟩)) (rfl) ?_
  refine nr ?_; intro U h; simp only [z0, z1] at h; subst h
  refine s_gcallvY 45 rfl rfl y27 rfl _ 17 Try.call17 rfl rfl _ rfl [.pointer (some ⟨lp, 0, none⟩)] rfl (room_any _ lp p ⟨1, 1, 1⟩ false HK sg 5 _ _ _ HD (by decide)) ?_
  intro w12 G
  replace HD := HD.gro G
  replace HK := HK.gro G
  replace GG := GG.trans G
  clear G
  refine nr ?_; intro U h; simp only [z0, z1] at h; subst h
  refine s_gvalY 46 rfl rfl y27 rfl (.bool false) (run_neq_k 3 .i64 _ _ _ rfl Try.underlying3 _ _ rfl rfl false rfl _) ?_
  refine nr ?_; intro U h; simp only [z0, z1] at h; subst h
  refine s_val 47 rfl rfl (.bool false) (rfl) ?_
  refine nr ?_; intro U h; simp only [z0, z1] at h; subst h
  refine wpList_nil ?_
  refine then_n ?_
  refine wp_cond_false rfl ?_
  refine wp_skip ?_
  refine then_n ?_
  refine wp_seq ?_
  refine wp_region_lit ?_
  refine s_val 49 rfl rfl (.pointer (some ⟨p, 0, none⟩)) (rfl) ?_
  refine nr ?_; intro U h; simp only [z0, z1] at h; subst h
  refine s_callx 50 rfl rfl _ 25 Try.call25 rfl rfl _ rfl [.pointer (some ⟨p, 0, none⟩), .int .i64 1] rfl (read_ok _ p sg 5 FL1 _ _ HD 1 (by decide)) (fun _ _ ⟨_, he, _⟩ => ⟨_, he⟩) ?_
  rintro v w13 ⟨gr1, he, G, _, kgr1⟩
  cases he
  replace HD := HD.gro G
  replace HK := HK.gro G
  replace GG := GG.trans G
  clear G
  refine nr ?_; intro U h; simp only [z0, z1] at h; subst h
  refine s_val 48 rfl rfl (.tuple #[.slice (some ⟨gr1, 0, none⟩) 64 64, .int .i64 0]) (rfl) ?_
  refine nr ?_; intro U h; simp only [z0, z1] at h; subst h
  refine s_val 51 rfl rfl (.slice (some ⟨gr1, 0, none⟩) 64 64) (rfl) ?_
  refine nr ?_; intro U h; simp only [z0, z1] at h; subst h
  refine s_val 52 rfl rfl (.int .i64 0) (rfl) ?_
  refine nr ?_; intro U h; simp only [z0, z1] at h; subst h
  refine s_val 5 rfl rfl (.slice (some ⟨gr1, 0, none⟩) 64 64) (rfl) ?_
  refine nr ?_; intro U h; simp only [z0, z1] at h; subst h
  refine s_val 6 rfl rfl (.int .i64 0) (rfl) ?_
  refine nr ?_; intro U h; simp only [z0, z1] at h; subst h
  refine wpList_nil ?_
  refine then_n ?_
  refine wp_seq ?_
  refine wp_region_lit ?_
  refine s_val 54 rfl rfl (.pointer (some ⟨p, 0, none⟩)) (rfl) ?_
  refine nr ?_; intro U h; simp only [z0, z1] at h; subst h
  refine s_callx 55 rfl rfl _ 25 Try.call25 rfl rfl _ rfl [.pointer (some ⟨p, 0, none⟩), .int .i64 2] rfl (read_ok _ p sg 5 FL1 _ _ HD 2 (by decide)) (fun _ _ ⟨_, he, _⟩ => ⟨_, he⟩) ?_
  rintro v w14 ⟨gr2, he, G, _, kgr2⟩
  cases he
  replace kgr1 := G.has kgr1
  replace HD := HD.gro G
  replace HK := HK.gro G
  replace GG := GG.trans G
  clear G
  refine nr ?_; intro U h; simp only [z0, z1] at h; subst h
  refine s_val 53 rfl rfl (.tuple #[.slice (some ⟨gr2, 0, none⟩) 64 64, .int .i64 0]) (rfl) ?_
  refine nr ?_; intro U h; simp only [z0, z1] at h; subst h
  refine s_val 56 rfl rfl (.slice (some ⟨gr2, 0, none⟩) 64 64) (rfl) ?_
  refine nr ?_; intro U h; simp only [z0, z1] at h; subst h
  refine s_val 57 rfl rfl (.int .i64 0) (rfl) ?_
  refine nr ?_; intro U h; simp only [z0, z1] at h; subst h
  refine s_val 7 rfl rfl (.slice (some ⟨gr2, 0, none⟩) 64 64) (rfl) ?_
  refine nr ?_; intro U h; simp only [z0, z1] at h; subst h
  refine s_val 8 rfl rfl (.int .i64 0) (rfl) ?_
  refine nr ?_; intro U h; simp only [z0, z1] at h; subst h
  refine wpList_nil ?_
  refine then_n ?_
  refine wp_seq ?_
  refine wp_seq ?_
  refine wp_region_opq ?_
  intro OPS hY
  have y3 := hY 3 61 rfl
  have y8 := hY 8 66 rfl
  have y14 := hY 14 72 rfl
  have y20 := hY 20 78 rfl
  have y26 := hY 26 84 rfl
  clear hY
  refine s_val 58 rfl rfl (.slice (some ⟨gr1, 0, none⟩) 64 64) (rfl) ?_
  refine nr ?_; intro U h; simp only [z0, z1] at h; subst h
  refine s_val 59 rfl rfl (.int .i64 ((64 : Nat) : Int)) (run_len Try.underlying22 _ rfl _ _ _ rfl _) ?_
  refine nr ?_; intro U h; simp only [z0, z1] at h; subst h
  refine s_val 60 rfl rfl (.bool false) (run_neq_k 3 .i64 _ _ _ rfl Try.underlying3 64 64 rfl rfl false rfl _) ?_
  refine nr ?_; intro U h; simp only [z0, z1] at h; subst h
  refine s_val 61 rfl rfl (.bool false) (rfl) ?_
  refine nr ?_; intro U h; simp only [z0, z1] at h; subst h
  refine s_gvalY 62 rfl rfl y3 rfl (.slice (some ⟨gr2, 0, none⟩) 64 64) (rfl) ?_
  refine nr ?_; intro U h; simp only [z0, z1] at h; subst h
  refine s_gvalY 63 rfl rfl y3 rfl (.int .i64 ((64 : Nat) : Int)) (run_len Try.underlying22 _ rfl _ _ _ rfl _) ?_
  refine nr ?_; intro U h; simp only [z0, z1] at h; subst h
  refine s_gvalY 64 rfl rfl y3 rfl (.bool false) (run_neq_k 3 .i64 _ _ _ rfl Try.underlying3 64 64 rfl rfl false rfl _) ?_
  refine nr ?_; intro U h; simp only [z0, z1] at h; subst h
  refine s_val 65 rfl rfl (.bool false) (rfl) ?_
  refine nr ?_; intro U h; simp only [z0, z1] at h; subst h
  refine s_val 66 rfl rfl (.bool false) (rfl) ?_
  refine nr ?_; intro U h; simp only [z0, z1] at h; subst h
  refine s_gvalY 67 rfl rfl y8 rfl (.slice (some ⟨gr1, 0, none⟩) 64 64) (rfl) ?_
  refine nr ?_; intro U h; simp only [z0, z1] at h; subst h
  refine s_gvalY 68 rfl rfl y8 rfl (.pointer (some ⟨gr1, 7, none⟩)) (bat _ _ rfl gr1 64 64 7 rfl rfl (by decide) _) ?_
  refine nr ?_; intro U h; simp only [z0, z1] at h; subst h
  refine s_gvalY 69 rfl rfl y8 rfl (.int .u8 1) (run_ld bT _ rfl ⟨gr1, 7, none⟩ rfl _ _ (bvcv kgr1 (by rw [secL_len hFl (by decide)]; decide) f1_7)) ?_
  refine nr ?_; intro U h; simp only [z0, z1] at h; subst h
  refine s_gvalY 70 rfl rfl y8 rfl (.bool false) (run_neq_k 5 .u8 _ _ _ rfl Try.underlying5 _ _ rfl rfl false rfl _) ?_
  refine nr ?_; intro U h; simp only [z0, z1] at h; subst h
  refine s_val 71 rfl rfl (.bool false) (rfl) ?_
  refine nr ?_; intro U h; simp only [z0, z1] at h; subst h
  refine s_val 72 rfl rfl (.bool false) (rfl) ?_
  refine nr ?_; intro U h; simp only [z0, z1] at h; subst h
  refine s_gvalY 73 rfl rfl y14 rfl (.slice (some ⟨gr1, 0, none⟩) 64 64) (rfl) ?_
  refine nr ?_; intro U h; simp only [z0, z1] at h; subst h
  refine s_gvalY 74 rfl rfl y14 rfl (.pointer (some ⟨gr1, 15, none⟩)) (bat _ _ rfl gr1 64 64 15 rfl rfl (by decide) _) ?_
  refine nr ?_; intro U h; simp only [z0, z1] at h; subst h
  refine s_gvalY 75 rfl rfl y14 rfl (.int .u8 1) (run_ld bT _ rfl ⟨gr1, 15, none⟩ rfl _ _ (bvcv kgr1 (by rw [secL_len hFl (by decide)]; decide) f1_15)) ?_
  refine nr ?_; intro U h; simp only [z0, z1] at h; subst h
  refine s_gvalY 76 rfl rfl y14 rfl (.bool false) (run_neq_k 5 .u8 _ _ _ rfl Try.underlying5 _ _ rfl rfl false rfl _) ?_
  refine nr ?_; intro U h; simp only [z0, z1] at h; subst h
  refine s_val 77 rfl rfl (.bool false) (rfl) ?_
  refine nr ?_; intro U h; simp only [z0, z1] at h; subst h
  refine s_val 78 rfl rfl (.bool false) (rfl) ?_
  refine nr ?_; intro U h; simp only [z0, z1] at h; subst h
  refine s_gvalY 79 rfl rfl y20 rfl (.slice (some ⟨gr1, 0, none⟩) 64 64) (rfl) ?_
  refine nr ?_; intro U h; simp only [z0, z1] at h; subst h
  refine s_gvalY 80 rfl rfl y20 rfl (.pointer (some ⟨gr1, 23, none⟩)) (bat _ _ rfl gr1 64 64 23 rfl rfl (by decide) _) ?_
  refine nr ?_; intro U h; simp only [z0, z1] at h; subst h
  refine s_gvalY 81 rfl rfl y20 rfl (.int .u8 1) (run_ld bT _ rfl ⟨gr1, 23, none⟩ rfl _ _ (bvcv kgr1 (by rw [secL_len hFl (by decide)]; decide) f1_23)) ?_
  refine nr ?_; intro U h; simp only [z0, z1] at h; subst h
  refine s_gvalY 82 rfl rfl y20 rfl (.bool false) (run_neq_k 5 .u8 _ _ _ rfl Try.underlying5 _ _ rfl rfl false rfl _) ?_
  refine nr ?_; intro U h; simp only [z0, z1] at h; subst h
  refine s_val 83 rfl rfl (.bool false) (rfl) ?_
  refine nr ?_; intro U h; simp only [z0, z1] at h; subst h
  refine s_val 84 rfl rfl (.bool false) (rfl) ?_
  refine nr ?_; intro U h; simp only [z0, z1] at h; subst h
  refine s_gvalY 85 rfl rfl y26 rfl (.slice (some ⟨gr2, 0, none⟩) 64 64) (rfl) ?_
  refine nr ?_; intro U h; simp only [z0, z1] at h; subst h
  refine s_gvalY 86 rfl rfl y26 rfl (.slice (some ⟨gr2, 0, none⟩) 5 64) (run_cut0 bT _ _ rfl (some ⟨gr2, 0, none⟩) 64 64 5 rfl rfl (by decide) _) ?_
  refine nr ?_; intro U h; simp only [z0, z1] at h; subst h
  refine s_gvalY 87 rfl rfl y26 rfl (.string (bas [0, 3, 97, 98, 99])) (run_text_op bT 9 Try.underlying9 _ rfl (l := [0, 3, 97, 98, 99]) (cap := 64) rfl (nc_f5 kgr2 hbF)) ?_
  refine nr ?_; intro U h; simp only [z0, z1] at h; subst h
  refine s_gvalY 88 rfl rfl y26 rfl (.bool false) (run_nes_op _ _ _ rfl (bas [0, 3, 97, 98, 99]) (bas [0, 3, 97, 98, 99]) rfl (by kernel_rfl) false (decide_eq_true rfl) _) ?_
  refine nr ?_; intro U h; simp only [z0, z1] at h; subst h
  refine s_val 89 rfl rfl (.bool false) (rfl) ?_
  refine nr ?_; intro U h; simp only [z0, z1] at h; subst h
  refine wpList_nil ?_
  refine then_n ?_
  refine wp_cond_false rfl ?_
  refine wp_skip ?_
  refine then_n ?_
  refine wp_seq ?_
  refine wp_region_opq ?_
  intro OPS hY
  have y4 := hY 4 94 rfl
  have y9 := hY 9 99 rfl
  clear hY
  refine s_val 90 rfl rfl (.pointer (some ⟨lp, 0, none⟩)) (rfl) ?_
  refine nr ?_; intro U h; simp only [z0, z1] at h; subst h
  have hbz1 := lt_of_heap HD.box
  have hbz2 := lt_of_heap HD.sec
  have hbz3 := lt_of_heap HK.box
  refine s_make bT 91 rfl rfl _ _ rfl 63 rfl rfl (by omega) (by simp only [maxLen]; omega) ?_
  intro w20 gz G egz kgz
  have hgz : gz ≠ p ∧ gz ≠ sg ∧ gz ≠ lp := by omega
  clear egz
  replace HD := HD.gro G
  replace HK := HK.gro G
  replace GG := GG.trans G
  clear G
  refine nr ?_; intro U h; simp only [z0, z1] at h; subst h
  refine s_callx 92 rfl rfl _ 21 Try.call21 rfl rfl _ rfl [.pointer (some ⟨lp, 0, none⟩), .slice (some ⟨gz, 0, none⟩) 63 63] rfl (append_ok _ lp p ⟨1, 1, 1⟩ HK sg 5 _ _ _ HD (by decide) (some ⟨gz, 0, none⟩) 63 (zs 63) ⟨nc_all kgz (zs_byte 63), fun ad ha _ => by cases ha; simp; omega⟩ (by decide) (by decide) (by unfold okP; omega) (by decide) (by decide) hn1 hn2 (by omega) (by omega) rfl) (fun _ _ ⟨_, he, _⟩ => ⟨_, he⟩) ?_
  rintro v w21 ⟨dn3, he, G, hd3, hd4, HD2, HK2⟩
  cases he
  replace GG := G.gro GG (by simp; omega)
  clear G HD HK
  have HD := HD2
  have HK := HK2
  clear HD2 HK2
  replace HK : LK _ lp p ⟨2, 3, 2⟩ false := HK
  refine nr ?_; intro U h; simp only [z0, z1] at h; subst h
  refine s_val 93 rfl rfl (.bool true) (run_eq_k 31 .i64 _ _ _ rfl Try.underlying31 _ _ rfl rfl true rfl _) ?_
  refine nr ?_; intro U h; simp only [z0, z1] at h; subst h
  refine s_val 94 rfl rfl (.bool true) (rfl) ?_
  refine nr ?_; intro U h; simp only [z0, z1] at h; subst h
  refine s_gvalY 95 rfl rfl y4 rfl (.pointer (some ⟨lp, 0, none⟩)) (rfl) ?_
  refine nr ?_; intro U h; simp only [z0, z1] at h; subst h
  refine s_gcallvY 96 rfl rfl y4 rfl _ 21 Try.call21 rfl rfl _ rfl [.pointer (some ⟨lp, 0, none⟩), .slice none 0 0] rfl (append_full _ lp p ⟨2, 3, 2⟩ HK sg 5 _ _ _ HD (by decide) none 0 [] (by decide) (by decide)) ?_
  intro w22 G
  replace HD := HD.gro G
  replace HK := HK.gro G
  replace GG := GG.trans G
  clear G
  refine nr ?_; intro U h; simp only [z0, z1] at h; subst h
  refine s_gvalY 97 rfl rfl y4 rfl (.bool true) (run_eq_k 31 .i64 _ _ _ rfl Try.underlying31 _ _ rfl rfl true rfl _) ?_
  refine nr ?_; intro U h; simp only [z0, z1] at h; subst h
  refine s_val 98 rfl rfl (.bool true) (rfl) ?_
  refine nr ?_; intro U h; simp only [z0, z1] at h; subst h
  refine s_val 99 rfl rfl (.bool true) (rfl) ?_
  refine nr ?_; intro U h; simp only [z0, z1] at h; subst h
  refine s_gvalY 100 rfl rfl y9 rfl (.pointer (some ⟨lp, 0, none⟩)) (rfl) ?_
  refine nr ?_; intro U h; simp only [z0, z1] at h; subst h
  refine s_gcallvY 101 rfl rfl y9 rfl _ 19 Try.call19 rfl rfl _ rfl [.pointer (some ⟨lp, 0, none⟩)] rfl (down_any _ lp p ⟨2, 3, 2⟩ false HK) ?_
  intro w23 G
  replace HD := HD.gro G
  replace HK := HK.gro G
  replace GG := GG.trans G
  clear G
  refine nr ?_; intro U h; simp only [z0, z1] at h; subst h
  refine s_gvalY 102 rfl rfl y9 rfl (.bool true) (run_nt _ _ rfl false rfl) ?_
  refine nr ?_; intro U h; simp only [z0, z1] at h; subst h
  refine s_val 103 rfl rfl (.bool true) (rfl) ?_
  refine nr ?_; intro U h; simp only [z0, z1] at h; subst h
  refine s_val 0 rfl rfl (.bool true) (rfl) ?_
  refine nr ?_; intro U h; simp only [z0] at h; subst h
  refine wpList_nil ?_
  refine then_n ?_
  refine wp_ret ?_
  refine bodyPost_ret (results_tmp Try.results11 _ _ _) rfl ?_
  exact ⟨rfl, GG⟩
set_option maxRecDepth 100000 in
set_option maxHeartbeats 4000000 in
theorem slateNil_any (w : World) (ao : Option Addr) (cap : Nat) (l : List Nat) (small : Int) : Calls Try.prog 8 #[.slice ao l.length cap, .int .i64 small] w fun e w' => e = .returned (.bool true) ∧ Gro w w' := by
  refine s_enter Try.func8 rfl Try.ntmps8 [.slice ao l.length cap, .int .i64 small] [.slice ao l.length cap, .int .i64 small, undef, undef, undef, undef, undef, undef, undef, undef, undef, undef, undef, undef, undef, undef, undef, undef, undef, undef, undef, undef, undef, undef, undef, undef, undef, undef, undef, undef, undef, undef, undef, undef, undef, undef, undef, undef, undef, undef, undef, undef, undef, undef, undef, undef, undef, undef, undef, undef, undef, undef, undef, undef, undef, undef, undef, undef, undef, undef, undef, undef, undef, undef, undef, undef, undef, undef, undef, undef, undef, undef, undef, undef, undef] rfl ?_
  have GG := Gro.refl w
  refine wp_seq ?_
  refine wp_region_lit ?_
  refine s_val 4 rfl rfl (.bool false) (rfl) ?_
  refine nr ?_; intro U h; simp only [z0, z1] at h; subst h
  refine wpList_nil ?_
  refine then_n ?_
  refine wp_seq ?_
  refine wp_region_lit ?_
  refine s_val 5 rfl rfl (.pointer none) (rfl) ?_
  refine nr ?_; intro U h; simp only [z0, z1] at h; subst h
  refine wpList_nil ?_
  refine then_n ?_
  refine wp_seq ?_
  refine wp_region_lit ?_
  refine s_callv 13 rfl rfl _ 12 Try.call12 rfl rfl _ rfl [.pointer none] rfl (open_nil _) ?_
  intro w1 G
  replace GG := GG.trans G
  clear G
  refine nr ?_; intro U h; simp only [z0, z1] at h; subst h
  refine s_val 12 rfl rfl (.tuple #[.pointer none, .slice none 0 0, .int .i64 1]) (rfl) ?_
  refine nr ?_; intro U h; simp only [z0, z1] at h; subst h
  refine s_val 14 rfl rfl (.pointer none) (rfl) ?_
  refine nr ?_; intro U h; simp only [z0, z1] at h; subst h
  refine s_val 15 rfl rfl (.slice none 0 0) (rfl) ?_
  refine nr ?_; intro U h; simp only [z0, z1] at h; subst h
  refine s_val 16 rfl rfl (.int .i64 1) (rfl) ?_
  refine nr ?_; intro U h; simp only [z0, z1] at h; subst h
  refine s_val 6 rfl rfl (.pointer none) (rfl) ?_
  refine nr ?_; intro U h; simp only [z0, z1] at h; subst h
  refine s_val 7 rfl rfl (.slice none 0 0) (rfl) ?_
  refine nr ?_; intro U h; simp only [z0, z1] at h; subst h
  refine s_val 8 rfl rfl (.int .i64 1) (rfl) ?_
  refine nr ?_; intro U h; simp only [z0, z1] at h; subst h
  refine wpList_nil ?_
  refine then_n ?_
  refine wp_seq ?_
  refine wp_region_lit ?_
  refine s_val 18 rfl rfl (.int .i64 small) (rfl) ?_
  refine nr ?_; intro U h; simp only [z0, z1] at h; subst h
  refine s_val 19 rfl rfl (.int .u64 ((uN small : Nat) : Int)) (conv345 _ rfl small rfl _) ?_
  refine nr ?_; intro U h; simp only [z0, z1] at h; subst h
  refine s_val 20 rfl rfl (.int .u64 ((uN small % 3 : Nat) : Int)) (run_remN 45 45 _ _ rfl (uN small) 3 rfl rfl (by decide) _) ?_
  refine nr ?_; intro U h; simp only [z0, z1] at h; subst h
  refine s_val 21 rfl rfl (.int .i64 ((uN small % 3 : Nat) : Int)) (conv453 _ rfl (uN small % 3) (by omega) rfl _) ?_
  refine nr ?_; intro U h; simp only [z0, z1] at h; subst h
  refine s_callx 22 rfl rfl _ 23 Try.call23 rfl rfl _ rfl [.int .i64 ((uN small % 3 : Nat) : Int)] rfl (new_any _ ((uN small % 3 : Nat) : Int)) (fun _ _ ⟨_, _, he, _⟩ => ⟨_, he⟩) ?_
  rintro v w2 ⟨p, sg, he, G, bp, bsg, HD⟩
  cases he
  replace GG := GG.trans G
  clear G
  refine nr ?_; intro U h; simp only [z0, z1] at h; subst h
  refine s_callv 23 rfl rfl _ 12 Try.call12 rfl rfl _ rfl [.pointer (some ⟨p, 0, none⟩)] rfl (open_small _ p sg _ _ _ _ HD (by have := clN_nat (uN small % 3) (by omega); omega)) ?_
  intro w3 G
  replace HD := HD.gro G
  replace GG := GG.trans G
  clear G
  refine nr ?_; intro U h; simp only [z0, z1] at h; subst h
  refine s_val 17 rfl rfl (.tuple #[.pointer none, .slice none 0 0, .int .i64 1]) (rfl) ?_
  refine nr ?_; intro U h; simp only [z0, z1] at h; subst h
  refine s_val 24 rfl rfl (.pointer none) (rfl) ?_
  refine nr ?_; intro U h; simp only [z0, z1] at h; subst h
  refine s_val 25 rfl rfl (.slice none 0 0) (rfl) ?_
  refine nr ?_; intro U h; simp only [z0, z1] at h; subst h
  refine s_val 26 rfl rfl (.int .i64 1) (rfl) ?_
  refine nr ?_; intro U h; simp only [z0, z1] at h; subst h
  refine s_val 9 rfl rfl (.pointer none) (rfl) ?_
  refine nr ?_; intro U h; simp only [z0, z1] at h; subst h
  refine s_val 10 rfl rfl (.slice none 0 0) (rfl) ?_
  refine nr ?_; intro U h; simp only [z0, z1] at h; subst h
  refine s_val 11 rfl rfl (.int .i64 1) (rfl) ?_
  refine nr ?_; intro U h; simp only [z0, z1] at h; subst h
  refine wpList_nil ?_
  refine then_n ?_
  refine wp_seq ?_
  refine wp_region_opq ?_
  intro OPS hY
  have y1 := hY 1 28 rfl
  have y7 := hY 7 34 rfl
  have y12 := hY 12 39 rfl
  have y17 := hY 17 44 rfl
  have y22 := hY 22 49 rfl
  have y26 := hY 26 53 rfl
  have y31 := hY 31 58 rfl
  have y35 := hY 35 62 rfl
  have y39 := hY 39 66 rfl
  have y44 := hY 44 71 rfl
  clear hY
  refine s_callv 27 rfl rfl _ 11 Try.call11 rfl rfl _ rfl [] rfl (fixed_true _) ?_
  intro w4 G
  replace HD := HD.gro G
  replace GG := GG.trans G
  clear G
  refine nr ?_; intro U h; simp only [z0, z1] at h; subst h
  refine s_val 28 rfl rfl (.bool true) (rfl) ?_
  refine nr ?_; intro U h; simp only [z0, z1] at h; subst h
  refine s_gvalY 29 rfl rfl y1 rfl (.pointer none) (rfl) ?_
  refine nr ?_; intro U h; simp only [z0, z1] at h; subst h
  refine s_gvalY 30 rfl rfl y1 rfl (.slice ao l.length cap) (rfl) ?_
  refine nr ?_; intro U h; simp only [z0, z1] at h; subst h
  refine s_gcallvY 31 rfl rfl y1 rfl _ 21 Try.call21 rfl rfl _ rfl [.pointer none, .slice ao l.length cap] rfl (append_nil _ ao cap l) ?_
  intro w5 G
  replace HD := HD.gro G
  replace GG := GG.trans G
  clear G
  refine nr ?_; intro U h; simp only [z0, z1] at h; subst h
  refine s_gvalY 32 rfl rfl y1 rfl (.bool true) (run_eq_k 31 .i64 _ _ _ rfl Try.underlying31 _ _ rfl rfl true rfl _) ?_
  refine nr ?_; intro U h; simp only [z0, z1] at h; subst h
  refine s_val 33 rfl rfl (.bool true) (rfl) ?_
  refine nr ?_; intro U h; simp only [z0, z1] at h; subst h
  refine s_val 34 rfl rfl (.bool true) (rfl) ?_
  refine nr ?_; intro U h; simp only [z0, z1] at h; subst h
  refine s_gvalY 35 rfl rfl y7 rfl (.pointer none) (rfl) ?_
  refine nr ?_; intro U h; simp only [z0, z1] at h; subst h
  refine s_gcallvY 36 rfl rfl y7 rfl _ 16 Try.call16 rfl rfl _ rfl [.pointer none] rfl (len_nil _) ?_
  intro w6 G
  replace HD := HD.gro G
  replace GG := GG.trans G
  clear G
  refine nr ?_; intro U h; simp only [z0, z1] at h; subst h
  refine s_gvalY 37 rfl rfl y7 rfl (.bool true) (run_eq_k 3 .i64 _ _ _ rfl Try.underlying3 _ _ rfl rfl true rfl _) ?_
  refine nr ?_; intro U h; simp only [z0, z1] at h; subst h
  refine s_val 38 rfl rfl (.bool true) (rfl) ?_
  refine nr ?_; intro U h; simp only [z0, z1] at h; subst h
  refine s_val 39 rfl rfl (.bool true) (rfl) ?_
  refine nr ?_; intro U h; simp only [z0, z1] at h; subst h
  refine s_gvalY 40 rfl rfl y12 rfl (.pointer none) (rfl) ?_
  refine nr ?_; intro U h; simp only [z0, z1] at h; subst h
  refine s_gcallvY 41 rfl rfl y12 rfl _ 17 Try.call17 rfl rfl _ rfl [.pointer none] rfl (room_nil _) ?_
  intro w7 G
  replace HD := HD.gro G
  replace GG := GG.trans G
  clear G
  refine nr ?_; intro U h; simp only [z0, z1] at h; subst h
  refine s_gvalY 42 rfl rfl y12 rfl (.bool true) (run_eq_k 3 .i64 _ _ _ rfl Try.underlying3 _ _ rfl rfl true rfl _) ?_
  refine nr ?_; intro U h; simp only [z0, z1] at h; subst h
  refine s_val 43 rfl rfl (.bool true) (rfl) ?_
  refine nr ?_; intro U h; simp only [z0, z1] at h; subst h
  refine s_val 44 rfl rfl (.bool true) (rfl) ?_
  refine nr ?_; intro U h; simp only [z0, z1] at h; subst h
  refine s_gvalY 45 rfl rfl y17 rfl (.pointer none) (rfl) ?_
  refine nr ?_; intro U h; simp only [z0, z1] at h; subst h
  refine s_gcallvY 46 rfl rfl y17 rfl _ 19 Try.call19 rfl rfl _ rfl [.pointer none] rfl (down_nil _) ?_
  intro w8 G
  replace HD := HD.gro G
  replace GG := GG.trans G
  clear G
  refine nr ?_; intro U h; simp only [z0, z1] at h; subst h
  refine s_gvalY 47 rfl rfl y17 rfl (.bool true) (run_nt _ _ rfl false rfl) ?_
  refine nr ?_; intro U h; simp only [z0, z1] at h; subst h
  refine s_val 48 rfl rfl (.bool true) (rfl) ?_
  refine nr ?_; intro U h; simp only [z0, z1] at h; subst h
  refine s_val 49 rfl rfl (.bool true) (rfl) ?_
  refine nr ?_; intro U h; simp only [z0, z1] at h; subst h
  refine s_gvalY 50 rfl rfl y22 rfl (.pointer none) (rfl) ?_
  refine nr ?_; intro U h; simp only [z0, z1] at h; subst h
  refine s_gvalY 51 rfl rfl y22 rfl (.bool true) (run_eqnn 29 _ _ _ rfl rfl rfl Try.underlying29 _) ?_
  refine nr ?_; intro U h; simp only [z0, z1] at h; subst h
  refine s_val 52 rfl rfl (.bool true) (rfl) ?_
  refine nr ?_; intro U h; simp only [z0, z1] at h; subst h
  refine s_val 53 rfl rfl (.bool true) (rfl) ?_
  refine nr ?_; intro U h; simp only [z0, z1] at h; subst h
  refine s_gvalY 54 rfl rfl y26 rfl (.slice none 0 0) (rfl) ?_
  refine nr ?_; intro U h; simp only [z0, z1] at h; subst h
  refine s_gvalY 55 rfl rfl y26 rfl (.int .i64 0) (run_len Try.underlying30 _ rfl _ _ _ rfl _) ?_
  refine nr ?_; intro U h; simp only [z0, z1] at h; subst h
  refine s_gvalY 56 rfl rfl y26 rfl (.bool true) (run_eq_k 3 .i64 _ _ _ rfl Try.underlying3 _ _ rfl rfl true rfl _) ?_
  refine nr ?_; intro U h; simp only [z0, z1] at h; subst h
  refine s_val 57 rfl rfl (.bool true) (rfl) ?_
  refine nr ?_; intro U h; simp only [z0, z1] at h; subst h
  refine s_val 58 rfl rfl (.bool true) (rfl) ?_
  refine nr ?_; intro U h; simp only [z0, z1] at h; subst h
  refine s_gvalY 59 rfl rfl y31 rfl (.int .i64 1) (rfl) ?_
  refine nr ?_; intro U h; simp only [z0, z1] at h; subst h
  refine s_gvalY 60 rfl rfl y31 rfl (.bool true) (run_eq_k 31 .i64 _ _ _ rfl Try.underlying31 _ _ rfl rfl true rfl _) ?_
  refine nr ?_; intro U h; simp only [z0, z1] at h; subst h
  refine s_val 61 rfl rfl (.bool true) (rfl) ?_
  refine nr ?_; intro U h; simp only [z0, z1] at h; subst h
  refine s_val 62 rfl rfl (.bool true) (rfl) ?_
  refine nr ?_; intro U h; simp only [z0, z1] at h; subst h
  refine s_gvalY 63 rfl rfl y35 rfl (.pointer none) (rfl) ?_
  refine nr ?_; intro U h; simp only [z0, z1] at h; subst h
  refine s_gvalY 64 rfl rfl y35 rfl (.bool true) (run_eqnn 29 _ _ _ rfl rfl rfl Try.underlying29 _) ?_
  refine nr ?_; intro U h; simp only [z0, z1] at h; subst h
  refine s_val 65 rfl rfl (.bool true) (rfl) ?_
  refine nr ?_; intro U h; simp only [z0, z1] at h; subst h
  refine s_val 66 rfl rfl (.bool true) (rfl) ?_
  refine nr ?_; intro U h; simp only [z0, z1] at h; subst h
  refine s_gvalY 67 rfl rfl y39 rfl (.slice none 0 0) (rfl) ?_
  refine nr ?_; intro U h; simp only [z0, z1] at h; subst h
  refine s_gvalY 68 rfl rfl y39 rfl (.int .i64 0) (run_len Try.underlying30 _ rfl _ _ _ rfl _) ?_
  refine nr ?_; intro U h; simp only [z0, z1] at h; subst h
  refine s_gvalY 69 rfl rfl y39 rfl (.bool true) (run_eq_k 3 .i64 _ _ _ rfl Try.underlying3 _ _ rfl rfl true rfl _) ?_
  refine nr ?_; intro U h; simp only [z0, z1] at h; subst h
  refine s_val 70 rfl rfl (.bool true) (rfl) ?_
  refine nr ?_; intro U h; simp only [z0, z1] at h; subst h
  refine s_val 71 rfl rfl (.bool true) (rfl) ?_
  refine nr ?_; intro U h; simp only [z0, z1] at h; subst h
  refine s_gvalY 72 rfl rfl y44 rfl (.int .i64 1) (rfl) ?_
  refine nr ?_; intro U h; simp only [z0, z1] at h; subst h
  refine s_gvalY 73 rfl rfl y44 rfl (.bool true) (run_eq_k 31 .i64 _ _ _ rfl Try.underlying31 _ _ rfl rfl true rfl _) ?_
  refine nr ?_; intro U h; simp only [z0, z1] at h; subst h
  refine s_val 74 rfl rfl (.bool true) (rfl) ?_
  refine nr ?_; intro U h; simp only [z0, z1] at h; subst h
  refine s_val 4 rfl rfl (.bool true) (rfl) ?_
  refine nr ?_; intro U h; simp only [z0, z1] at h; subst h
  refine wpList_nil ?_
  refine then_n ?_
  refine wp_ret ?_
  refine bodyPost_ret (results_tmp Try.results8 _ _ _) rfl ?_
  exact ⟨rfl, GG⟩
end Go.Proofs.Ytaejjmoocnpdaaa
