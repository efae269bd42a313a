/- Reading: the reader's state, numbers, identities, texts. -/
import Derived.Test.YthmcnlmphikicabZG3
namespace Go.Proofs.Ythmcnlmphikicab
open Go.RowKit
/-! ### Worlds that only grow, but for one block -/
structure GroR (rb : Nat) (w w' : World) : Prop where
  os : w'.os = w.os
  tape : w'.tape = w.tape
  output : w'.output = w.output
  size : w.heap.size ≤ w'.heap.size
  old : ∀ k, k < w.heap.size → k ≠ rb → w'.heap[k]? = w.heap[k]?
theorem GroR.refl (rb : Nat) (w : World) : GroR rb w w := ⟨rfl, rfl, rfl, Nat.le_refl _, fun _ _ _ => rfl⟩
theorem GroR.trans {rb : Nat} {a b c : World} (h : GroR rb a b) (k : GroR rb b c) : GroR rb a c :=
  ⟨k.os.trans h.os, k.tape.trans h.tape, k.output.trans h.output, Nat.le_trans h.size k.size, fun i hi hn => (k.old i (Nat.lt_of_lt_of_le hi h.size) hn).trans (h.old i hi hn)⟩
theorem GroR.of {rb : Nat} {a b : World} (h : Gro a b) : GroR rb a b := ⟨h.os, h.tape, h.output, h.size, fun k hk _ => h.block k hk⟩
theorem GroR.tg {rb : Nat} {a b c : World} (h : GroR rb a b) (k : Gro b c) : GroR rb a c := h.trans (.of k)
theorem GroR.st {rb g : Nat} {a b c : World} {x : Obj} (h : GroR rb a b) (S : Stored b c g x) (hg : a.heap.size ≤ g) : GroR rb a c :=
  ⟨S.os.trans h.os, S.tape.trans h.tape, S.output.trans h.output, Nat.le_trans h.size (Nat.le_of_eq S.size.symm), fun i hi hn => (S.old i (by omega)).trans (h.old i hi hn)⟩
theorem GroR.stR {rb : Nat} {a b c : World} {x : Obj} (h : GroR rb a b) (S : Stored b c rb x) : GroR rb a c :=
  ⟨S.os.trans h.os, S.tape.trans h.tape, S.output.trans h.output, Nat.le_trans h.size (Nat.le_of_eq S.size.symm), fun i hi hn => (S.old i hn).trans (h.old i hi hn)⟩
theorem GroR.has {rb k : Nat} {a b : World} {x : Obj} (h : GroR rb a b) (hk : a.heap[k]? = some x) (hn : k ≠ rb) : b.heap[k]? = some x := by
  rw [h.old k (lt_of_heap hk) hn]; exact hk
theorem GroR.below {rb B : Nat} {a b : World} (h : GroR rb a b) (hB : B ≤ rb) (hs : B ≤ a.heap.size) : Below B a b := ⟨h.os, h.tape, h.output, h.size, fun k hk => h.old k (by omega) (by omega)⟩
theorem size_baseR {rb g : Nat} {w cur : World} (h : GroR rb w cur) (e : cur.heap.size = g) : w.heap.size ≤ g := e ▸ h.size
theorem ox_gror {rb : Nat} {w w' : World} {e : TypeId} {sz B : Nat} {ao : Option Addr} {cap n : Nat} {cs : List Value} (h : OX w e sz B ao cap n cs) (G : GroR rb w w') (hne : rb < B) : OX w' e sz B ao cap n cs :=
  ⟨h.own.kept (row := some rb) ⟨G.os, G.tape, G.output, G.size, fun k hk hn => G.old k hk (fun e => hn (by rw [e]))⟩ (by
    cases ao with
    | none => exact .inl rfl
    | some ad => exact .inr fun e => by have := h.ge ad rfl; simp [Value.ownBlock] at e; omega), h.one⟩
structure BS (rb : Nat) (w : World) (so : Option Addr) (sc : Nat) (l : List Nat) : Prop where
  nc : NC w .u8 so sc l
  ne : ∀ ad, so = some ad → 0 < l.length → ad.block ≠ rb
theorem BS.gror {rb : Nat} {w w' : World} {so : Option Addr} {sc : Nat} {l : List Nat} (h : BS rb w so sc l) (G : GroR rb w w') : BS rb w' so sc l :=
  ⟨⟨h.nc.fit, h.nc.bare, fun ad ha j hj => by
    have h1 := h.nc.cell ad ha j hj
    have hb : (ad.add j).block = ad.block := add_block ad j
    exact (World.cell?_of_block (G.old _ (World.block_lt_of_cell? w _ h1) (by rw [hb]; exact h.ne ad ha (by omega)))).trans h1, h.nc.wf⟩, h.ne⟩
def thrown (e : Nat) : List PanicEntry := [{ v := .iface 47 (.int .i64 (e : Int)), recovered := false }]
def RdP {α : Type} (rb : Nat) (so : Option Addr) (sc n : Nat) (w : World) (r : Except Nat (α × Nat)) (vp : α → Value → World → Prop) (e : Ending) (w' : World) : Prop :=
  GroR rb w w' ∧ match r with
    | .ok (a, q) => ∃ v, e = .returned v ∧ vp a v w' ∧ w'.heap[rb]? = some (.cells (c123 ⟨so, n, sc⟩ (q : Int)) 117 (0, 0))
    | .error x => e = .panicked (thrown x)
def rdN (l : List Nat) (i : Nat) : Except Nat (Nat × Nat) :=
  match getE l (i : Int) with
  | (x, q, 0) => if 9223372036854775808 ≤ x then .error 2 else .ok (x, q)
  | (_, _, e + 1) => .error (e + 1)
def rdI (l : List Nat) (i : Nat) : Except Nat (List Nat × Nat) :=
  match getI l (i : Int) with
  | (x, q, 0) => .ok (x, q)
  | (_, _, e + 1) => .error (e + 1)
def rdT (l : List Nat) (i : Nat) (m : Nat) : Except Nat (List Nat × Nat) :=
  match getT l (i : Int) (m : Int) with
  | (x, q, 0) => .ok (x, q)
  | (_, _, e + 1) => .error (e + 1)
theorem getNum_v (so : Option Addr) (sc : Nat) (l : List Nat) (w : World) (H : NC w .u8 so sc l) (i x q e : Nat) (HG : getE l (i : Int) = (x, q, e)) (hl : l.length ≤ 140737488355000) : Calls Try.prog 61 #[.slice so l.length sc, .int .i64 (i : Int)] w fun e' w' => e' = .returned (.tuple #[.int .u64 (x : Int), .int .i64 (q : Int), .int .i64 (e : Int)]) ∧ Gro w w' := by
  have := getNum_any so sc l w H (i : Int) (by omega)
  rw [HG] at this
  exact this.mono fun e' w' ⟨h1, h2⟩ => ⟨h1, h2 ▸ Gro.refl _⟩
theorem getID_v (so : Option Addr) (sc : Nat) (l : List Nat) (w : World) (H : NC w .u8 so sc l) (i q e : Nat) (x : List Nat) (HG : getI l (i : Int) = (x, q, e)) (hl : l.length ≤ 140737488355000) : Calls Try.prog 63 #[.slice so l.length sc, .int .i64 (i : Int)] w fun e' w' => e' = .returned (.tuple #[.agg (c23 (idF x)), .int .i64 (q : Int), .int .i64 (e : Int)]) ∧ Gro w w' := by
  have := getID_any so sc l w H (i : Int) hl
  have h16 := getI_len l (i : Int)
  rw [HG] at this h16
  rw [← bA_c23 h16]
  exact this
/-! ### must -/
set_option maxRecDepth 100000 in
set_option maxHeartbeats 4000000 in
theorem must_ok (w : World) : Calls Try.prog 62 #[.int .i64 0] w fun e w' => e = .returned (.tuple #[]) ∧ Gro w w' := by
  refine s_enter Try.func62 rfl Try.ntmps62 [.int .i64 0] [.int .i64 0, undef, undef, undef, undef, undef] rfl ?_
  have GG := Gro.refl w
  refine wp_seq (wp_region_lit (mv 2 (.int .i64 0) (sv 3 (.bool false) (run_neq_k 47 .i64 _ _ _ rfl Try.underlying47 _ _ rfl rfl false rfl _) (wpList_nil (then_n (wp_cond_false rfl (wp_skip ?_)))))))
  refine post_n (results_none Try.results62 _ _ _) rfl ?_
  exact ⟨rfl, GG⟩
set_option maxRecDepth 100000 in
set_option maxHeartbeats 4000000 in
theorem must_bad (e : Nat) (he : e ≠ 0) (w : World) : Calls Try.prog 62 #[.int .i64 ((e : Nat) : Int)] w fun e' w' => e' = .panicked (thrown e) ∧ Gro w w' := by
  refine s_enter Try.func62 rfl Try.ntmps62 [.int .i64 ((e : Nat) : Int)] [.int .i64 ((e : Nat) : Int), undef, undef, undef, undef, undef] rfl ?_
  have GG := Gro.refl w
  refine wp_seq (wp_region_lit (mv 2 (.int .i64 ((e : Nat) : Int)) (sv 3 (.bool true) (run_neqT 47 .i64 _ _ _ rfl Try.underlying47 _ _ rfl rfl (decide_eq_false (by omega)) _) (wpList_nil (then_n (wp_cond_true rfl (wp_region_lit (mv 4 (.int .i64 ((e : Nat) : Int)) ?_))))))))
  simp only [z0, z1]
  refine sv 5 (.iface 47 (.int .i64 ((e : Nat) : Int))) (run_mk 47 _ rfl _ rfl) ?_
  simp only [z0, z1]
  refine s_panic rfl _ rfl 47 (.int .i64 ((e : Nat) : Int)) rfl ?_
  refine post_p rfl ?_
  exact ⟨rfl, GG⟩
theorem conv622 {o : Oper} {A : Act} (x : Operand) (ho : o.op = .convert 62 2 x) (n : Nat) (hn : n < 9223372036854775808) (hx : A.eval x = .int .u64 (n : Int)) (w : World) : (execOp A.eval o).run Try.prog w = .ok (.value (.int .i64 (n : Int))) w := by
  have h := wrap_in (n : Int) (by omega) (by omega)
  unfold execOp
  simp only [ho, hx]
  simp [convert, go_sem, Conv.intToInt, h]
set_option maxRecDepth 100000 in
set_option maxHeartbeats 4000000 in
theorem num_err (rb : Nat) (so : Option Addr) (sc : Nat) (l : List Nat) (i : Nat) (w : World) (krb : w.heap[rb]? = some (.cells (c123 ⟨so, l.length, sc⟩ (i : Int)) 117 (0, 0))) (HB : BS rb w so sc l) (hl : l.length ≤ 140737488355000) (x q e : Nat) (HG : getE l (i : Int) = (x, q, e)) (he : e ≠ 0) : Calls Try.prog 50 #[.pointer (some ⟨rb, 0, none⟩)] w fun e' w' => GroR rb w w' ∧ e' = .panicked (thrown e) := by
  refine s_enterR Try.func50 rfl Try.ntmps50 [.pointer (some ⟨rb, 0, none⟩)] ?_
  intro U h; simp only [List.length_cons, List.length_nil, List.cons_append, List.nil_append, Nat.reduceAdd, Nat.reduceSub, List.reduceReplicate] at h; subst h
  have GG := GroR.refl rb w
  have hrb := lt_of_heap krb
  refine wp_seq (wp_region_lit (mv 2 (.int .i64 0) (wpList_nil (then_n (wp_seq ?_)))))
  refine wp_region_exA (A := ?A) 15 [(0, 7), (1, 8), (2, 9), (3, 10), (4, 11), (5, 12), (6, 13), (7, 14), (8, 15), (9, 6), (10, 16), (11, 17), (12, 18), (13, 3), (14, 4)] [.val (.pointer (some ⟨rb, 0, none⟩)), .val (.pointer (some ⟨rb, 0, none⟩)), .val (.pointer (some ⟨rb, 0, none⟩)), .val (.slice so l.length sc), .val (.pointer (some ⟨rb, 0, none⟩)), .val (.pointer (some ⟨rb, 0, none⟩)), .val (.pointer (some ⟨rb, 1, none⟩)), .val (.int .i64 ((i : Nat) : Int)), .val (.tuple #[.int .u64 ((x : Nat) : Int), .int .i64 ((q : Nat) : Int), .int .i64 ((e : Nat) : Int)]), .val (.tuple #[.int .u64 ((x : Nat) : Int), .int .i64 ((q : Nat) : Int), .int .i64 ((e : Nat) : Int)]), .val (.int .u64 ((x : Nat) : Int)), .val (.int .i64 ((q : Nat) : Int)), .val (.int .i64 ((e : Nat) : Int)), .val (.int .u64 ((x : Nat) : Int)), .val (.int .i64 ((q : Nat) : Int))] follows (by kernel_rfl) rfl ?hA (opsA_cons ?o0 (opsA_cons ?o1 (opsA_cons ?o2 (opsA_cons ?o3 (opsA_cons ?o4 (opsA_cons ?o5 (opsA_cons ?o6 (opsA_cons ?o7 (opsA_cons ?o8 (opsA_cons ?o9 (opsA_cons ?o10 (opsA_cons ?o11 (opsA_cons ?o12 (opsA_cons ?o13 (opsA_cons ?o14 opsA_nil))))))))))))))) ?rest
  case hA =>
    intro ptrs
    simp only [full, foldSlots, filledE, postE, List.foldl_cons, List.foldl_nil, List.getD_cons_zero, List.getD_cons_succ, fill_val, List.set_cons_zero, List.set_cons_succ]
    exact rfl
  case o0 => exact fun _ _ _ _ => opE_move (v := .pointer (some ⟨rb, 0, none⟩)) _ rfl rfl rfl
  case o1 => exact fun _ _ hw _ => opE_value (v := .pointer (some ⟨rb, 0, none⟩)) rfl (run_nc _ rfl _ rfl)
  case o2 => exact fun _ _ hw _ => opE_value (v := .pointer (some ⟨rb, 0, none⟩)) rfl (run_fld 117 _ 0 rfl _ _ rfl _)
  case o3 => exact fun _ _ hw _ => opE_value (v := .slice so l.length sc) rfl (run_ldc 36 _ rfl rb 0 rfl 117 _ (hw.has krb) (na32 _) _ rfl)
  case o4 => exact fun _ _ _ _ => opE_move (v := .pointer (some ⟨rb, 0, none⟩)) _ rfl rfl rfl
  case o5 => exact fun _ _ hw _ => opE_value (v := .pointer (some ⟨rb, 0, none⟩)) rfl (run_nc _ rfl _ rfl)
  case o6 => exact fun _ _ hw _ => opE_value (v := .pointer (some ⟨rb, 1, none⟩)) rfl (run_fld 117 _ 1 rfl _ _ rfl _)
  case o7 => exact fun _ _ hw _ => opE_value (v := .int .i64 ((i : Nat) : Int)) rfl (run_ldc 3 _ rfl rb 1 rfl 117 _ (hw.has krb) (na3 _) _ rfl)
  case o8 => exact fun _ _ hw _ => opE_call (.val (.tuple #[.int .u64 ((x : Nat) : Int), .int .i64 ((q : Nat) : Int), .int .i64 ((e : Nat) : Int)])) rfl _ 61 Try.call61 rfl rfl _ rfl [.slice so l.length sc, .int .i64 ((i : Nat) : Int)] rfl ((getNum_v so sc l _ ((HB.gror (GG.tg ((Gro.refl _).drew.trans hw))).nc) i x q e HG hl).mono fun e w' ⟨he, hg⟩ => ⟨_, he, hg, rfl⟩)
  case o9 => exact fun _ _ _ _ => opE_move (v := .tuple #[.int .u64 ((x : Nat) : Int), .int .i64 ((q : Nat) : Int), .int .i64 ((e : Nat) : Int)]) _ rfl rfl rfl
  case o10 => exact fun _ _ hw _ => opE_value (v := .int .u64 ((x : Nat) : Int)) rfl (rfl)
  case o11 => exact fun _ _ hw _ => opE_value (v := .int .i64 ((q : Nat) : Int)) rfl (rfl)
  case o12 => exact fun _ _ hw _ => opE_value (v := .int .i64 ((e : Nat) : Int)) rfl (rfl)
  case o13 => exact fun _ _ _ _ => opE_assign (v := .int .u64 ((x : Nat) : Int)) _ rfl rfl rfl
  case o14 => exact fun _ _ _ _ => opE_assign (v := .int .i64 ((q : Nat) : Int)) _ rfl rfl rfl
  intro ptrs w1 GD hxE
  simp only [List.drop_succ_cons, List.drop_zero]
  replace krb := GD.has krb
  replace GG := GG.tg ((Gro.refl _).drew.trans GD)
  clear GD
  refine mv 5 (.int .i64 ((e : Nat) : Int)) (wpList_nil (then_n (wp_seq (wp_region_lit (mv 19 (.int .i64 ((e : Nat) : Int)) ?_)))))
  simp only [z0, z1]
  refine s_callp rfl _ 62 Try.call62 rfl rfl _ rfl [.int .i64 ((e : Nat) : Int)] rfl (must_bad e he _) ?_
  intro w2 G
  replace GG := GG.tg G
  refine then_p ?_
  refine post_p rfl ?_
  exact ⟨GG, rfl⟩
set_option maxRecDepth 100000 in
set_option maxHeartbeats 4000000 in
theorem num_big (rb : Nat) (so : Option Addr) (sc : Nat) (l : List Nat) (i : Nat) (w : World) (krb : w.heap[rb]? = some (.cells (c123 ⟨so, l.length, sc⟩ (i : Int)) 117 (0, 0))) (HB : BS rb w so sc l) (hl : l.length ≤ 140737488355000) (x q : Nat) (HG : getE l (i : Int) = (x, q, 0)) (hx : decide (9223372036854775807 < x) = true) : Calls Try.prog 50 #[.pointer (some ⟨rb, 0, none⟩)] w fun e' w' => GroR rb w w' ∧ e' = .panicked (thrown 2) := by
  refine s_enterR Try.func50 rfl Try.ntmps50 [.pointer (some ⟨rb, 0, none⟩)] ?_
  intro U h; simp only [List.length_cons, List.length_nil, List.cons_append, List.nil_append, Nat.reduceAdd, Nat.reduceSub, List.reduceReplicate] at h; subst h
  have GG := GroR.refl rb w
  have hrb := lt_of_heap krb
  refine wp_seq (wp_region_lit (mv 2 (.int .i64 0) (wpList_nil (then_n (wp_seq ?_)))))
  refine wp_region_exA (A := ?A) 15 [(0, 7), (1, 8), (2, 9), (3, 10), (4, 11), (5, 12), (6, 13), (7, 14), (8, 15), (9, 6), (10, 16), (11, 17), (12, 18), (13, 3), (14, 4)] [.val (.pointer (some ⟨rb, 0, none⟩)), .val (.pointer (some ⟨rb, 0, none⟩)), .val (.pointer (some ⟨rb, 0, none⟩)), .val (.slice so l.length sc), .val (.pointer (some ⟨rb, 0, none⟩)), .val (.pointer (some ⟨rb, 0, none⟩)), .val (.pointer (some ⟨rb, 1, none⟩)), .val (.int .i64 ((i : Nat) : Int)), .val (.tuple #[.int .u64 ((x : Nat) : Int), .int .i64 ((q : Nat) : Int), .int .i64 0]), .val (.tuple #[.int .u64 ((x : Nat) : Int), .int .i64 ((q : Nat) : Int), .int .i64 0]), .val (.int .u64 ((x : Nat) : Int)), .val (.int .i64 ((q : Nat) : Int)), .val (.int .i64 0), .val (.int .u64 ((x : Nat) : Int)), .val (.int .i64 ((q : Nat) : Int))] follows (by kernel_rfl) rfl ?hA (opsA_cons ?o0 (opsA_cons ?o1 (opsA_cons ?o2 (opsA_cons ?o3 (opsA_cons ?o4 (opsA_cons ?o5 (opsA_cons ?o6 (opsA_cons ?o7 (opsA_cons ?o8 (opsA_cons ?o9 (opsA_cons ?o10 (opsA_cons ?o11 (opsA_cons ?o12 (opsA_cons ?o13 (opsA_cons ?o14 opsA_nil))))))))))))))) ?rest
  case hA =>
    intro ptrs
    simp only [full, foldSlots, filledE, postE, List.foldl_cons, List.foldl_nil, List.getD_cons_zero, List.getD_cons_succ, fill_val, List.set_cons_zero, List.set_cons_succ]
    exact rfl
  case o0 => exact fun _ _ _ _ => opE_move (v := .pointer (some ⟨rb, 0, none⟩)) _ rfl rfl rfl
  case o1 => exact fun _ _ hw _ => opE_value (v := .pointer (some ⟨rb, 0, none⟩)) rfl (run_nc _ rfl _ rfl)
  case o2 => exact fun _ _ hw _ => opE_value (v := .pointer (some ⟨rb, 0, none⟩)) rfl (run_fld 117 _ 0 rfl _ _ rfl _)
  case o3 => exact fun _ _ hw _ => opE_value (v := .slice so l.length sc) rfl (run_ldc 36 _ rfl rb 0 rfl 117 _ (hw.has krb) (na32 _) _ rfl)
  case o4 => exact fun _ _ _ _ => opE_move (v := .pointer (some ⟨rb, 0, none⟩)) _ rfl rfl rfl
  case o5 => exact fun _ _ hw _ => opE_value (v := .pointer (some ⟨rb, 0, none⟩)) rfl (run_nc _ rfl _ rfl)
  case o6 => exact fun _ _ hw _ => opE_value (v := .pointer (some ⟨rb, 1, none⟩)) rfl (run_fld 117 _ 1 rfl _ _ rfl _)
  case o7 => exact fun _ _ hw _ => opE_value (v := .int .i64 ((i : Nat) : Int)) rfl (run_ldc 3 _ rfl rb 1 rfl 117 _ (hw.has krb) (na3 _) _ rfl)
  case o8 => exact fun _ _ hw _ => opE_call (.val (.tuple #[.int .u64 ((x : Nat) : Int), .int .i64 ((q : Nat) : Int), .int .i64 0])) rfl _ 61 Try.call61 rfl rfl _ rfl [.slice so l.length sc, .int .i64 ((i : Nat) : Int)] rfl ((getNum_v so sc l _ ((HB.gror (GG.tg ((Gro.refl _).drew.trans hw))).nc) i x q 0 HG hl).mono fun e w' ⟨he, hg⟩ => ⟨_, he, hg, rfl⟩)
  case o9 => exact fun _ _ _ _ => opE_move (v := .tuple #[.int .u64 ((x : Nat) : Int), .int .i64 ((q : Nat) : Int), .int .i64 0]) _ rfl rfl rfl
  case o10 => exact fun _ _ hw _ => opE_value (v := .int .u64 ((x : Nat) : Int)) rfl (rfl)
  case o11 => exact fun _ _ hw _ => opE_value (v := .int .i64 ((q : Nat) : Int)) rfl (rfl)
  case o12 => exact fun _ _ hw _ => opE_value (v := .int .i64 0) rfl (rfl)
  case o13 => exact fun _ _ _ _ => opE_assign (v := .int .u64 ((x : Nat) : Int)) _ rfl rfl rfl
  case o14 => exact fun _ _ _ _ => opE_assign (v := .int .i64 ((q : Nat) : Int)) _ rfl rfl rfl
  intro ptrs w1 GD hxE
  simp only [List.drop_succ_cons, List.drop_zero]
  replace krb := GD.has krb
  replace GG := GG.tg ((Gro.refl _).drew.trans GD)
  clear GD
  refine mv 5 (.int .i64 0) (wpList_nil (then_n (wp_seq (wp_region_lit (mv 19 (.int .i64 0) ?_)))))
  simp only [z0, z1]
  refine s_callv 20 rfl rfl _ 62 Try.call62 rfl rfl _ rfl [.int .i64 0] rfl (must_ok _) ?_
  intro w2 G
  replace krb := G.has krb
  replace GG := GG.tg G
  clear G
  refine wpList_nil (then_n (wp_seq (wp_seq (wp_region_lit (mv 21 (.int .u64 ((x : Nat) : Int)) (sv 22 (.bool true) (run_gtrU 62 62 _ _ rfl x 9223372036854775807 rfl rfl true hx _) ?_))))))
  simp only [z0, z1]
  refine wpList_nil (then_n (wp_cond_true rfl (wp_region_lit (sv 23 (.iface 47 (.int .i64 2)) (run_mk 47 _ rfl _ rfl) ?_))))
  simp only [z0, z1]
  refine s_panic rfl _ rfl 47 (.int .i64 2) rfl ?_
  refine then_p ?_
  refine post_p rfl ?_
  exact ⟨GG, rfl⟩
set_option maxRecDepth 100000 in
set_option maxHeartbeats 4000000 in
theorem num_ok (rb : Nat) (so : Option Addr) (sc : Nat) (l : List Nat) (i : Nat) (w : World) (krb : w.heap[rb]? = some (.cells (c123 ⟨so, l.length, sc⟩ (i : Int)) 117 (0, 0))) (HB : BS rb w so sc l) (hl : l.length ≤ 140737488355000) (x q : Nat) (HG : getE l (i : Int) = (x, q, 0)) (hx : decide (9223372036854775807 < x) = false) (hx2 : x < 9223372036854775808) : Calls Try.prog 50 #[.pointer (some ⟨rb, 0, none⟩)] w fun e' w' => GroR rb w w' ∧ ∃ v, e' = .returned v ∧ v = .int .i64 ((x : Nat) : Int) ∧ w'.heap[rb]? = some (.cells (c123 ⟨so, l.length, sc⟩ (q : Int)) 117 (0, 0)) := by
  refine s_enterR Try.func50 rfl Try.ntmps50 [.pointer (some ⟨rb, 0, none⟩)] ?_
  intro U h; simp only [List.length_cons, List.length_nil, List.cons_append, List.nil_append, Nat.reduceAdd, Nat.reduceSub, List.reduceReplicate] at h; subst h
  have GG := GroR.refl rb w
  have hrb := lt_of_heap krb
  refine wp_seq (wp_region_lit (mv 2 (.int .i64 0) (wpList_nil (then_n (wp_seq ?_)))))
  refine wp_region_exA (A := ?A) 15 [(0, 7), (1, 8), (2, 9), (3, 10), (4, 11), (5, 12), (6, 13), (7, 14), (8, 15), (9, 6), (10, 16), (11, 17), (12, 18), (13, 3), (14, 4)] [.val (.pointer (some ⟨rb, 0, none⟩)), .val (.pointer (some ⟨rb, 0, none⟩)), .val (.pointer (some ⟨rb, 0, none⟩)), .val (.slice so l.length sc), .val (.pointer (some ⟨rb, 0, none⟩)), .val (.pointer (some ⟨rb, 0, none⟩)), .val (.pointer (some ⟨rb, 1, none⟩)), .val (.int .i64 ((i : Nat) : Int)), .val (.tuple #[.int .u64 ((x : Nat) : Int), .int .i64 ((q : Nat) : Int), .int .i64 0]), .val (.tuple #[.int .u64 ((x : Nat) : Int), .int .i64 ((q : Nat) : Int), .int .i64 0]), .val (.int .u64 ((x : Nat) : Int)), .val (.int .i64 ((q : Nat) : Int)), .val (.int .i64 0), .val (.int .u64 ((x : Nat) : Int)), .val (.int .i64 ((q : Nat) : Int))] follows (by kernel_rfl) rfl ?hA (opsA_cons ?o0 (opsA_cons ?o1 (opsA_cons ?o2 (opsA_cons ?o3 (opsA_cons ?o4 (opsA_cons ?o5 (opsA_cons ?o6 (opsA_cons ?o7 (opsA_cons ?o8 (opsA_cons ?o9 (opsA_cons ?o10 (opsA_cons ?o11 (opsA_cons ?o12 (opsA_cons ?o13 (opsA_cons ?o14 opsA_nil))))))))))))))) ?rest
  case hA =>
    intro ptrs
    simp only [full, foldSlots, filledE, postE, List.foldl_cons, List.foldl_nil, List.getD_cons_zero, List.getD_cons_succ, fill_val, List.set_cons_zero, List.set_cons_succ]
    exact rfl
  case o0 => exact fun _ _ _ _ => opE_move (v := .pointer (some ⟨rb, 0, none⟩)) _ rfl rfl rfl
  case o1 => exact fun _ _ hw _ => opE_value (v := .pointer (some ⟨rb, 0, none⟩)) rfl (run_nc _ rfl _ rfl)
  case o2 => exact fun _ _ hw _ => opE_value (v := .pointer (some ⟨rb, 0, none⟩)) rfl (run_fld 117 _ 0 rfl _ _ rfl _)
  case o3 => exact fun _ _ hw _ => opE_value (v := .slice so l.length sc) rfl (run_ldc 36 _ rfl rb 0 rfl 117 _ (hw.has krb) (na32 _) _ rfl)
  case o4 => exact fun _ _ _ _ => opE_move (v := .pointer (some ⟨rb, 0, none⟩)) _ rfl rfl rfl
  case o5 => exact fun _ _ hw _ => opE_value (v := .pointer (some ⟨rb, 0, none⟩)) rfl (run_nc _ rfl _ rfl)
  case o6 => exact fun _ _ hw _ => opE_value (v := .pointer (some ⟨rb, 1, none⟩)) rfl (run_fld 117 _ 1 rfl _ _ rfl _)
  case o7 => exact fun _ _ hw _ => opE_value (v := .int .i64 ((i : Nat) : Int)) rfl (run_ldc 3 _ rfl rb 1 rfl 117 _ (hw.has krb) (na3 _) _ rfl)
  case o8 => exact fun _ _ hw _ => opE_call (.val (.tuple #[.int .u64 ((x : Nat) : Int), .int .i64 ((q : Nat) : Int), .int .i64 0])) rfl _ 61 Try.call61 rfl rfl _ rfl [.slice so l.length sc, .int .i64 ((i : Nat) : Int)] rfl ((getNum_v so sc l _ ((HB.gror (GG.tg ((Gro.refl _).drew.trans hw))).nc) i x q 0 HG hl).mono fun e w' ⟨he, hg⟩ => ⟨_, he, hg, rfl⟩)
  case o9 => exact fun _ _ _ _ => opE_move (v := .tuple #[.int .u64 ((x : Nat) : Int), .int .i64 ((q : Nat) : Int), .int .i64 0]) _ rfl rfl rfl
  case o10 => exact fun _ _ hw _ => opE_value (v := .int .u64 ((x : Nat) : Int)) rfl (rfl)
  case o11 => exact fun _ _ hw _ => opE_value (v := .int .i64 ((q : Nat) : Int)) rfl (rfl)
  case o12 => exact fun _ _ hw _ => opE_value (v := .int .i64 0) rfl (rfl)
  case o13 => exact fun _ _ _ _ => opE_assign (v := .int .u64 ((x : Nat) : Int)) _ rfl rfl rfl
  case o14 => exact fun _ _ _ _ => opE_assign (v := .int .i64 ((q : Nat) : Int)) _ rfl rfl rfl
  intro ptrs w1 GD hxE
  simp only [List.drop_succ_cons, List.drop_zero]
  replace krb := GD.has krb
  replace GG := GG.tg ((Gro.refl _).drew.trans GD)
  clear GD
  refine mv 5 (.int .i64 0) (wpList_nil (then_n (wp_seq (wp_region_lit (mv 19 (.int .i64 0) ?_)))))
  simp only [z0, z1]
  refine s_callv 20 rfl rfl _ 62 Try.call62 rfl rfl _ rfl [.int .i64 0] rfl (must_ok _) ?_
  intro w2 G
  replace krb := G.has krb
  replace GG := GG.tg G
  clear G
  refine wpList_nil (then_n (wp_seq (wp_seq (wp_region_lit (mv 21 (.int .u64 ((x : Nat) : Int)) (sv 22 (.bool false) (run_gtrU 62 62 _ _ rfl x 9223372036854775807 rfl rfl false hx _) ?_))))))
  simp only [z0, z1]
  refine wpList_nil (then_n (wp_cond_false rfl (wp_skip (then_n (wp_seq (wp_region_lit (mv 24 (.pointer (some ⟨rb, 0, none⟩)) (mv 25 (.int .i64 ((q : Nat) : Int)) (sv 26 (.pointer (some ⟨rb, 0, none⟩)) (run_nc _ rfl _ rfl) ?_)))))))))
  simp only [z0, z1]
  refine sv 27 (.pointer (some ⟨rb, 1, none⟩)) (run_fld 117 _ 1 rfl _ _ rfl _) ?_
  refine s_store rfl rfl 3 _ _ rfl rb 1 rfl (.int .i64 ((q : Nat) : Int)) rfl 117 _ krb #[.int .i64 ((q : Nat) : Int)] rfl (by kernel_rfl) (Nat.le_of_ble_eq_true rfl) (by kernel_rfl) (c123 ⟨so, l.length, sc⟩ ((q : Nat) : Int)) (by kernel_rfl) ?_
  intro w4 S
  replace GG := GG.stR S
  replace krb := S.new
  clear S
  refine wpList_nil (then_n (wp_seq (wp_region_lit (mv 28 (.int .u64 ((x : Nat) : Int)) (sv 29 (.int .i64 ((x : Nat) : Int)) (conv622 _ rfl x hx2 rfl _) ?_)))))
  simp only [z0, z1]
  refine mv 2 (.int .i64 ((x : Nat) : Int)) (wpList_nil (then_n (wp_ret ?_)))
  refine bodyPost_ret (results_tmp Try.results50 _ _ _) rfl ?_
  exact ⟨GG, _, rfl, rfl, krb⟩
theorem rdNum (rb : Nat) (so : Option Addr) (sc : Nat) (l : List Nat) (i : Nat) (w : World) (krb : w.heap[rb]? = some (.cells (c123 ⟨so, l.length, sc⟩ (i : Int)) 117 (0, 0))) (HB : BS rb w so sc l) (hl : l.length ≤ 140737488355000) : Calls Try.prog 50 #[.pointer (some ⟨rb, 0, none⟩)] w (RdP rb so sc l.length w (rdN l i) fun x v _ => v = .int .i64 ((x : Nat) : Int)) := by
  obtain ⟨⟨x, q, e⟩, HG⟩ : ∃ g, getE l (i : Int) = g := ⟨_, rfl⟩
  unfold RdP rdN
  rw [HG]
  cases e with
  | succ e => exact num_err rb so sc l i w krb HB hl x q (e + 1) HG (by omega)
  | zero =>
    by_cases hx : 9223372036854775808 ≤ x
    · simp only [hx, if_true]
      exact num_big rb so sc l i w krb HB hl x q HG (decide_eq_true (by omega))
    · simp only [hx, if_false]
      exact num_ok rb so sc l i w krb HB hl x q HG (decide_eq_false (by omega)) (by omega)
end Go.Proofs.Ythmcnlmphikicab
