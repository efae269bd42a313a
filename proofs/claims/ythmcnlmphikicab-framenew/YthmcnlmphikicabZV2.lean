/- All rows of a frame are written over (spoil). -/
import Derived.Test.YthmcnlmphikicabZB6
import Derived.Test.YthmcnlmphikicabZF8
import Derived.Test.YthmcnlmphikicabZG3
import Derived.Test.YthmcnlmphikicabZR5
namespace Go.Proofs.Ythmcnlmphikicab
open Go.RowKit
theorem size_basS {S : List Nat} {g : Nat} {w cur : World} (h : GroS S w cur) (e : cur.heap.size = g) : w.heap.size ≤ g := e ▸ h.size
theorem neT {w : World} {a b : Nat} {c c' : Array Value} {t t' : TypeId} (h : w.heap[a]? = some (.cells c t (0, 0))) (h' : w.heap[b]? = some (.cells c' t' (0, 0))) (ht : t ≠ t') : a ≠ b := fun e => by
  subst e
  rw [h] at h'
  injection h' with h'
  injection h' with h1 h2
  exact ht h2
def spB (f : Fr) : List Nat := blk f.tr.ao ++ (blk f.ids.ao ++ (blk f.tx.ao ++ blk f.val.ao))
theorem run_idxA0 {o : Oper} {A : Act} (x y : Operand) (ho : o.op = .indexAddr 27 x y) (g off : Nat) (hx : A.eval x = .pointer (some ⟨g, off, none⟩)) (hy : A.eval y = .int .i64 0) (w : World) : (execOp A.eval o).run Try.prog w = .ok (.value (.pointer (some ⟨g, off, none⟩))) w := by
  have h : (Instr.indexAt 27 (.pointer (some ⟨g, off, none⟩)) (.int .i64 0)).run Try.prog w = .ok (.pointer (some ⟨g, off, none⟩)) w := by kernel_rfl
  unfold execOp
  simp only [ho, hx, hy, Sem.run_bind, h, Result.andThen_ok, Sem.run_pure]
set_option maxRecDepth 100000 in
set_option maxHeartbeats 4000000 in
theorem spoil_any (f : Fr) (w : World) (R1 : RI w 3 .i64 1 f.tr.ao f.tr.n) (R2 : RI w 27 .u8 16 f.ids.ao f.ids.n) (R3 : RI w 5 .u8 1 f.tx.ao f.tx.n) (R4 : RI w 5 .u8 1 f.val.ao f.val.n) (hN : f.tr.n ≤ 140737488355328 ∧ f.ids.n ≤ 140737488355328 ∧ f.tx.n ≤ 140737488355328 ∧ f.val.n ≤ 140737488355328) : Calls Try.prog 13 #[.agg (c36 f.kind f.pw f.pn f.toA f.a f.b f.n f.fi f.fn f.ti f.tn f.tr f.ids f.key f.vn f.vw f.val f.op f.ttl f.tx)] w fun e w' => e = .returned (.tuple #[]) ∧ GroS (spB f) w w' := by
  refine s_enterR Try.func13 rfl Try.ntmps13 [.agg (c36 f.kind f.pw f.pn f.toA f.a f.b f.n f.fi f.fn f.ti f.tn f.tr f.ids f.key f.vn f.vw f.val f.op f.ttl f.tx)] ?_
  intro U h; simp only [List.length_cons, List.length_nil, List.cons_append, List.nil_append, Nat.reduceAdd, Nat.reduceSub, List.reduceReplicate] at h; subst h
  have GG := GroS.refl (spB f) w
  refine wp_seq (wp_region_lit ?_)
  refine s_box 1 rfl rfl 40 _ rfl _ rfl (c36 f.kind f.pw f.pn f.toA f.a f.b f.n f.fi f.fn f.ti f.tn f.tr f.ids f.key f.vn f.vw f.val f.op f.ttl f.tx) rfl ?_
  intro w1 g1 G eg1 kg1
  have bg1 := size_basS GG eg1
  replace R1 := R1.gro G
  replace R2 := R2.gro G
  replace R3 := R3.gro G
  replace R4 := R4.gro G
  replace GG := GG.tg G
  clear G eg1
  refine wpList_nil (then_n (wp_seq (wp_seq (wp_region_lit (sv 6 (.pointer (some ⟨g1, 56, none⟩)) (run_fld 40 _ 8 rfl _ _ rfl _) (sv 7 (.slice f.tr.ao f.tr.n f.tr.cap) (run_ldc 32 _ rfl g1 56 rfl 40 _ kg1 (na28 _) _ rfl) ?_))))))
  refine nr ?_; intro U h; simp only [z0, z1] at h; subst h
  refine sv 8 (.int .i64 ((f.tr.n : Nat) : Int)) (run_len Try.underlying32 _ rfl _ _ _ rfl _) (mv 9 (.int .i64 0) (wpList_nil (then_n (wp_block ?_))))
  refine wp_loopN (fun mz az wv => ∃ (j1 : Nat) (us1 : Nat → Value), mz = f.tr.n - j1 ∧ az = ⟨[.agg (c36 f.kind f.pw f.pn f.toA f.a f.b f.n f.fi f.fn f.ti f.tn f.tr f.ids f.key f.vn f.vw f.val f.op f.ttl f.tx), .pointer (some ⟨g1, 0, none⟩), us1 0, undef, undef, undef, .pointer (some ⟨g1, 56, none⟩), .slice f.tr.ao f.tr.n f.tr.cap, .int .i64 ((f.tr.n : Nat) : Int), .int .i64 ((j1 : Nat) : Int), us1 1, us1 2, us1 3, us1 4, us1 5, us1 6, us1 7, us1 8, us1 9, us1 10, undef, undef, undef, undef, undef, undef, undef, undef, undef, undef, undef, undef, undef, undef, undef, undef, undef, undef, undef, undef, undef, undef, undef, undef, undef, undef, undef, undef, undef, undef, undef, undef, undef, undef, undef, undef, undef, undef, undef, undef, undef, undef, undef, undef, undef, undef].toArray, []⟩ ∧ j1 ≤ f.tr.n ∧ GroS (spB f) w wv ∧ wv.heap[g1]? = some (.cells (c36 f.kind f.pw f.pn f.toA f.a f.b f.n f.fi f.fn f.ti f.tn f.tr f.ids f.key f.vn f.vw f.val f.op f.ttl f.tx) 40 (0, 0)) ∧ w.heap.size ≤ g1 ∧ RI wv 3 .i64 1 f.tr.ao f.tr.n ∧ RI wv 27 .u8 16 f.ids.ao f.ids.n ∧ RI wv 5 .u8 1 f.tx.ao f.tx.n ∧ RI wv 5 .u8 1 f.val.ao f.val.n) ?_ _ ⟨0, usB [2, 10, 11, 12, 13, 14, 15, 16, 17, 18, 19] rfl rfl ⟨Nat.zero_le _, GG, kg1, bg1, R1, R2, R3, R4⟩⟩
  clear kg1 GG R1 R2 R3 R4
  rintro mz az wv ⟨j1, us1, rfl, rfl, hj, GG, kg1, bg1, R1, R2, R3, R4⟩
  refine wp_seq (wp_region_lit ?_)
  obtain ⟨p1, hp1⟩ : ∃ p, decide (((j1 : Nat) : Int) < ((f.tr.n : Nat) : Int)) = p := ⟨_, rfl⟩
  refine sv 10 (.bool p1) (run_lssT 3 _ _ _ rfl ((j1 : Nat) : Int) ((f.tr.n : Nat) : Int) rfl rfl p1 hp1 _) ?_
  refine nr ?_; intro U h; simp only [z0, z1] at h; subst h
  cases p1
  refine wpList_nil (then_n (wp_seq (wp_cond_false rfl (wp_exit (then_x (then_x (blk_x (then_n (wp_seq (wp_seq (wp_region_lit (sv 20 (.pointer (some ⟨g1, 57, none⟩)) (run_fld 40 _ 9 rfl _ _ rfl _) (sv 21 (.slice f.ids.ao f.ids.n f.ids.cap) (run_ldc 33 _ rfl g1 57 rfl 40 _ kg1 (na29 _) _ rfl) (sv 22 (.int .i64 ((f.ids.n : Nat) : Int)) (run_len Try.underlying33 _ rfl _ _ _ rfl _) ?_))))))))))))))
  refine nr ?_; intro U h; simp only [z0, z1] at h; subst h
  refine mv 23 (.int .i64 0) (wpList_nil (then_n (wp_block ?_)))
  refine wp_loopN (fun mz az wv => ∃ (j2 : Nat) (us2 : Nat → Value), mz = f.ids.n - j2 ∧ az = ⟨[.agg (c36 f.kind f.pw f.pn f.toA f.a f.b f.n f.fi f.fn f.ti f.tn f.tr f.ids f.key f.vn f.vw f.val f.op f.ttl f.tx), .pointer (some ⟨g1, 0, none⟩), us1 0, us2 0, undef, undef, .pointer (some ⟨g1, 56, none⟩), .slice f.tr.ao f.tr.n f.tr.cap, .int .i64 ((f.tr.n : Nat) : Int), .int .i64 ((j1 : Nat) : Int), .bool false, us1 2, us1 3, us1 4, us1 5, us1 6, us1 7, us1 8, us1 9, us1 10, .pointer (some ⟨g1, 57, none⟩), .slice f.ids.ao f.ids.n f.ids.cap, .int .i64 ((f.ids.n : Nat) : Int), .int .i64 ((j2 : Nat) : Int), us2 1, us2 2, us2 3, us2 4, us2 5, us2 6, us2 7, us2 8, us2 9, us2 10, us2 11, us2 12, undef, undef, undef, undef, undef, undef, undef, undef, undef, undef, undef, undef, undef, undef, undef, undef, undef, undef, undef, undef, undef, undef, undef, undef, undef, undef, undef, undef, undef, undef].toArray, []⟩ ∧ j2 ≤ f.ids.n ∧ GroS (spB f) w wv ∧ wv.heap[g1]? = some (.cells (c36 f.kind f.pw f.pn f.toA f.a f.b f.n f.fi f.fn f.ti f.tn f.tr f.ids f.key f.vn f.vw f.val f.op f.ttl f.tx) 40 (0, 0)) ∧ w.heap.size ≤ g1 ∧ RI wv 3 .i64 1 f.tr.ao f.tr.n ∧ RI wv 27 .u8 16 f.ids.ao f.ids.n ∧ RI wv 5 .u8 1 f.tx.ao f.tx.n ∧ RI wv 5 .u8 1 f.val.ao f.val.n) ?_ _ ⟨0, usB [3, 24, 25, 26, 27, 28, 29, 30, 31, 32, 33, 34, 35] rfl rfl ⟨Nat.zero_le _, GG, kg1, bg1, R1, R2, R3, R4⟩⟩
  clear kg1 GG R1 R2 R3 R4
  rintro mz az wv ⟨j2, us2, rfl, rfl, hj, GG, kg1, bg1, R1, R2, R3, R4⟩
  refine wp_seq (wp_region_lit ?_)
  obtain ⟨p2, hp2⟩ : ∃ p, decide (((j2 : Nat) : Int) < ((f.ids.n : Nat) : Int)) = p := ⟨_, rfl⟩
  refine sv 24 (.bool p2) (run_lssT 3 _ _ _ rfl ((j2 : Nat) : Int) ((f.ids.n : Nat) : Int) rfl rfl p2 hp2 _) ?_
  refine nr ?_; intro U h; simp only [z0, z1] at h; subst h
  cases p2
  refine wpList_nil (then_n (wp_seq (wp_cond_false rfl (wp_exit (then_x (then_x (blk_x (then_n (wp_seq (wp_seq (wp_region_lit (sv 36 (.pointer (some ⟨g1, 94, none⟩)) (run_fld 40 _ 13 rfl _ _ rfl _) (sv 37 (.slice f.tx.ao f.tx.n f.tx.cap) (run_ldc 36 _ rfl g1 94 rfl 40 _ kg1 (na32 _) _ rfl) (sv 38 (.int .i64 ((f.tx.n : Nat) : Int)) (run_len Try.underlying36 _ rfl _ _ _ rfl _) ?_))))))))))))))
  refine nr ?_; intro U h; simp only [z0, z1] at h; subst h
  refine mv 39 (.int .i64 0) (wpList_nil (then_n (wp_block ?_)))
  refine wp_loopN (fun mz az wv => ∃ (j3 : Nat) (us3 : Nat → Value), mz = f.tx.n - j3 ∧ az = ⟨[.agg (c36 f.kind f.pw f.pn f.toA f.a f.b f.n f.fi f.fn f.ti f.tn f.tr f.ids f.key f.vn f.vw f.val f.op f.ttl f.tx), .pointer (some ⟨g1, 0, none⟩), us1 0, us2 0, us3 0, undef, .pointer (some ⟨g1, 56, none⟩), .slice f.tr.ao f.tr.n f.tr.cap, .int .i64 ((f.tr.n : Nat) : Int), .int .i64 ((j1 : Nat) : Int), .bool false, us1 2, us1 3, us1 4, us1 5, us1 6, us1 7, us1 8, us1 9, us1 10, .pointer (some ⟨g1, 57, none⟩), .slice f.ids.ao f.ids.n f.ids.cap, .int .i64 ((f.ids.n : Nat) : Int), .int .i64 ((j2 : Nat) : Int), .bool false, us2 2, us2 3, us2 4, us2 5, us2 6, us2 7, us2 8, us2 9, us2 10, us2 11, us2 12, .pointer (some ⟨g1, 94, none⟩), .slice f.tx.ao f.tx.n f.tx.cap, .int .i64 ((f.tx.n : Nat) : Int), .int .i64 ((j3 : Nat) : Int), us3 1, us3 2, us3 3, us3 4, us3 5, us3 6, us3 7, us3 8, us3 9, us3 10, undef, undef, undef, undef, undef, undef, undef, undef, undef, undef, undef, undef, undef, undef, undef, undef].toArray, []⟩ ∧ j3 ≤ f.tx.n ∧ GroS (spB f) w wv ∧ wv.heap[g1]? = some (.cells (c36 f.kind f.pw f.pn f.toA f.a f.b f.n f.fi f.fn f.ti f.tn f.tr f.ids f.key f.vn f.vw f.val f.op f.ttl f.tx) 40 (0, 0)) ∧ w.heap.size ≤ g1 ∧ RI wv 3 .i64 1 f.tr.ao f.tr.n ∧ RI wv 27 .u8 16 f.ids.ao f.ids.n ∧ RI wv 5 .u8 1 f.tx.ao f.tx.n ∧ RI wv 5 .u8 1 f.val.ao f.val.n) ?_ _ ⟨0, usB [4, 40, 41, 42, 43, 44, 45, 46, 47, 48, 49] rfl rfl ⟨Nat.zero_le _, GG, kg1, bg1, R1, R2, R3, R4⟩⟩
  clear kg1 GG R1 R2 R3 R4
  rintro mz az wv ⟨j3, us3, rfl, rfl, hj, GG, kg1, bg1, R1, R2, R3, R4⟩
  refine wp_seq (wp_region_lit ?_)
  obtain ⟨p3, hp3⟩ : ∃ p, decide (((j3 : Nat) : Int) < ((f.tx.n : Nat) : Int)) = p := ⟨_, rfl⟩
  refine sv 40 (.bool p3) (run_lssT 3 _ _ _ rfl ((j3 : Nat) : Int) ((f.tx.n : Nat) : Int) rfl rfl p3 hp3 _) ?_
  refine nr ?_; intro U h; simp only [z0, z1] at h; subst h
  cases p3
  refine wpList_nil (then_n (wp_seq (wp_cond_false rfl (wp_exit (then_x (then_x (blk_x (then_n (wp_seq (wp_region_lit (sv 50 (.pointer (some ⟨g1, 58, none⟩)) (run_fld 40 _ 10 rfl _ _ rfl _) (sv 51 (.pointer (some ⟨g1, 91, none⟩)) (run_fld 38 _ 2 rfl _ _ rfl _) (sv 52 (.slice f.val.ao f.val.n f.val.cap) (run_ldc 36 _ rfl g1 91 rfl 40 _ kg1 (na32 _) _ rfl) ?_)))))))))))))
  refine nr ?_; intro U h; simp only [z0, z1] at h; subst h
  refine sv 53 (.int .i64 ((f.val.n : Nat) : Int)) (run_len Try.underlying36 _ rfl _ _ _ rfl _) (mv 54 (.int .i64 0) (wpList_nil (then_n (wp_block ?_))))
  refine wp_loopN (fun mz az wv => ∃ (j4 : Nat) (us4 : Nat → Value), mz = f.val.n - j4 ∧ az = ⟨[.agg (c36 f.kind f.pw f.pn f.toA f.a f.b f.n f.fi f.fn f.ti f.tn f.tr f.ids f.key f.vn f.vw f.val f.op f.ttl f.tx), .pointer (some ⟨g1, 0, none⟩), us1 0, us2 0, us3 0, us4 0, .pointer (some ⟨g1, 56, none⟩), .slice f.tr.ao f.tr.n f.tr.cap, .int .i64 ((f.tr.n : Nat) : Int), .int .i64 ((j1 : Nat) : Int), .bool false, us1 2, us1 3, us1 4, us1 5, us1 6, us1 7, us1 8, us1 9, us1 10, .pointer (some ⟨g1, 57, none⟩), .slice f.ids.ao f.ids.n f.ids.cap, .int .i64 ((f.ids.n : Nat) : Int), .int .i64 ((j2 : Nat) : Int), .bool false, us2 2, us2 3, us2 4, us2 5, us2 6, us2 7, us2 8, us2 9, us2 10, us2 11, us2 12, .pointer (some ⟨g1, 94, none⟩), .slice f.tx.ao f.tx.n f.tx.cap, .int .i64 ((f.tx.n : Nat) : Int), .int .i64 ((j3 : Nat) : Int), .bool false, us3 2, us3 3, us3 4, us3 5, us3 6, us3 7, us3 8, us3 9, us3 10, .pointer (some ⟨g1, 58, none⟩), .pointer (some ⟨g1, 91, none⟩), .slice f.val.ao f.val.n f.val.cap, .int .i64 ((f.val.n : Nat) : Int), .int .i64 ((j4 : Nat) : Int), us4 1, us4 2, us4 3, us4 4, us4 5, us4 6, us4 7, us4 8, us4 9, us4 10, us4 11].toArray, []⟩ ∧ j4 ≤ f.val.n ∧ GroS (spB f) w wv ∧ wv.heap[g1]? = some (.cells (c36 f.kind f.pw f.pn f.toA f.a f.b f.n f.fi f.fn f.ti f.tn f.tr f.ids f.key f.vn f.vw f.val f.op f.ttl f.tx) 40 (0, 0)) ∧ w.heap.size ≤ g1 ∧ RI wv 3 .i64 1 f.tr.ao f.tr.n ∧ RI wv 27 .u8 16 f.ids.ao f.ids.n ∧ RI wv 5 .u8 1 f.tx.ao f.tx.n ∧ RI wv 5 .u8 1 f.val.ao f.val.n) ?_ _ ⟨0, usB [5, 55, 56, 57, 58, 59, 60, 61, 62, 63, 64, 65] rfl rfl ⟨Nat.zero_le _, GG, kg1, bg1, R1, R2, R3, R4⟩⟩
  clear kg1 GG R1 R2 R3 R4
  rintro mz az wv ⟨j4, us4, rfl, rfl, hj, GG, kg1, bg1, R1, R2, R3, R4⟩
  refine wp_seq (wp_region_lit ?_)
  obtain ⟨p4, hp4⟩ : ∃ p, decide (((j4 : Nat) : Int) < ((f.val.n : Nat) : Int)) = p := ⟨_, rfl⟩
  refine sv 55 (.bool p4) (run_lssT 3 _ _ _ rfl ((j4 : Nat) : Int) ((f.val.n : Nat) : Int) rfl rfl p4 hp4 _) ?_
  refine nr ?_; intro U h; simp only [z0, z1] at h; subst h
  cases p4
  refine wpList_nil (then_n (wp_seq (wp_cond_false rfl (wp_exit (then_x (then_x (blk_x ?_)))))))
  refine post_n (results_none Try.results13 _ _ _) rfl ?_
  exact ⟨rfl, GG⟩
  have hjn : j4 < f.val.n := by have := of_decide_eq_true hp4; omega
  obtain ⟨gr, cur, hao, hcur, hcs, hcv⟩ := R4.row (by omega)
  obtain ⟨x, hx⟩ := hcv (j4) (by omega)
  refine wpList_nil (then_n (wp_seq (wp_cond_true rfl (wp_skip (then_n (wp_seq (wp_block (wp_seq (wp_region_lit (mv 56 (.int .i64 ((j4 : Nat) : Int)) (mv 5 (.int .i64 ((j4 : Nat) : Int)) (wpList_nil (then_n (wp_region_lit (sv 57 (.pointer (some ⟨g1, 58, none⟩)) (run_fld 40 _ 10 rfl _ _ rfl _) ?_)))))))))))))))
  refine nr ?_; intro U h; simp only [z0, z1] at h; subst h
  refine sv 58 (.pointer (some ⟨g1, 91, none⟩)) (run_fld 38 _ 2 rfl _ _ rfl _) (sv 59 (.slice f.val.ao f.val.n f.val.cap) (run_ldc 36 _ rfl g1 91 rfl 40 _ kg1 (na32 _) _ rfl) (mv 60 (.int .i64 ((j4 : Nat) : Int)) ?_))
  refine nr ?_; intro U h; simp only [z0, z1] at h; subst h
  refine sv 61 (.pointer (some ⟨gr, j4, none⟩)) ((run_idxX bX _ _ rfl ⟨gr, 0, none⟩ f.val.n f.val.cap j4 (by exact congrArg (fun a => Value.slice a f.val.n f.val.cap) hao) rfl hjn _).trans (by rw [add_at, Nat.zero_add, Nat.mul_one])) (sv 62 (.int .u8 x) (run_ldc1 5 (na5 _) _ rfl ⟨gr, j4, none⟩ rfl _ (by rw [cell_of_row _ gr (j4) _ 5 (0, 0) hcur]; exact hx)) (sv 63 (.int .u8 (IntKind.u8.wrap (x + 1))) (run_incW 5 5 _ _ rfl .u8 x rfl rfl _) ?_))
  refine nr ?_; intro U h; simp only [z0, z1] at h; subst h
  refine sv 64 (.pointer (some ⟨gr, j4, none⟩)) ((run_idxX bX _ _ rfl ⟨gr, 0, none⟩ f.val.n f.val.cap j4 (by exact congrArg (fun a => Value.slice a f.val.n f.val.cap) hao) rfl hjn _).trans (by rw [add_at, Nat.zero_add, Nat.mul_one])) ?_
  refine s_store rfl rfl 5 _ _ rfl gr (j4) rfl (.int .u8 (IntKind.u8.wrap (x + 1))) rfl 5 cur hcur #[.int .u8 (IntKind.u8.wrap (x + 1))] rfl (by kernel_rfl) (show j4 + 1 ≤ cur.size by omega) (by kernel_rfl) _ rfl ?_
  intro w2 St
  replace kg1 := St.has (neT kg1 hcur (by decide)) kg1
  replace R1 := R1.st hcur (by omega) St (fun h => by first | rfl | exact absurd h (by decide))
  replace R2 := R2.st hcur (by omega) St (fun h => by first | rfl | exact absurd h (by decide))
  replace R3 := R3.st hcur (by omega) St (fun h => by first | rfl | exact absurd h (by decide))
  replace R4 := R4.st hcur (by omega) St (fun h => by first | rfl | exact absurd h (by decide))
  replace GG := GG.st St (.inr (by simp [spB, blk, hao]))
  clear St hcur hx hcv hcs
  refine wpList_nil (blk_n (then_n (wp_region_lit (sv 65 (.int .i64 ((j4 + 1 : Nat) : Int)) (run_add64 _ _ _ rfl ((j4 : Nat) : Int) 1 _ rfl rfl (by omega) (by omega) (by omega) _) (mv 54 (.int .i64 ((j4 + 1 : Nat) : Int)) ?_)))))
  refine nr ?_; intro U h; simp only [z0, z1] at h; subst h
  refine wpList_nil (then_n ?_)
  exact ⟨_, (by omega : f.val.n - (j4 + 1) < f.val.n - j4), j4 + 1, usB [5, 55, 56, 57, 58, 59, 60, 61, 62, 63, 64, 65] rfl rfl ⟨hjn, GG, kg1, bg1, R1, R2, R3, R4⟩⟩
  have hjn : j3 < f.tx.n := by have := of_decide_eq_true hp3; omega
  obtain ⟨gr, cur, hao, hcur, hcs, hcv⟩ := R3.row (by omega)
  obtain ⟨x, hx⟩ := hcv (j3) (by omega)
  refine wpList_nil (then_n (wp_seq (wp_cond_true rfl (wp_skip (then_n (wp_seq (wp_block (wp_seq (wp_region_lit (mv 41 (.int .i64 ((j3 : Nat) : Int)) (mv 4 (.int .i64 ((j3 : Nat) : Int)) (wpList_nil (then_n (wp_region_lit (sv 42 (.pointer (some ⟨g1, 94, none⟩)) (run_fld 40 _ 13 rfl _ _ rfl _) ?_)))))))))))))))
  refine nr ?_; intro U h; simp only [z0, z1] at h; subst h
  refine sv 43 (.slice f.tx.ao f.tx.n f.tx.cap) (run_ldc 36 _ rfl g1 94 rfl 40 _ kg1 (na32 _) _ rfl) (mv 44 (.int .i64 ((j3 : Nat) : Int)) (sv 45 (.pointer (some ⟨gr, j3, none⟩)) ((run_idxX bX _ _ rfl ⟨gr, 0, none⟩ f.tx.n f.tx.cap j3 (by exact congrArg (fun a => Value.slice a f.tx.n f.tx.cap) hao) rfl hjn _).trans (by rw [add_at, Nat.zero_add, Nat.mul_one])) ?_))
  refine nr ?_; intro U h; simp only [z0, z1] at h; subst h
  refine sv 46 (.int .u8 x) (run_ldc1 5 (na5 _) _ rfl ⟨gr, j3, none⟩ rfl _ (by rw [cell_of_row _ gr (j3) _ 5 (0, 0) hcur]; exact hx)) (sv 47 (.int .u8 (IntKind.u8.wrap (x + 1))) (run_incW 5 5 _ _ rfl .u8 x rfl rfl _) (sv 48 (.pointer (some ⟨gr, j3, none⟩)) ((run_idxX bX _ _ rfl ⟨gr, 0, none⟩ f.tx.n f.tx.cap j3 (by exact congrArg (fun a => Value.slice a f.tx.n f.tx.cap) hao) rfl hjn _).trans (by rw [add_at, Nat.zero_add, Nat.mul_one])) ?_))
  refine nr ?_; intro U h; simp only [z0, z1] at h; subst h
  refine s_store rfl rfl 5 _ _ rfl gr (j3) rfl (.int .u8 (IntKind.u8.wrap (x + 1))) rfl 5 cur hcur #[.int .u8 (IntKind.u8.wrap (x + 1))] rfl (by kernel_rfl) (show j3 + 1 ≤ cur.size by omega) (by kernel_rfl) _ rfl ?_
  intro w2 St
  replace kg1 := St.has (neT kg1 hcur (by decide)) kg1
  replace R1 := R1.st hcur (by omega) St (fun h => by first | rfl | exact absurd h (by decide))
  replace R2 := R2.st hcur (by omega) St (fun h => by first | rfl | exact absurd h (by decide))
  replace R3 := R3.st hcur (by omega) St (fun h => by first | rfl | exact absurd h (by decide))
  replace R4 := R4.st hcur (by omega) St (fun h => by first | rfl | exact absurd h (by decide))
  replace GG := GG.st St (.inr (by simp [spB, blk, hao]))
  clear St hcur hx hcv hcs
  refine wpList_nil (blk_n (then_n (wp_region_lit (sv 49 (.int .i64 ((j3 + 1 : Nat) : Int)) (run_add64 _ _ _ rfl ((j3 : Nat) : Int) 1 _ rfl rfl (by omega) (by omega) (by omega) _) (mv 39 (.int .i64 ((j3 + 1 : Nat) : Int)) (wpList_nil (then_n ?_)))))))
  exact ⟨_, (by omega : f.tx.n - (j3 + 1) < f.tx.n - j3), j3 + 1, usB [4, 40, 41, 42, 43, 44, 45, 46, 47, 48, 49] rfl rfl ⟨hjn, GG, kg1, bg1, R1, R2, R3, R4⟩⟩
  have hjn : j2 < f.ids.n := by have := of_decide_eq_true hp2; omega
  obtain ⟨gr, cur, hao, hcur, hcs, hcv⟩ := R2.row (by omega)
  obtain ⟨x, hx⟩ := hcv (j2 * 16) (by omega)
  refine wpList_nil (then_n (wp_seq (wp_cond_true rfl (wp_skip (then_n (wp_seq (wp_block (wp_seq (wp_region_lit (mv 25 (.int .i64 ((j2 : Nat) : Int)) ?_))))))))))
  refine nr ?_; intro U h; simp only [z0, z1] at h; subst h
  refine mv 3 (.int .i64 ((j2 : Nat) : Int)) (wpList_nil (then_n ?_))
  refine wp_region_exA (A := ?Ax1) 8 [(0, 26), (1, 27), (2, 28), (3, 29), (4, 30), (5, 31), (6, 32), (7, 33)] [.val (.pointer (some ⟨g1, 57, none⟩)), .val (.slice f.ids.ao f.ids.n f.ids.cap), .val (.int .i64 ((j2 : Nat) : Int)), .val (.pointer (some ⟨gr, j2 * 16, none⟩)), .val (.pointer (some ⟨gr, j2 * 16, none⟩)), .val (.int .u8 x), .val (.int .u8 (IntKind.u8.wrap (x + 1))), .val (.pointer (some ⟨gr, j2 * 16, none⟩))] follows (by kernel_rfl) rfl ?hAx1 (opsA_cons ?o0x1 (opsA_cons ?o1x1 (opsA_cons ?o2x1 (opsA_cons ?o3x1 (opsA_cons ?o4x1 (opsA_cons ?o5x1 (opsA_cons ?o6x1 (opsA_cons ?o7x1 opsA_nil)))))))) ?restx1
  case hAx1 =>
    intro ptrs
    simp only [full, foldSlots, filledE, postE, List.foldl_cons, List.foldl_nil, List.getD_cons_zero, List.getD_cons_succ, fill_val, List.set_cons_zero, List.set_cons_succ]
    exact rfl
  case o0x1 => exact fun _ _ hw _ => opE_value (v := .pointer (some ⟨g1, 57, none⟩)) rfl (run_fld 40 _ 9 rfl _ _ rfl _)
  case o1x1 => exact fun _ _ hw _ => opE_value (v := .slice f.ids.ao f.ids.n f.ids.cap) rfl (run_ldc 33 _ rfl g1 57 rfl 40 _ (hw.has kg1) (na29 _) _ rfl)
  case o2x1 => exact fun _ _ _ _ => opE_move (v := .int .i64 ((j2 : Nat) : Int)) _ rfl rfl rfl
  case o3x1 => exact fun _ _ hw _ => opE_value (v := .pointer (some ⟨gr, j2 * 16, none⟩)) rfl ((run_idxX iT29 _ _ rfl ⟨gr, 0, none⟩ f.ids.n f.ids.cap j2 (by exact congrArg (fun a => Value.slice a f.ids.n f.ids.cap) hao) rfl hjn _).trans (by rw [add_at, Nat.zero_add]))
  case o4x1 => exact fun _ _ hw _ => opE_value (v := .pointer (some ⟨gr, j2 * 16, none⟩)) rfl (run_idxA0 _ _ rfl gr (j2 * 16) rfl rfl _)
  case o5x1 => exact fun _ _ hw _ => opE_value (v := .int .u8 x) rfl (run_ldc1 5 (na5 _) _ rfl ⟨gr, j2 * 16, none⟩ rfl _ (by rw [cell_of_row _ gr (j2 * 16) _ 27 (0, 0) (hw.has hcur)]; exact hx))
  case o6x1 => exact fun _ _ hw _ => opE_value (v := .int .u8 (IntKind.u8.wrap (x + 1))) rfl (run_incW 5 5 _ _ rfl .u8 x rfl rfl _)
  case o7x1 => exact fun _ _ hw _ => opE_value (v := .pointer (some ⟨gr, j2 * 16, none⟩)) rfl ((run_idxX iT29 _ _ rfl ⟨gr, 0, none⟩ f.ids.n f.ids.cap j2 (by exact congrArg (fun a => Value.slice a f.ids.n f.ids.cap) hao) rfl hjn _).trans (by rw [add_at, Nat.zero_add]))
  intro ptrs w2 GD hxE
  simp only [List.drop_succ_cons, List.drop_zero]
  replace kg1 := GD.has kg1
  replace R1 := R1.gro ((Gro.refl _).drew.trans GD)
  replace R2 := R2.gro ((Gro.refl _).drew.trans GD)
  replace R3 := R3.gro ((Gro.refl _).drew.trans GD)
  replace R4 := R4.gro ((Gro.refl _).drew.trans GD)
  replace GG := GG.drew.tg GD
  replace hcur := GD.has hcur
  clear GD
  refine sv 34 (.pointer (some ⟨gr, j2 * 16, none⟩)) (run_idxA0 _ _ rfl gr (j2 * 16) rfl rfl _) ?_
  refine s_store rfl rfl 5 _ _ rfl gr (j2 * 16) rfl (.int .u8 (IntKind.u8.wrap (x + 1))) rfl 27 cur hcur #[.int .u8 (IntKind.u8.wrap (x + 1))] rfl (by kernel_rfl) (show j2 * 16 + 1 ≤ cur.size by omega) (by kernel_rfl) _ rfl ?_
  intro w3 St
  replace kg1 := St.has (neT kg1 hcur (by decide)) kg1
  replace R1 := R1.st hcur (by omega) St (fun h => by first | rfl | exact absurd h (by decide))
  replace R2 := R2.st hcur (by omega) St (fun h => by first | rfl | exact absurd h (by decide))
  replace R3 := R3.st hcur (by omega) St (fun h => by first | rfl | exact absurd h (by decide))
  replace R4 := R4.st hcur (by omega) St (fun h => by first | rfl | exact absurd h (by decide))
  replace GG := GG.st St (.inr (by simp [spB, blk, hao]))
  clear St hcur hx hcv hcs
  refine wpList_nil (blk_n (then_n (wp_region_lit (sv 35 (.int .i64 ((j2 + 1 : Nat) : Int)) (run_add64 _ _ _ rfl ((j2 : Nat) : Int) 1 _ rfl rfl (by omega) (by omega) (by omega) _) ?_))))
  refine nr ?_; intro U h; simp only [z0, z1] at h; subst h
  refine mv 23 (.int .i64 ((j2 + 1 : Nat) : Int)) (wpList_nil (then_n ?_))
  exact ⟨_, (by omega : f.ids.n - (j2 + 1) < f.ids.n - j2), j2 + 1, usB [3, 24, 25, 26, 27, 28, 29, 30, 31, 32, 33, 34, 35] rfl rfl ⟨hjn, GG, kg1, bg1, R1, R2, R3, R4⟩⟩
  have hjn : j1 < f.tr.n := by have := of_decide_eq_true hp1; omega
  obtain ⟨gr, cur, hao, hcur, hcs, hcv⟩ := R1.row (by omega)
  obtain ⟨x, hx⟩ := hcv (j1) (by omega)
  refine wpList_nil (then_n (wp_seq (wp_cond_true rfl (wp_skip (then_n (wp_seq (wp_block (wp_seq (wp_region_lit (mv 11 (.int .i64 ((j1 : Nat) : Int)) (mv 2 (.int .i64 ((j1 : Nat) : Int)) ?_)))))))))))
  refine nr ?_; intro U h; simp only [z0, z1] at h; subst h
  refine wpList_nil (then_n (wp_region_lit (sv 12 (.pointer (some ⟨g1, 56, none⟩)) (run_fld 40 _ 8 rfl _ _ rfl _) (sv 13 (.slice f.tr.ao f.tr.n f.tr.cap) (run_ldc 32 _ rfl g1 56 rfl 40 _ kg1 (na28 _) _ rfl) (mv 14 (.int .i64 ((j1 : Nat) : Int)) ?_)))))
  refine nr ?_; intro U h; simp only [z0, z1] at h; subst h
  refine sv 15 (.pointer (some ⟨gr, j1, none⟩)) ((run_idxX iT28 _ _ rfl ⟨gr, 0, none⟩ f.tr.n f.tr.cap j1 (by exact congrArg (fun a => Value.slice a f.tr.n f.tr.cap) hao) rfl hjn _).trans (by rw [add_at, Nat.zero_add, Nat.mul_one])) (sv 16 (.int .i64 x) (run_ldc1 3 (na3 _) _ rfl ⟨gr, j1, none⟩ rfl _ (by rw [cell_of_row _ gr (j1) _ 3 (0, 0) hcur]; exact hx)) (sv 17 (.int .i64 (IntKind.i64.wrap (x + 1))) (run_incW 3 3 _ _ rfl .i64 x rfl rfl _) ?_))
  refine nr ?_; intro U h; simp only [z0, z1] at h; subst h
  refine sv 18 (.pointer (some ⟨gr, j1, none⟩)) ((run_idxX iT28 _ _ rfl ⟨gr, 0, none⟩ f.tr.n f.tr.cap j1 (by exact congrArg (fun a => Value.slice a f.tr.n f.tr.cap) hao) rfl hjn _).trans (by rw [add_at, Nat.zero_add, Nat.mul_one])) ?_
  refine s_store rfl rfl 3 _ _ rfl gr (j1) rfl (.int .i64 (IntKind.i64.wrap (x + 1))) rfl 3 cur hcur #[.int .i64 (IntKind.i64.wrap (x + 1))] rfl (by kernel_rfl) (show j1 + 1 ≤ cur.size by omega) (by kernel_rfl) _ rfl ?_
  intro w2 St
  replace kg1 := St.has (neT kg1 hcur (by decide)) kg1
  replace R1 := R1.st hcur (by omega) St (fun h => by first | rfl | exact absurd h (by decide))
  replace R2 := R2.st hcur (by omega) St (fun h => by first | rfl | exact absurd h (by decide))
  replace R3 := R3.st hcur (by omega) St (fun h => by first | rfl | exact absurd h (by decide))
  replace R4 := R4.st hcur (by omega) St (fun h => by first | rfl | exact absurd h (by decide))
  replace GG := GG.st St (.inr (by simp [spB, blk, hao]))
  clear St hcur hx hcv hcs
  refine wpList_nil (blk_n (then_n (wp_region_lit (sv 19 (.int .i64 ((j1 + 1 : Nat) : Int)) (run_add64 _ _ _ rfl ((j1 : Nat) : Int) 1 _ rfl rfl (by omega) (by omega) (by omega) _) (mv 9 (.int .i64 ((j1 + 1 : Nat) : Int)) ?_)))))
  refine nr ?_; intro U h; simp only [z0, z1] at h; subst h
  refine wpList_nil (then_n ?_)
  exact ⟨_, (by omega : f.tr.n - (j1 + 1) < f.tr.n - j1), j1 + 1, usB [2, 10, 11, 12, 13, 14, 15, 16, 17, 18, 19] rfl rfl ⟨hjn, GG, kg1, bg1, R1, R2, R3, R4⟩⟩
end Go.Proofs.Ythmcnlmphikicab
