/- Reading: items, numbers within bounds, counts, flags; that nothing follows. -/
import Derived.Test.YthmcnlmphikicabZR3
namespace Go.Proofs.Ythmcnlmphikicab
open Go.RowKit
def rdIt (l : List Nat) (i : Nat) : Except Nat ((List Nat × (Nat × List Nat) × List Nat) × Nat) := thenR (rdI l i) fun k q => thenR (rdVe l q) fun v q => thenR (rdT l q 64) fun t q => .ok ((k, v, t), q)
set_option maxRecDepth 100000 in
set_option maxHeartbeats 4000000 in
theorem rdItem (rb : Nat) (so : Option Addr) (sc : Nat) (l : List Nat) (i : Nat) (w : World) (krb : w.heap[rb]? = some (.cells (c123 ⟨so, l.length, sc⟩ (i : Int)) 117 (0, 0))) (HB : BS rb w so sc l) (hl : l.length ≤ 140737488355000) : Calls Try.prog 59 #[.pointer (some ⟨rb, 0, none⟩)] w (RdP rb so sc l.length w (rdIt l i) fun a v w' => (∃ ao cap, v = .agg (c34 (idF a.1) ((a.2.1.1 : Nat) : Int) (idF a.2.1.2) ⟨ao, a.2.2.length, cap⟩) ∧ OB w' 5 .u8 w.heap.size ao cap a.2.2) ∧ a.1.length = 16 ∧ a.2.1.2.length = 16) := by
  refine s_enter Try.func59 rfl Try.ntmps59 [.pointer (some ⟨rb, 0, none⟩)] [.pointer (some ⟨rb, 0, none⟩), undef, undef, undef, undef, undef, undef, undef, undef, undef] rfl ?_
  have GG := GroR.refl rb w
  have hrb := lt_of_heap krb
  refine wp_seq (wp_region_lit ?_)
  refine s_alloc 2 rfl rfl 38 rfl _ zv34 _ rfl ?_
  intro w1 g1 G eg1 kg1
  have bg1 := size_baseR GG eg1
  have drbg1 := lt_new krb eg1
  replace krb := G.has krb
  replace GG := GG.tg G
  clear G eg1
  refine wpList_nil (then_n (wp_seq (wp_region_lit (mv 3 (.pointer (some ⟨rb, 0, none⟩)) ?_))))
  simp only [z0, z1]
  obtain ⟨r1, hr1⟩ : ∃ r, rdI l i = r := ⟨_, rfl⟩
  have HC := rdID rb so sc l i _ krb (HB.gror GG) hl
  rw [hr1] at HC
  rcases r1 with e | ⟨x1, i1⟩
  refine s_callp rfl _ 52 Try.call52 rfl rfl _ rfl [.pointer (some ⟨rb, 0, none⟩)] rfl (rd_err HC) ?_
  intro w2 G
  replace GG := GG.trans G
  refine then_p ?_
  refine post_p rfl ?_
  exact RdP.mk_err (by simp only [rdIt, hr1, thenR]) GG
  have sz1 := GG.size
  have ddrb1 := lt_of_heap krb
  have ddg11 := lt_of_heap kg1
  refine s_callx 4 rfl rfl _ 52 Try.call52 rfl rfl _ rfl [.pointer (some ⟨rb, 0, none⟩)] rfl (rd_ok HC) (fun _ _ ⟨_, he, _⟩ => ⟨_, he⟩) ?_
  rintro v w2 ⟨_, he, hv, G, kn⟩
  cases he
  replace kg1 := G.has kg1 (by omega)
  replace GG := GG.trans G
  replace krb := kn
  clear HC kn
  obtain ⟨rfl, h16x1⟩ := hv
  clear G
  refine mv 5 (.pointer (some ⟨rb, 0, none⟩)) ?_
  simp only [z0, z1]
  obtain ⟨r2, hr2⟩ : ∃ r, rdVe l i1 = r := ⟨_, rfl⟩
  have HC := rdVer rb so sc l i1 _ krb (HB.gror GG) hl
  rw [hr2] at HC
  rcases r2 with e | ⟨x2, i2⟩
  refine s_callp rfl _ 60 Try.call60 rfl rfl _ rfl [.pointer (some ⟨rb, 0, none⟩)] rfl (rd_err HC) ?_
  intro w3 G
  replace GG := GG.trans G
  refine then_p ?_
  refine post_p rfl ?_
  exact RdP.mk_err (by simp only [rdIt, hr1, hr2, thenR]) GG
  have sz2 := GG.size
  have ddrb2 := lt_of_heap krb
  have ddg12 := lt_of_heap kg1
  refine s_callx 6 rfl rfl _ 60 Try.call60 rfl rfl _ rfl [.pointer (some ⟨rb, 0, none⟩)] rfl (rd_ok HC) (fun _ _ ⟨_, he, _⟩ => ⟨_, he⟩) ?_
  rintro v w3 ⟨_, he, hv, G, kn⟩
  cases he
  replace kg1 := G.has kg1 (by omega)
  replace GG := GG.trans G
  replace krb := kn
  clear HC kn
  obtain ⟨rfl, h16x2⟩ := hv
  clear G
  refine mv 7 (.pointer (some ⟨rb, 0, none⟩)) ?_
  simp only [z0, z1]
  obtain ⟨r3, hr3⟩ : ∃ r, rdT l i2 64 = r := ⟨_, rfl⟩
  have HC := rdText rb so sc l i2 64 _ krb (HB.gror GG) hl (by omega)
  rw [hr3] at HC
  rcases r3 with e | ⟨x3, i3⟩
  refine s_callp rfl _ 53 Try.call53 rfl rfl _ rfl [.pointer (some ⟨rb, 0, none⟩), .int .i64 64] rfl (rd_err HC) ?_
  intro w4 G
  replace GG := GG.trans G
  refine then_p ?_
  refine post_p rfl ?_
  exact RdP.mk_err (by simp only [rdIt, hr1, hr2, hr3, thenR]) GG
  have sz3 := GG.size
  have ddrb3 := lt_of_heap krb
  have ddg13 := lt_of_heap kg1
  refine s_callx 8 rfl rfl _ 53 Try.call53 rfl rfl _ rfl [.pointer (some ⟨rb, 0, none⟩), .int .i64 64] rfl (rd_ok HC) (fun _ _ ⟨_, he, _⟩ => ⟨_, he⟩) ?_
  rintro v w4 ⟨_, he, hv, G, kn⟩
  cases he
  replace kg1 := G.has kg1 (by omega)
  replace GG := GG.trans G
  replace krb := kn
  clear HC kn
  obtain ⟨ao3, cap3, rfl, o3⟩ := hv
  clear G
  refine sv 9 (.agg (c34 (idF x1) ((x2.1 : Nat) : Int) (idF x2.2) ⟨ao3, x3.length, cap3⟩)) (run_bd 38 _ rfl [(0, .agg (c23 (idF x1))), (1, .agg (c31 ((x2.1 : Nat) : Int) (idF x2.2))), (2, .slice ao3 x3.length cap3)] rfl _ (by kernel_rfl)) ?_
  refine s_store rfl rfl 38 _ _ rfl g1 0 rfl (.agg (c34 (idF x1) ((x2.1 : Nat) : Int) (idF x2.2) ⟨ao3, x3.length, cap3⟩)) rfl 38 _ kg1 (c34 (idF x1) ((x2.1 : Nat) : Int) (idF x2.2) ⟨ao3, x3.length, cap3⟩) rfl (by kernel_rfl) (Nat.le_of_ble_eq_true rfl) (by kernel_rfl) (c34 (idF x1) ((x2.1 : Nat) : Int) (idF x2.2) ⟨ao3, x3.length, cap3⟩) (by kernel_rfl) ?_
  intro w6 S
  replace krb := S.has (by omega) krb
  replace GG := GG.st S bg1
  replace kg1 := S.new
  replace o3 := o3.apart S (fun ad ha => by have := o3.ge ad ha; omega)
  clear S
  refine wpList_nil (then_n (wp_ret ?_))
  refine bodyPost_ret (results_cell_row Try.results59 _ _ g1 38 _ (0, 0) _ rfl kg1 Try.underlying38 rfl (by kernel_rfl)) rfl ?_
  exact RdP.mk_ok (a := (x1, x2, x3)) (by simp only [rdIt, hr1, hr2, hr3, thenR]) GG (⟨⟨ao3, cap3, rfl, o3.mono sz3⟩, h16x1, h16x2⟩) krb
def rdW (l : List Nat) (i lo hi : Nat) : Except Nat (Nat × Nat) := thenR (rdN l i) fun x q => bif decide (((x : Nat) : Int) < ((lo : Nat) : Int)) then .error 2 else bif decide (((hi : Nat) : Int) < ((x : Nat) : Int)) then .error 2 else .ok (x, q)
set_option maxRecDepth 100000 in
set_option maxHeartbeats 4000000 in
theorem rdWith (rb : Nat) (so : Option Addr) (sc : Nat) (l : List Nat) (i lo hi : Nat) (w : World) (krb : w.heap[rb]? = some (.cells (c123 ⟨so, l.length, sc⟩ (i : Int)) 117 (0, 0))) (HB : BS rb w so sc l) (hl : l.length ≤ 140737488355000) : Calls Try.prog 58 #[.pointer (some ⟨rb, 0, none⟩), .int .i64 ((lo : Nat) : Int), .int .i64 ((hi : Nat) : Int)] w (RdP rb so sc l.length w (rdW l i lo hi) fun x v _ => v = .int .i64 ((x : Nat) : Int)) := by
  refine s_enter Try.func58 rfl Try.ntmps58 [.pointer (some ⟨rb, 0, none⟩), .int .i64 ((lo : Nat) : Int), .int .i64 ((hi : Nat) : Int)] [.pointer (some ⟨rb, 0, none⟩), .int .i64 ((lo : Nat) : Int), .int .i64 ((hi : Nat) : Int), undef, undef, undef, undef, undef, undef, undef, undef, undef, undef, undef, undef, undef, undef, undef, undef, undef] rfl ?_
  have GG := GroR.refl rb w
  have hrb := lt_of_heap krb
  refine wp_seq (wp_region_lit (mv 6 (.int .i64 0) (wpList_nil (then_n (wp_seq (wp_region_lit (mv 8 (.pointer (some ⟨rb, 0, none⟩)) ?_)))))))
  simp only [z0, z1]
  obtain ⟨r1, hr1⟩ : ∃ r, rdN l i = r := ⟨_, rfl⟩
  have HC := rdNum rb so sc l i _ krb (HB.gror GG) hl
  rw [hr1] at HC
  rcases r1 with e | ⟨x1, i1⟩
  refine s_callp rfl _ 50 Try.call50 rfl rfl _ rfl [.pointer (some ⟨rb, 0, none⟩)] rfl (rd_err HC) ?_
  intro w1 G
  replace GG := GG.trans G
  refine then_p ?_
  refine post_p rfl ?_
  exact RdP.mk_err (by simp only [rdW, hr1, thenR]) GG
  have sz1 := GG.size
  have ddrb1 := lt_of_heap krb
  refine s_callx 9 rfl rfl _ 50 Try.call50 rfl rfl _ rfl [.pointer (some ⟨rb, 0, none⟩)] rfl (rd_ok HC) (fun _ _ ⟨_, he, _⟩ => ⟨_, he⟩) ?_
  rintro v w1 ⟨_, he, hv, G, kn⟩
  cases he
  replace GG := GG.trans G
  replace krb := kn
  clear HC kn
  subst hv
  clear G
  refine mv 7 (.int .i64 ((x1 : Nat) : Int)) (wpList_nil (then_n (wp_seq (wp_seq (wp_region_lit (mv 10 (.int .i64 ((x1 : Nat) : Int)) ?_))))))
  simp only [z0, z1]
  refine mv 11 (.int .i64 ((lo : Nat) : Int)) ?_
  simp only [z0, z1]
  obtain ⟨p1, hp1⟩ : ∃ p, decide (((x1 : Nat) : Int) < ((lo : Nat) : Int)) = p := ⟨_, rfl⟩
  refine sv 12 (.bool p1) (run_lssT 2 _ _ _ rfl ((x1 : Nat) : Int) ((lo : Nat) : Int) rfl rfl p1 hp1 _) ?_
  simp only [z0, z1]
  cases p1
  refine s_val _ rfl rfl (.bool false) rfl ?_
  refine s_gval 14 rfl rfl (.int .i64 ((x1 : Nat) : Int)) (rfl) (s_gval 15 rfl rfl (.int .i64 ((hi : Nat) : Int)) (rfl) ?_)
  simp only [z0, z1]
  obtain ⟨p2, hp2⟩ : ∃ p, decide (((hi : Nat) : Int) < ((x1 : Nat) : Int)) = p := ⟨_, rfl⟩
  refine s_gval 16 rfl rfl (.bool p2) (run_gtrT 2 _ _ _ rfl ((x1 : Nat) : Int) ((hi : Nat) : Int) rfl rfl p2 hp2 _) ?_
  simp only [z0, z1]
  cases p2
  refine s_val _ rfl rfl (.bool false) rfl ?_
  refine wpList_nil (then_n (wp_cond_false rfl (wp_skip (then_n (wp_seq (wp_region_lit (mv 19 (.int .i64 ((x1 : Nat) : Int)) (mv 6 (.int .i64 ((x1 : Nat) : Int)) ?_))))))))
  simp only [z0, z1]
  refine wpList_nil (then_n (wp_ret ?_))
  refine bodyPost_ret (results_tmp Try.results58 _ _ _) rfl ?_
  exact RdP.mk_ok (a := x1) (by simp only [rdW, hr1, hp1, hp2, thenR, cond_false]) GG (rfl) krb
  refine mv 17 (.bool true) (wpList_nil (then_n (wp_cond_true rfl (wp_region_lit (sv 18 (.iface 47 (.int .i64 2)) (run_mk 47 _ rfl _ rfl) ?_)))))
  simp only [z0, z1]
  refine s_panic rfl _ rfl 47 (.int .i64 2) rfl ?_
  refine then_p ?_
  refine post_p rfl ?_
  exact RdP.mk_err (by simp only [rdW, hr1, hp1, hp2, thenR, cond_true, cond_false]) GG
  refine mv 13 (.bool true) (s_skip 14 rfl rfl (s_skip 15 rfl rfl ?_))
  simp only [z0, z1]
  refine s_skip 16 rfl rfl (mv 17 (.bool true) (wpList_nil (then_n (wp_cond_true rfl (wp_region_lit (sv 18 (.iface 47 (.int .i64 2)) (run_mk 47 _ rfl _ rfl) ?_))))))
  simp only [z0, z1]
  refine s_panic rfl _ rfl 47 (.int .i64 2) rfl ?_
  refine then_p ?_
  refine post_p rfl ?_
  exact RdP.mk_err (by simp only [rdW, hr1, hp1, thenR, cond_true]) GG
def rdC (l : List Nat) (i m : Nat) : Except Nat (Nat × Nat) := thenR (rdN l i) fun x q => bif decide (((m : Nat) : Int) < ((x : Nat) : Int)) then .error 4 else .ok (x, q)
set_option maxRecDepth 100000 in
set_option maxHeartbeats 4000000 in
theorem rdCount (rb : Nat) (so : Option Addr) (sc : Nat) (l : List Nat) (i m : Nat) (w : World) (krb : w.heap[rb]? = some (.cells (c123 ⟨so, l.length, sc⟩ (i : Int)) 117 (0, 0))) (HB : BS rb w so sc l) (hl : l.length ≤ 140737488355000) : Calls Try.prog 65 #[.pointer (some ⟨rb, 0, none⟩), .int .i64 ((m : Nat) : Int)] w (RdP rb so sc l.length w (rdC l i m) fun x v _ => v = .int .i64 ((x : Nat) : Int)) := by
  refine s_enter Try.func65 rfl Try.ntmps65 [.pointer (some ⟨rb, 0, none⟩), .int .i64 ((m : Nat) : Int)] [.pointer (some ⟨rb, 0, none⟩), .int .i64 ((m : Nat) : Int), undef, undef, undef, undef, undef, undef, undef, undef, undef, undef, undef] rfl ?_
  have GG := GroR.refl rb w
  have hrb := lt_of_heap krb
  refine wp_seq (wp_region_lit (mv 4 (.int .i64 0) (wpList_nil (then_n (wp_seq (wp_region_lit (mv 6 (.pointer (some ⟨rb, 0, none⟩)) ?_)))))))
  simp only [z0, z1]
  obtain ⟨r1, hr1⟩ : ∃ r, rdN l i = r := ⟨_, rfl⟩
  have HC := rdNum rb so sc l i _ krb (HB.gror GG) hl
  rw [hr1] at HC
  rcases r1 with e | ⟨x1, i1⟩
  refine s_callp rfl _ 50 Try.call50 rfl rfl _ rfl [.pointer (some ⟨rb, 0, none⟩)] rfl (rd_err HC) ?_
  intro w1 G
  replace GG := GG.trans G
  refine then_p ?_
  refine post_p rfl ?_
  exact RdP.mk_err (by simp only [rdC, hr1, thenR]) GG
  have sz1 := GG.size
  have ddrb1 := lt_of_heap krb
  refine s_callx 7 rfl rfl _ 50 Try.call50 rfl rfl _ rfl [.pointer (some ⟨rb, 0, none⟩)] rfl (rd_ok HC) (fun _ _ ⟨_, he, _⟩ => ⟨_, he⟩) ?_
  rintro v w1 ⟨_, he, hv, G, kn⟩
  cases he
  replace GG := GG.trans G
  replace krb := kn
  clear HC kn
  subst hv
  clear G
  refine mv 5 (.int .i64 ((x1 : Nat) : Int)) (wpList_nil (then_n (wp_seq (wp_seq (wp_region_lit (mv 8 (.int .i64 ((x1 : Nat) : Int)) ?_))))))
  simp only [z0, z1]
  refine mv 9 (.int .i64 ((m : Nat) : Int)) ?_
  simp only [z0, z1]
  obtain ⟨p1, hp1⟩ : ∃ p, decide (((m : Nat) : Int) < ((x1 : Nat) : Int)) = p := ⟨_, rfl⟩
  refine sv 10 (.bool p1) (run_gtrT 2 _ _ _ rfl ((x1 : Nat) : Int) ((m : Nat) : Int) rfl rfl p1 hp1 _) ?_
  simp only [z0, z1]
  cases p1
  refine wpList_nil (then_n (wp_cond_false rfl (wp_skip (then_n (wp_seq (wp_region_lit (mv 12 (.int .i64 ((x1 : Nat) : Int)) (mv 4 (.int .i64 ((x1 : Nat) : Int)) (wpList_nil (then_n (wp_ret ?_)))))))))))
  refine bodyPost_ret (results_tmp Try.results65 _ _ _) rfl ?_
  exact RdP.mk_ok (a := x1) (by simp only [rdC, hr1, hp1, thenR, cond_false]) GG (rfl) krb
  refine wpList_nil (then_n (wp_cond_true rfl (wp_region_lit (sv 11 (.iface 47 (.int .i64 4)) (run_mk 47 _ rfl _ rfl) ?_))))
  simp only [z0, z1]
  refine s_panic rfl _ rfl 47 (.int .i64 4) rfl ?_
  refine then_p ?_
  refine post_p rfl ?_
  exact RdP.mk_err (by simp only [rdC, hr1, hp1, thenR, cond_true]) GG
def rdF (l : List Nat) (i : Nat) : Except Nat (Bool × Nat) := thenR (rdW l i 0 1) fun x q => .ok (decide (((x : Nat) : Int) = 1), q)
set_option maxRecDepth 100000 in
set_option maxHeartbeats 4000000 in
theorem rdFlag (rb : Nat) (so : Option Addr) (sc : Nat) (l : List Nat) (i : Nat) (w : World) (krb : w.heap[rb]? = some (.cells (c123 ⟨so, l.length, sc⟩ (i : Int)) 117 (0, 0))) (HB : BS rb w so sc l) (hl : l.length ≤ 140737488355000) : Calls Try.prog 56 #[.pointer (some ⟨rb, 0, none⟩)] w (RdP rb so sc l.length w (rdF l i) fun a v _ => v = .bool a) := by
  refine s_enter Try.func56 rfl Try.ntmps56 [.pointer (some ⟨rb, 0, none⟩)] [.pointer (some ⟨rb, 0, none⟩), undef, undef, undef, undef, undef] rfl ?_
  have GG := GroR.refl rb w
  have hrb := lt_of_heap krb
  refine wp_seq (wp_region_lit (mv 2 (.bool false) (wpList_nil (then_n (wp_seq (wp_region_lit (mv 3 (.pointer (some ⟨rb, 0, none⟩)) ?_)))))))
  simp only [z0, z1]
  obtain ⟨r1, hr1⟩ : ∃ r, rdW l i 0 1 = r := ⟨_, rfl⟩
  have HC := rdWith rb so sc l i 0 1 _ krb (HB.gror GG) hl
  rw [hr1] at HC
  rcases r1 with e | ⟨x1, i1⟩
  refine s_callp rfl _ 58 Try.call58 rfl rfl _ rfl [.pointer (some ⟨rb, 0, none⟩), .int .i64 0, .int .i64 1] rfl (rd_err HC) ?_
  intro w1 G
  replace GG := GG.trans G
  refine then_p ?_
  refine post_p rfl ?_
  exact RdP.mk_err (by simp only [rdF, hr1, thenR]) GG
  have sz1 := GG.size
  have ddrb1 := lt_of_heap krb
  refine s_callx 4 rfl rfl _ 58 Try.call58 rfl rfl _ rfl [.pointer (some ⟨rb, 0, none⟩), .int .i64 0, .int .i64 1] rfl (rd_ok HC) (fun _ _ ⟨_, he, _⟩ => ⟨_, he⟩) ?_
  rintro v w1 ⟨_, he, hv, G, kn⟩
  cases he
  replace GG := GG.trans G
  replace krb := kn
  clear HC kn
  subst hv
  clear G
  simp only [z0, z1]
  obtain ⟨p1, hp1⟩ : ∃ p, decide (((x1 : Nat) : Int) = 1) = p := ⟨_, rfl⟩
  refine sv 5 (.bool p1) (run_eq_k 3 .i64 _ _ _ rfl Try.underlying3 ((x1 : Nat) : Int) 1 rfl rfl p1 hp1 _) (mv 2 (.bool p1) (wpList_nil (then_n (wp_ret ?_))))
  refine bodyPost_ret (results_tmp Try.results56 _ _ _) rfl ?_
  exact RdP.mk_ok (a := p1) (by simp only [rdF, hr1, hp1, thenR]) GG (rfl) krb
set_option maxRecDepth 100000 in
set_option maxHeartbeats 4000000 in
theorem end_bad (rb : Nat) (so : Option Addr) (sc : Nat) (l : List Nat) (i : Nat) (w : World) (krb : w.heap[rb]? = some (.cells (c123 ⟨so, l.length, sc⟩ (i : Int)) 117 (0, 0))) (_HB : BS rb w so sc l) (_hl : l.length ≤ 140737488355000) (hlt : decide (((i : Nat) : Int) < ((l.length : Nat) : Int)) = true) : Calls Try.prog 47 #[.pointer (some ⟨rb, 0, none⟩)] w fun e w' => e = .panicked (thrown 4) ∧ GroR rb w w' := by
  refine s_enter Try.func47 rfl Try.ntmps47 [.pointer (some ⟨rb, 0, none⟩)] [.pointer (some ⟨rb, 0, none⟩), undef, undef, undef, undef, undef, undef, undef, undef, undef, undef, undef, undef] rfl ?_
  have GG := GroR.refl rb w
  have hrb := lt_of_heap krb
  refine wp_seq ?_
  refine wp_region_exA (A := ?A) 10 [(0, 2), (1, 3), (2, 4), (3, 5), (4, 6), (5, 7), (6, 8), (7, 9), (8, 10), (9, 11)] [.val (.pointer (some ⟨rb, 0, none⟩)), .val (.pointer (some ⟨rb, 0, none⟩)), .val (.pointer (some ⟨rb, 1, none⟩)), .val (.int .i64 ((i : Nat) : Int)), .val (.pointer (some ⟨rb, 0, none⟩)), .val (.pointer (some ⟨rb, 0, none⟩)), .val (.pointer (some ⟨rb, 0, none⟩)), .val (.slice so l.length sc), .val (.int .i64 ((l.length : Nat) : Int)), .val (.bool true)] follows (by kernel_rfl) rfl ?hA (opsA_cons ?o0 (opsA_cons ?o1 (opsA_cons ?o2 (opsA_cons ?o3 (opsA_cons ?o4 (opsA_cons ?o5 (opsA_cons ?o6 (opsA_cons ?o7 (opsA_cons ?o8 (opsA_cons ?o9 opsA_nil)))))))))) ?rest
  case hA =>
    intro ptrs
    simp only [full, foldSlots, filledE, postE, List.foldl_cons, List.foldl_nil, List.getD_cons_zero, List.getD_cons_succ, fill_val, List.set_cons_zero, List.set_cons_succ]
    exact rfl
  case o0 => exact fun _ _ _ _ => opE_move (v := .pointer (some ⟨rb, 0, none⟩)) _ rfl rfl rfl
  case o1 => exact fun _ _ hw _ => opE_value (v := .pointer (some ⟨rb, 0, none⟩)) rfl (run_nc _ rfl _ rfl)
  case o2 => exact fun _ _ hw _ => opE_value (v := .pointer (some ⟨rb, 1, none⟩)) rfl (run_fld 117 _ 1 rfl _ _ rfl _)
  case o3 => exact fun _ _ hw _ => opE_value (v := .int .i64 ((i : Nat) : Int)) rfl (run_ldc 3 _ rfl rb 1 rfl 117 _ (hw.has krb) (na3 _) _ rfl)
  case o4 => exact fun _ _ _ _ => opE_move (v := .pointer (some ⟨rb, 0, none⟩)) _ rfl rfl rfl
  case o5 => exact fun _ _ hw _ => opE_value (v := .pointer (some ⟨rb, 0, none⟩)) rfl (run_nc _ rfl _ rfl)
  case o6 => exact fun _ _ hw _ => opE_value (v := .pointer (some ⟨rb, 0, none⟩)) rfl (run_fld 117 _ 0 rfl _ _ rfl _)
  case o7 => exact fun _ _ hw _ => opE_value (v := .slice so l.length sc) rfl (run_ldc 36 _ rfl rb 0 rfl 117 _ (hw.has krb) (na32 _) _ rfl)
  case o8 => exact fun _ _ hw _ => opE_value (v := .int .i64 ((l.length : Nat) : Int)) rfl (run_len Try.underlying36 _ rfl _ _ _ rfl _)
  case o9 => exact fun _ _ hw _ => opE_value (v := .bool true) rfl (run_lssT 3 _ _ _ rfl ((i : Nat) : Int) ((l.length : Nat) : Int) rfl rfl true hlt _)
  intro ptrs w1 GD hxE
  simp only [List.drop_succ_cons, List.drop_zero]
  replace krb := GD.has krb
  replace GG := GG.tg ((Gro.refl _).drew.trans GD)
  clear GD
  refine wpList_nil (then_n (wp_cond_true rfl (wp_region_lit (sv 12 (.iface 47 (.int .i64 4)) (run_mk 47 _ rfl _ rfl) ?_))))
  simp only [z0, z1]
  refine s_panic rfl _ rfl 47 (.int .i64 4) rfl ?_
  refine post_p rfl ?_
  exact ⟨rfl, GG⟩
set_option maxRecDepth 100000 in
set_option maxHeartbeats 4000000 in
theorem end_ok (rb : Nat) (so : Option Addr) (sc : Nat) (l : List Nat) (i : Nat) (w : World) (krb : w.heap[rb]? = some (.cells (c123 ⟨so, l.length, sc⟩ (i : Int)) 117 (0, 0))) (_HB : BS rb w so sc l) (_hl : l.length ≤ 140737488355000) (hlt : decide (((i : Nat) : Int) < ((l.length : Nat) : Int)) = false) : Calls Try.prog 47 #[.pointer (some ⟨rb, 0, none⟩)] w fun e w' => e = .returned (.tuple #[]) ∧ GroR rb w w' ∧ w'.heap[rb]? = some (.cells (c123 ⟨so, l.length, sc⟩ (i : Int)) 117 (0, 0)) := by
  refine s_enter Try.func47 rfl Try.ntmps47 [.pointer (some ⟨rb, 0, none⟩)] [.pointer (some ⟨rb, 0, none⟩), undef, undef, undef, undef, undef, undef, undef, undef, undef, undef, undef, undef] rfl ?_
  have GG := GroR.refl rb w
  have hrb := lt_of_heap krb
  refine wp_seq ?_
  refine wp_region_exA (A := ?A) 10 [(0, 2), (1, 3), (2, 4), (3, 5), (4, 6), (5, 7), (6, 8), (7, 9), (8, 10), (9, 11)] [.val (.pointer (some ⟨rb, 0, none⟩)), .val (.pointer (some ⟨rb, 0, none⟩)), .val (.pointer (some ⟨rb, 1, none⟩)), .val (.int .i64 ((i : Nat) : Int)), .val (.pointer (some ⟨rb, 0, none⟩)), .val (.pointer (some ⟨rb, 0, none⟩)), .val (.pointer (some ⟨rb, 0, none⟩)), .val (.slice so l.length sc), .val (.int .i64 ((l.length : Nat) : Int)), .val (.bool false)] follows (by kernel_rfl) rfl ?hA (opsA_cons ?o0 (opsA_cons ?o1 (opsA_cons ?o2 (opsA_cons ?o3 (opsA_cons ?o4 (opsA_cons ?o5 (opsA_cons ?o6 (opsA_cons ?o7 (opsA_cons ?o8 (opsA_cons ?o9 opsA_nil)))))))))) ?rest
  case hA =>
    intro ptrs
    simp only [full, foldSlots, filledE, postE, List.foldl_cons, List.foldl_nil, List.getD_cons_zero, List.getD_cons_succ, fill_val, List.set_cons_zero, List.set_cons_succ]
    exact rfl
  case o0 => exact fun _ _ _ _ => opE_move (v := .pointer (some ⟨rb, 0, none⟩)) _ rfl rfl rfl
  case o1 => exact fun _ _ hw _ => opE_value (v := .pointer (some ⟨rb, 0, none⟩)) rfl (run_nc _ rfl _ rfl)
  case o2 => exact fun _ _ hw _ => opE_value (v := .pointer (some ⟨rb, 1, none⟩)) rfl (run_fld 117 _ 1 rfl _ _ rfl _)
  case o3 => exact fun _ _ hw _ => opE_value (v := .int .i64 ((i : Nat) : Int)) rfl (run_ldc 3 _ rfl rb 1 rfl 117 _ (hw.has krb) (na3 _) _ rfl)
  case o4 => exact fun _ _ _ _ => opE_move (v := .pointer (some ⟨rb, 0, none⟩)) _ rfl rfl rfl
  case o5 => exact fun _ _ hw _ => opE_value (v := .pointer (some ⟨rb, 0, none⟩)) rfl (run_nc _ rfl _ rfl)
  case o6 => exact fun _ _ hw _ => opE_value (v := .pointer (some ⟨rb, 0, none⟩)) rfl (run_fld 117 _ 0 rfl _ _ rfl _)
  case o7 => exact fun _ _ hw _ => opE_value (v := .slice so l.length sc) rfl (run_ldc 36 _ rfl rb 0 rfl 117 _ (hw.has krb) (na32 _) _ rfl)
  case o8 => exact fun _ _ hw _ => opE_value (v := .int .i64 ((l.length : Nat) : Int)) rfl (run_len Try.underlying36 _ rfl _ _ _ rfl _)
  case o9 => exact fun _ _ hw _ => opE_value (v := .bool false) rfl (run_lssT 3 _ _ _ rfl ((i : Nat) : Int) ((l.length : Nat) : Int) rfl rfl false hlt _)
  intro ptrs w1 GD hxE
  simp only [List.drop_succ_cons, List.drop_zero]
  replace krb := GD.has krb
  replace GG := GG.tg ((Gro.refl _).drew.trans GD)
  clear GD
  refine wpList_nil (then_n (wp_cond_false rfl (wp_skip ?_)))
  refine post_n (results_none Try.results47 _ _ _) rfl ?_
  exact ⟨rfl, GG, krb⟩
end Go.Proofs.Ythmcnlmphikicab
