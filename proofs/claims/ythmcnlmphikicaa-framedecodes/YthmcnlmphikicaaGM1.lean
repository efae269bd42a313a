/- The document's reader. -/
import Derived.Test.YthmcnlmphikicaaGLaw9
import Derived.Test.YthmcnlmphikicaaGK4
import Derived.Test.YthmcnlmphikicaaGB8
namespace Go.Proofs.Ythmcnlmphikicaa
open Go.RowKit
structure GroS (S : List Nat) (w w' : World) : Prop where
  os : w'.os = w.os
  tape : w'.tape = w.tape
  output : w'.output = w.output
  size : w.heap.size ≤ w'.heap.size
  old : ∀ k, k < w.heap.size → k ∉ S → w'.heap[k]? = w.heap[k]?
theorem GroS.refl (S : List Nat) (w : World) : GroS S w w := ⟨rfl, rfl, rfl, Nat.le_refl _, fun _ _ _ => rfl⟩
theorem GroS.trans {S : List Nat} {a b c : World} (h : GroS S a b) (k : GroS S b c) : GroS S a c :=
  ⟨k.os.trans h.os, k.tape.trans h.tape, k.output.trans h.output, Nat.le_trans h.size k.size, fun i hi hn => (k.old i (Nat.lt_of_lt_of_le hi h.size) hn).trans (h.old i hi hn)⟩
theorem GroS.of {S : List Nat} {a b : World} (h : Gro a b) : GroS S a b := ⟨h.os, h.tape, h.output, h.size, fun k hk _ => h.block k hk⟩
theorem GroS.tg {S : List Nat} {a b c : World} (h : GroS S a b) (k : Gro b c) : GroS S a c := h.trans (.of k)
theorem GroS.drew {S : List Nat} {a b : World} (h : GroS S a b) : GroS S a b.drew := h.tg (Gro.refl b).drew
theorem GroS.st {S : List Nat} {g : Nat} {a b c : World} {x : Obj} (h : GroS S a b) (T : Stored b c g x) (hg : a.heap.size ≤ g ∨ g ∈ S) : GroS S a c :=
  ⟨T.os.trans h.os, T.tape.trans h.tape, T.output.trans h.output, Nat.le_trans h.size (Nat.le_of_eq T.size.symm), fun i hi hn => (T.old i (fun e => by
    rcases hg with hg | hg
    · omega
    · exact hn (e ▸ hg))).trans (h.old i hi hn)⟩
theorem GroS.has {S : List Nat} {k : Nat} {a b : World} {x : Obj} (h : GroS S a b) (hk : a.heap[k]? = some x) (hn : k ∉ S) : b.heap[k]? = some x := by
  rw [h.old k (lt_of_heap hk) hn]; exact hk
theorem GroS.mono {S T : List Nat} {a b : World} (h : GroS S a b) (hs : ∀ x ∈ S, x ∈ T) : GroS T a b := ⟨h.os, h.tape, h.output, h.size, fun k hk hn => h.old k hk fun e => hn (hs k e)⟩
theorem GroS.gro {S : List Nat} {w a b : World} (h : GroS S a b) (G : Gro w a) (hs : ∀ x ∈ S, w.heap.size ≤ x) : Gro w b :=
  ⟨h.os.trans G.os, h.tape.trans G.tape, h.output.trans G.output, Nat.le_trans G.size h.size, fun k hk => (h.old k (Nat.lt_of_lt_of_le hk G.size) (fun e => by have := hs k e; omega)).trans (G.block k hk)⟩
theorem GroS.gros {S T : List Nat} {w a b : World} (h : GroS S a b) (G : GroS T w a) (hs : ∀ x ∈ S, x ∈ T ∨ w.heap.size ≤ x) : GroS T w b :=
  ⟨h.os.trans G.os, h.tape.trans G.tape, h.output.trans G.output, Nat.le_trans G.size h.size, fun k hk hn => (h.old k (Nat.lt_of_lt_of_le hk G.size) (fun e => by
    rcases hs k e with h | h
    · exact hn h
    · omega)).trans (G.old k hk hn)⟩
theorem GroS.nc {S : List Nat} {w w' : World} {k : IntKind} {ao : Option Addr} {cap : Nat} {l : List Nat} (G : GroS S w w') (h : NC w k ao cap l) (hne : ∀ ad, ao = some ad → 0 < l.length → ad.block ∉ S) : NC w' k ao cap l :=
  ⟨h.fit, h.bare, fun ad ha j hj => by
    have h1 := h.cell ad ha j hj
    have hb : (ad.add j).block = ad.block := add_block ad j
    exact (World.cell?_of_block (G.old _ (World.block_lt_of_cell? w _ h1) (by rw [hb]; exact hne ad ha (by omega)))).trans h1, h.wf⟩
theorem size_basS {S : List Nat} {g : Nat} {w cur : World} (h : GroS S w cur) (e : cur.heap.size = g) : w.heap.size ≤ g := e ▸ h.size
def rdX (lo hi er : Nat) (l : List Nat) (i : Nat) : Except Nat (Nat × Nat) := thenR (rdN l i) fun x q => if x < lo ∨ hi < x then .error er else .ok (x, q)
def dR {α : Type} (rd : Nat → Except Nat (α × Nat)) (z : α) (a e : Nat) : α × Nat × Nat :=
  if e = 0 then (match rd a with | .ok (x, q) => (x, q, 0) | .error x => (z, a, x)) else (z, a, e)
theorem dR_skip {α : Type} {rd : Nat → Except Nat (α × Nat)} {z : α} {a e : Nat} (h : e ≠ 0) : dR rd z a e = (z, a, e) := by rw [dR, if_neg h]
theorem dR_ok {α : Type} {rd : Nat → Except Nat (α × Nat)} {z : α} {a : Nat} {x : α} {q : Nat} (h : rd a = .ok (x, q)) : dR rd z a 0 = (x, q, 0) := by rw [dR, if_pos rfl, h]
theorem dR_err {α : Type} {rd : Nat → Except Nat (α × Nat)} {z : α} {a x : Nat} (h : rd a = .error x) : dR rd z a 0 = (z, a, x) := by rw [dR, if_pos rfl, h]
theorem getNum_d (so : Option Addr) (sc : Nat) (l : List Nat) (w : World) (H : NC w .u8 so sc l) (i x q e : Nat) (HG : getE l (i : Int) = (x, q, e)) (hl : l.length ≤ 140737488355000) : Calls Try.prog 58 #[.slice so l.length sc, .int .i64 (i : Int)] w fun e' w' => e' = .returned (.tuple #[.int .u64 (x : Int), .int .i64 (q : Int), .int .i64 (e : Int)]) ∧ Gro w w' := by
  have := getNum_doc so sc l w H (i : Int) (by omega)
  rw [HG] at this
  exact this.mono fun e' w' ⟨h1, h2⟩ => ⟨h1, h2 ▸ Gro.refl _⟩
theorem getID_d (so : Option Addr) (sc : Nat) (l : List Nat) (w : World) (H : NC w .u8 so sc l) (i q e : Nat) (x : List Nat) (HG : getI l (i : Int) = (x, q, e)) (hl : l.length ≤ 140737488355000) : Calls Try.prog 60 #[.slice so l.length sc, .int .i64 (i : Int)] w fun e' w' => e' = .returned (.tuple #[.agg (c23 (idF x)), .int .i64 (q : Int), .int .i64 (e : Int)]) ∧ Gro w w' := by
  have := getID_doc so sc l w H (i : Int) hl
  have h16 := getI_len l (i : Int)
  rw [HG] at this h16
  rw [← bA_c23 h16]
  exact this
theorem getText_d (so : Option Addr) (sc : Nat) (l : List Nat) (w : World) (H : NC w .u8 so sc l) (i m q e : Nat) (x : List Nat) (HG : getT l (i : Int) (m : Int) = (x, q, e)) (hl : l.length ≤ 140737488355000) (hm : m ≤ 1000000) : Calls Try.prog 61 #[.slice so l.length sc, .int .i64 (i : Int), .int .i64 (m : Int)] w fun e' w' => ∃ ao cap, e' = .returned (.tuple #[.slice ao x.length cap, .int .i64 (q : Int), .int .i64 (e : Int)]) ∧ OB w' 5 .u8 w.heap.size ao cap x ∧ Gro w w' := by
  refine (getText_doc so sc l w H (i : Int) (m : Int) hl (by omega)).mono fun e' w' ⟨ao, cap, L, h1, h2, h3, h4⟩ => ?_
  have hL := h2.out
  rw [HG] at h1 hL
  subst hL
  exact ⟨ao, cap, h1, h3, h4⟩
set_option maxRecDepth 100000 in
set_option maxHeartbeats 4000000 in
theorem fail_0 (rb : Nat) (so : Option Addr) (sc : Nat) (l : List Nat) (w : World) (a x : Int) (krb : w.heap[rb]? = some (.cells (c72 ⟨so, l.length, sc⟩ a 0) 72 (0, 0))) : Calls Try.prog 59 #[.pointer (some ⟨rb, 0, none⟩), .int .i64 x] w fun en w' => en = .returned (.tuple #[]) ∧ GroS [rb] w w' ∧ w'.heap[rb]? = some (.cells (c72 ⟨so, l.length, sc⟩ a x) 72 (0, 0)) := by
  refine s_enter Try.func59 rfl Try.ntmps59 [.pointer (some ⟨rb, 0, none⟩), .int .i64 x] [.pointer (some ⟨rb, 0, none⟩), .int .i64 x, undef, undef, undef, undef, undef, undef, undef, undef, undef, undef, undef] rfl ?_
  have GG := GroS.refl [rb] w
  have hrb := lt_of_heap krb
  refine wp_seq (wp_region_lit (mv 4 (.pointer (some ⟨rb, 0, none⟩)) (sv 5 (.pointer (some ⟨rb, 0, none⟩)) (run_nc _ rfl _ rfl) (sv 6 (.pointer (some ⟨rb, 2, none⟩)) (run_fld 72 _ 2 rfl _ _ rfl _) (sv 7 (.int .i64 0) (run_ldc 38 _ rfl rb 2 rfl 72 _ krb (na38 _) _ rfl) (sv 8 (.bool true) (run_eq_k 38 .i64 _ _ _ rfl Try.underlying38 0 0 rfl rfl true rfl _) ?_))))))
  refine nr ?_; intro U h; simp only [z0, z1] at h; subst h
  refine wpList_nil (then_n (wp_cond_true rfl (wp_region_lit (mv 9 (.pointer (some ⟨rb, 0, none⟩)) (mv 10 (.int .i64 x) (sv 11 (.pointer (some ⟨rb, 0, none⟩)) (run_nc _ rfl _ rfl) (sv 12 (.pointer (some ⟨rb, 2, none⟩)) (run_fld 72 _ 2 rfl _ _ rfl _) ?_)))))))
  refine s_store rfl rfl 38 _ _ rfl rb 2 rfl (.int .i64 x) rfl 72 _ krb #[.int .i64 x] rfl (by kernel_rfl) (Nat.le_of_ble_eq_true rfl) (by kernel_rfl) (c72 ⟨so, l.length, sc⟩ a x) (by kernel_rfl) ?_
  intro w2 St
  replace GG := GG.st St (.inr (by simp))
  replace krb := St.new
  clear St
  refine wpList_nil ?_
  refine post_n (results_none Try.results59 _ _ _) rfl ?_
  exact ⟨rfl, GG, krb⟩
set_option maxRecDepth 100000 in
set_option maxHeartbeats 4000000 in
theorem num_skip (rb : Nat) (so : Option Addr) (sc : Nat) (l : List Nat) (w : World) (a e : Int) (he : e ≠ 0) (lo hi er : Nat) (krb : w.heap[rb]? = some (.cells (c72 ⟨so, l.length, sc⟩ a e) 72 (0, 0))) : Calls Try.prog 31 #[.pointer (some ⟨rb, 0, none⟩), .int .u64 ((lo : Nat) : Int), .int .u64 ((hi : Nat) : Int), .int .i64 ((er : Nat) : Int)] w fun en w' => en = .returned (.int .i64 0) ∧ GroS [rb] w w' ∧ w'.heap[rb]? = some (.cells (c72 ⟨so, l.length, sc⟩ a e) 72 (0, 0)) := by
  refine s_enterR Try.func31 rfl Try.ntmps31 [.pointer (some ⟨rb, 0, none⟩), .int .u64 ((lo : Nat) : Int), .int .u64 ((hi : Nat) : Int), .int .i64 ((er : Nat) : Int)] ?_
  intro U h; simp only [List.length_cons, List.length_nil, List.cons_append, List.nil_append, Nat.reduceAdd, Nat.reduceSub, List.reduceReplicate] at h; subst h
  have GG := GroS.refl [rb] w
  have hrb := lt_of_heap krb
  refine wp_seq (wp_region_lit (mv 8 (.int .i64 0) (wpList_nil (then_n (wp_seq (wp_seq (wp_region_lit (mv 12 (.pointer (some ⟨rb, 0, none⟩)) (sv 13 (.pointer (some ⟨rb, 0, none⟩)) (run_nc _ rfl _ rfl) (sv 14 (.pointer (some ⟨rb, 2, none⟩)) (run_fld 72 _ 2 rfl _ _ rfl _) (sv 15 (.int .i64 e) (run_ldc 38 _ rfl rb 2 rfl 72 _ krb (na38 _) _ rfl) ?_)))))))))))
  refine nr ?_; intro U h; simp only [z0, z1] at h; subst h
  refine sv 16 (.bool true) (run_neq_k 38 .i64 _ _ _ rfl Try.underlying38 e 0 rfl rfl true (decide_eq_false he) _) (wpList_nil (then_n (wp_cond_true rfl (wp_seq (wp_region_lit (mv 8 (.int .i64 0) (wpList_nil (then_n (wp_ret (then_r ?_))))))))))
  refine bodyPost_ret (results_tmp Try.results31 _ _ _) rfl ?_
  exact ⟨rfl, GG, krb⟩
set_option maxRecDepth 100000 in
set_option maxHeartbeats 4000000 in
theorem num_e (rb : Nat) (so : Option Addr) (sc : Nat) (l : List Nat) (w : World) (i lo hi er : Nat) (krb : w.heap[rb]? = some (.cells (c72 ⟨so, l.length, sc⟩ ((i : Nat) : Int) 0) 72 (0, 0))) (H : NC w .u8 so sc l) (hl : l.length ≤ 140737488355000) (x q e : Nat) (HG : getE l (i : Int) = (x, q, e)) (he : e ≠ 0) : Calls Try.prog 31 #[.pointer (some ⟨rb, 0, none⟩), .int .u64 ((lo : Nat) : Int), .int .u64 ((hi : Nat) : Int), .int .i64 ((er : Nat) : Int)] w fun en w' => en = .returned (.int .i64 0) ∧ GroS [rb] w w' ∧ w'.heap[rb]? = some (.cells (c72 ⟨so, l.length, sc⟩ ((i : Nat) : Int) ((e : Nat) : Int)) 72 (0, 0)) := by
  refine s_enterR Try.func31 rfl Try.ntmps31 [.pointer (some ⟨rb, 0, none⟩), .int .u64 ((lo : Nat) : Int), .int .u64 ((hi : Nat) : Int), .int .i64 ((er : Nat) : Int)] ?_
  intro U h; simp only [List.length_cons, List.length_nil, List.cons_append, List.nil_append, Nat.reduceAdd, Nat.reduceSub, List.reduceReplicate] at h; subst h
  have GG := GroS.refl [rb] w
  have hrb := lt_of_heap krb
  refine wp_seq (wp_region_lit (mv 8 (.int .i64 0) (wpList_nil (then_n (wp_seq (wp_seq (wp_region_lit (mv 12 (.pointer (some ⟨rb, 0, none⟩)) (sv 13 (.pointer (some ⟨rb, 0, none⟩)) (run_nc _ rfl _ rfl) (sv 14 (.pointer (some ⟨rb, 2, none⟩)) (run_fld 72 _ 2 rfl _ _ rfl _) (sv 15 (.int .i64 0) (run_ldc 38 _ rfl rb 2 rfl 72 _ krb (na38 _) _ rfl) ?_)))))))))))
  refine nr ?_; intro U h; simp only [z0, z1] at h; subst h
  refine sv 16 (.bool false) (run_neq_k 38 .i64 _ _ _ rfl Try.underlying38 0 0 rfl rfl false (rfl) _) (wpList_nil (then_n (wp_cond_false rfl (wp_skip (then_n (wp_seq ?_))))))
  refine wp_region_exA (A := ?Ax1) 15 [(0, 18), (1, 19), (2, 20), (3, 21), (4, 22), (5, 23), (6, 24), (7, 25), (8, 26), (9, 17), (10, 27), (11, 28), (12, 29), (13, 9), (14, 10)] [.val (.pointer (some ⟨rb, 0, none⟩)), .val (.pointer (some ⟨rb, 0, none⟩)), .val (.pointer (some ⟨rb, 0, none⟩)), .val (.slice so l.length sc), .val (.pointer (some ⟨rb, 0, none⟩)), .val (.pointer (some ⟨rb, 0, none⟩)), .val (.pointer (some ⟨rb, 1, none⟩)), .val (.int .i64 ((i : Nat) : Int)), .val (.tuple #[.int .u64 ((x : Nat) : Int), .int .i64 ((q : Nat) : Int), .int .i64 ((e : Nat) : Int)]), .val (.tuple #[.int .u64 ((x : Nat) : Int), .int .i64 ((q : Nat) : Int), .int .i64 ((e : Nat) : Int)]), .val (.int .u64 ((x : Nat) : Int)), .val (.int .i64 ((q : Nat) : Int)), .val (.int .i64 ((e : Nat) : Int)), .val (.int .u64 ((x : Nat) : Int)), .val (.int .i64 ((q : Nat) : Int))] follows (by kernel_rfl) rfl ?hAx1 (opsA_cons ?o0x1 (opsA_cons ?o1x1 (opsA_cons ?o2x1 (opsA_cons ?o3x1 (opsA_cons ?o4x1 (opsA_cons ?o5x1 (opsA_cons ?o6x1 (opsA_cons ?o7x1 (opsA_cons ?o8x1 (opsA_cons ?o9x1 (opsA_cons ?o10x1 (opsA_cons ?o11x1 (opsA_cons ?o12x1 (opsA_cons ?o13x1 (opsA_cons ?o14x1 opsA_nil))))))))))))))) ?restx1
  case hAx1 =>
    intro ptrs
    simp only [full, foldSlots, filledE, postE, List.foldl_cons, List.foldl_nil, List.getD_cons_zero, List.getD_cons_succ, fill_val, List.set_cons_zero, List.set_cons_succ]
    exact rfl
  case o0x1 => exact fun _ _ _ _ => opE_move (v := .pointer (some ⟨rb, 0, none⟩)) _ rfl rfl rfl
  case o1x1 => exact fun _ _ hw _ => opE_value (v := .pointer (some ⟨rb, 0, none⟩)) rfl (run_nc _ rfl _ rfl)
  case o2x1 => exact fun _ _ hw _ => opE_value (v := .pointer (some ⟨rb, 0, none⟩)) rfl (run_fld 72 _ 0 rfl _ _ rfl _)
  case o3x1 => exact fun _ _ hw _ => opE_value (v := .slice so l.length sc) rfl (run_ldc 32 _ rfl rb 0 rfl 72 _ (hw.has krb) (na32 _) _ rfl)
  case o4x1 => exact fun _ _ _ _ => opE_move (v := .pointer (some ⟨rb, 0, none⟩)) _ rfl rfl rfl
  case o5x1 => exact fun _ _ hw _ => opE_value (v := .pointer (some ⟨rb, 0, none⟩)) rfl (run_nc _ rfl _ rfl)
  case o6x1 => exact fun _ _ hw _ => opE_value (v := .pointer (some ⟨rb, 1, none⟩)) rfl (run_fld 72 _ 1 rfl _ _ rfl _)
  case o7x1 => exact fun _ _ hw _ => opE_value (v := .int .i64 ((i : Nat) : Int)) rfl (run_ldc 3 _ rfl rb 1 rfl 72 _ (hw.has krb) (na3 _) _ rfl)
  case o8x1 => exact fun _ _ hw _ => opE_call (.val (.tuple #[.int .u64 ((x : Nat) : Int), .int .i64 ((q : Nat) : Int), .int .i64 ((e : Nat) : Int)])) rfl _ 58 Try.call58 rfl rfl _ rfl [.slice so l.length sc, .int .i64 ((i : Nat) : Int)] rfl ((getNum_d so sc l _ (H.gro ((Gro.refl _).drew.trans hw)) i x q e HG hl).mono fun e w' ⟨he, hg⟩ => ⟨_, he, hg, rfl⟩)
  case o9x1 => exact fun _ _ _ _ => opE_move (v := .tuple #[.int .u64 ((x : Nat) : Int), .int .i64 ((q : Nat) : Int), .int .i64 ((e : Nat) : Int)]) _ rfl rfl rfl
  case o10x1 => exact fun _ _ hw _ => opE_value (v := .int .u64 ((x : Nat) : Int)) rfl (rfl)
  case o11x1 => exact fun _ _ hw _ => opE_value (v := .int .i64 ((q : Nat) : Int)) rfl (rfl)
  case o12x1 => exact fun _ _ hw _ => opE_value (v := .int .i64 ((e : Nat) : Int)) rfl (rfl)
  case o13x1 => exact fun _ _ _ _ => opE_assign (v := .int .u64 ((x : Nat) : Int)) _ rfl rfl rfl
  case o14x1 => exact fun _ _ _ _ => opE_assign (v := .int .i64 ((q : Nat) : Int)) _ rfl rfl rfl
  intro ptrs w1 GD hxE
  simp only [List.drop_succ_cons, List.drop_zero]
  replace krb := GD.has krb
  replace GG := GG.drew.tg GD
  clear GD
  refine mv 11 (.int .i64 ((e : Nat) : Int)) (wpList_nil (then_n (wp_seq (wp_seq (wp_region_lit (mv 30 (.int .i64 ((e : Nat) : Int)) (sv 31 (.bool true) (run_neq_k 38 .i64 _ _ _ rfl Try.underlying38 ((e : Nat) : Int) 0 rfl rfl true (by first | exact decide_eq_true (by omega) | exact decide_eq_false (by omega)) _) (wpList_nil (then_n (wp_cond_true rfl (wp_seq (wp_region_lit (mv 32 (.pointer (some ⟨rb, 0, none⟩)) ?_)))))))))))))
  refine nr ?_; intro U h; simp only [z0, z1] at h; subst h
  refine mv 33 (.int .i64 ((e : Nat) : Int)) ?_
  refine s_callx 34 rfl rfl _ 59 Try.call59 rfl rfl _ rfl [.pointer (some ⟨rb, 0, none⟩), .int .i64 ((e : Nat) : Int)] rfl (fail_0 rb so sc l _ ((i : Nat) : Int) ((e : Nat) : Int) krb) (fun _ _ ⟨he, _⟩ => ⟨_, he⟩) ?_
  rintro v w2 ⟨he, G, kn⟩
  cases he
  replace GG := GG.trans G
  clear krb G
  have krb := kn
  clear kn
  refine wpList_nil (then_n (wp_seq (wp_region_lit (mv 8 (.int .i64 0) (wpList_nil (then_n (wp_ret (then_r ?_))))))))
  refine bodyPost_ret (results_tmp Try.results31 _ _ _) rfl ?_
  exact ⟨rfl, GG, krb⟩
set_option maxRecDepth 100000 in
set_option maxHeartbeats 4000000 in
theorem num_huge (rb : Nat) (so : Option Addr) (sc : Nat) (l : List Nat) (w : World) (i lo hi er : Nat) (krb : w.heap[rb]? = some (.cells (c72 ⟨so, l.length, sc⟩ ((i : Nat) : Int) 0) 72 (0, 0))) (H : NC w .u8 so sc l) (hl : l.length ≤ 140737488355000) (x q e : Nat) (HG : getE l (i : Int) = (x, q, e)) (he : e = 0) (hx : 9223372036854775808 ≤ x) (hx2 : x < 18446744073709551616) : Calls Try.prog 31 #[.pointer (some ⟨rb, 0, none⟩), .int .u64 ((lo : Nat) : Int), .int .u64 ((hi : Nat) : Int), .int .i64 ((er : Nat) : Int)] w fun en w' => en = .returned (.int .i64 0) ∧ GroS [rb] w w' ∧ w'.heap[rb]? = some (.cells (c72 ⟨so, l.length, sc⟩ ((i : Nat) : Int) 2) 72 (0, 0)) := by
  refine s_enterR Try.func31 rfl Try.ntmps31 [.pointer (some ⟨rb, 0, none⟩), .int .u64 ((lo : Nat) : Int), .int .u64 ((hi : Nat) : Int), .int .i64 ((er : Nat) : Int)] ?_
  intro U h; simp only [List.length_cons, List.length_nil, List.cons_append, List.nil_append, Nat.reduceAdd, Nat.reduceSub, List.reduceReplicate] at h; subst h
  have GG := GroS.refl [rb] w
  have hrb := lt_of_heap krb
  refine wp_seq (wp_region_lit (mv 8 (.int .i64 0) (wpList_nil (then_n (wp_seq (wp_seq (wp_region_lit (mv 12 (.pointer (some ⟨rb, 0, none⟩)) (sv 13 (.pointer (some ⟨rb, 0, none⟩)) (run_nc _ rfl _ rfl) (sv 14 (.pointer (some ⟨rb, 2, none⟩)) (run_fld 72 _ 2 rfl _ _ rfl _) (sv 15 (.int .i64 0) (run_ldc 38 _ rfl rb 2 rfl 72 _ krb (na38 _) _ rfl) ?_)))))))))))
  refine nr ?_; intro U h; simp only [z0, z1] at h; subst h
  refine sv 16 (.bool false) (run_neq_k 38 .i64 _ _ _ rfl Try.underlying38 0 0 rfl rfl false (rfl) _) (wpList_nil (then_n (wp_cond_false rfl (wp_skip (then_n (wp_seq ?_))))))
  refine wp_region_exA (A := ?Ax2) 15 [(0, 18), (1, 19), (2, 20), (3, 21), (4, 22), (5, 23), (6, 24), (7, 25), (8, 26), (9, 17), (10, 27), (11, 28), (12, 29), (13, 9), (14, 10)] [.val (.pointer (some ⟨rb, 0, none⟩)), .val (.pointer (some ⟨rb, 0, none⟩)), .val (.pointer (some ⟨rb, 0, none⟩)), .val (.slice so l.length sc), .val (.pointer (some ⟨rb, 0, none⟩)), .val (.pointer (some ⟨rb, 0, none⟩)), .val (.pointer (some ⟨rb, 1, none⟩)), .val (.int .i64 ((i : Nat) : Int)), .val (.tuple #[.int .u64 ((x : Nat) : Int), .int .i64 ((q : Nat) : Int), .int .i64 ((e : Nat) : Int)]), .val (.tuple #[.int .u64 ((x : Nat) : Int), .int .i64 ((q : Nat) : Int), .int .i64 ((e : Nat) : Int)]), .val (.int .u64 ((x : Nat) : Int)), .val (.int .i64 ((q : Nat) : Int)), .val (.int .i64 ((e : Nat) : Int)), .val (.int .u64 ((x : Nat) : Int)), .val (.int .i64 ((q : Nat) : Int))] follows (by kernel_rfl) rfl ?hAx2 (opsA_cons ?o0x2 (opsA_cons ?o1x2 (opsA_cons ?o2x2 (opsA_cons ?o3x2 (opsA_cons ?o4x2 (opsA_cons ?o5x2 (opsA_cons ?o6x2 (opsA_cons ?o7x2 (opsA_cons ?o8x2 (opsA_cons ?o9x2 (opsA_cons ?o10x2 (opsA_cons ?o11x2 (opsA_cons ?o12x2 (opsA_cons ?o13x2 (opsA_cons ?o14x2 opsA_nil))))))))))))))) ?restx2
  case hAx2 =>
    intro ptrs
    simp only [full, foldSlots, filledE, postE, List.foldl_cons, List.foldl_nil, List.getD_cons_zero, List.getD_cons_succ, fill_val, List.set_cons_zero, List.set_cons_succ]
    exact rfl
  case o0x2 => exact fun _ _ _ _ => opE_move (v := .pointer (some ⟨rb, 0, none⟩)) _ rfl rfl rfl
  case o1x2 => exact fun _ _ hw _ => opE_value (v := .pointer (some ⟨rb, 0, none⟩)) rfl (run_nc _ rfl _ rfl)
  case o2x2 => exact fun _ _ hw _ => opE_value (v := .pointer (some ⟨rb, 0, none⟩)) rfl (run_fld 72 _ 0 rfl _ _ rfl _)
  case o3x2 => exact fun _ _ hw _ => opE_value (v := .slice so l.length sc) rfl (run_ldc 32 _ rfl rb 0 rfl 72 _ (hw.has krb) (na32 _) _ rfl)
  case o4x2 => exact fun _ _ _ _ => opE_move (v := .pointer (some ⟨rb, 0, none⟩)) _ rfl rfl rfl
  case o5x2 => exact fun _ _ hw _ => opE_value (v := .pointer (some ⟨rb, 0, none⟩)) rfl (run_nc _ rfl _ rfl)
  case o6x2 => exact fun _ _ hw _ => opE_value (v := .pointer (some ⟨rb, 1, none⟩)) rfl (run_fld 72 _ 1 rfl _ _ rfl _)
  case o7x2 => exact fun _ _ hw _ => opE_value (v := .int .i64 ((i : Nat) : Int)) rfl (run_ldc 3 _ rfl rb 1 rfl 72 _ (hw.has krb) (na3 _) _ rfl)
  case o8x2 => exact fun _ _ hw _ => opE_call (.val (.tuple #[.int .u64 ((x : Nat) : Int), .int .i64 ((q : Nat) : Int), .int .i64 ((e : Nat) : Int)])) rfl _ 58 Try.call58 rfl rfl _ rfl [.slice so l.length sc, .int .i64 ((i : Nat) : Int)] rfl ((getNum_d so sc l _ (H.gro ((Gro.refl _).drew.trans hw)) i x q e HG hl).mono fun e w' ⟨he, hg⟩ => ⟨_, he, hg, rfl⟩)
  case o9x2 => exact fun _ _ _ _ => opE_move (v := .tuple #[.int .u64 ((x : Nat) : Int), .int .i64 ((q : Nat) : Int), .int .i64 ((e : Nat) : Int)]) _ rfl rfl rfl
  case o10x2 => exact fun _ _ hw _ => opE_value (v := .int .u64 ((x : Nat) : Int)) rfl (rfl)
  case o11x2 => exact fun _ _ hw _ => opE_value (v := .int .i64 ((q : Nat) : Int)) rfl (rfl)
  case o12x2 => exact fun _ _ hw _ => opE_value (v := .int .i64 ((e : Nat) : Int)) rfl (rfl)
  case o13x2 => exact fun _ _ _ _ => opE_assign (v := .int .u64 ((x : Nat) : Int)) _ rfl rfl rfl
  case o14x2 => exact fun _ _ _ _ => opE_assign (v := .int .i64 ((q : Nat) : Int)) _ rfl rfl rfl
  intro ptrs w1 GD hxE
  simp only [List.drop_succ_cons, List.drop_zero]
  replace krb := GD.has krb
  replace GG := GG.drew.tg GD
  clear GD
  refine mv 11 (.int .i64 ((e : Nat) : Int)) (wpList_nil (then_n (wp_seq (wp_seq (wp_region_lit (mv 30 (.int .i64 ((e : Nat) : Int)) (sv 31 (.bool false) (run_neq_k 38 .i64 _ _ _ rfl Try.underlying38 ((e : Nat) : Int) 0 rfl rfl false (by first | exact decide_eq_true (by omega) | exact decide_eq_false (by omega)) _) (wpList_nil (then_n (wp_cond_false rfl (wp_skip (then_n (wp_seq (wp_seq (wp_region_lit ?_)))))))))))))))
  refine mv 35 (.int .u64 ((x : Nat) : Int)) ?_
  refine nr ?_; intro U h; simp only [z0, z1] at h; subst h
  refine sv 36 (.int .u64 ((1 : Nat) : Int)) (run_shr64 62 56 _ _ rfl x 63 .u64 rfl rfl (by decide) 1 (by omega) _) (sv 37 (.bool true) (run_gtrU 62 62 _ _ rfl 1 0 rfl rfl true (by first | exact decide_eq_true (by omega) | exact decide_eq_false (by omega)) _) (wpList_nil (then_n (wp_cond_true rfl (wp_seq (wp_region_lit (mv 38 (.pointer (some ⟨rb, 0, none⟩)) ?_)))))))
  refine s_callx 39 rfl rfl _ 59 Try.call59 rfl rfl _ rfl [.pointer (some ⟨rb, 0, none⟩), .int .i64 2] rfl (fail_0 rb so sc l _ ((i : Nat) : Int) 2 krb) (fun _ _ ⟨he, _⟩ => ⟨_, he⟩) ?_
  rintro v w2 ⟨he, G, kn⟩
  cases he
  replace GG := GG.trans G
  clear krb G
  have krb := kn
  clear kn
  refine wpList_nil (then_n (wp_seq (wp_region_lit (mv 8 (.int .i64 0) ?_))))
  refine nr ?_; intro U h; simp only [z0, z1] at h; subst h
  refine wpList_nil (then_n (wp_ret (then_r ?_)))
  refine bodyPost_ret (results_tmp Try.results31 _ _ _) rfl ?_
  exact ⟨rfl, GG, krb⟩
set_option maxRecDepth 100000 in
set_option maxHeartbeats 4000000 in
theorem num_low (rb : Nat) (so : Option Addr) (sc : Nat) (l : List Nat) (w : World) (i lo hi er : Nat) (krb : w.heap[rb]? = some (.cells (c72 ⟨so, l.length, sc⟩ ((i : Nat) : Int) 0) 72 (0, 0))) (H : NC w .u8 so sc l) (hl : l.length ≤ 140737488355000) (x q e : Nat) (HG : getE l (i : Int) = (x, q, e)) (he : e = 0) (hx : x < 9223372036854775808) (hx2 : x < lo) : Calls Try.prog 31 #[.pointer (some ⟨rb, 0, none⟩), .int .u64 ((lo : Nat) : Int), .int .u64 ((hi : Nat) : Int), .int .i64 ((er : Nat) : Int)] w fun en w' => en = .returned (.int .i64 0) ∧ GroS [rb] w w' ∧ w'.heap[rb]? = some (.cells (c72 ⟨so, l.length, sc⟩ ((i : Nat) : Int) ((er : Nat) : Int)) 72 (0, 0)) := by
  refine s_enterR Try.func31 rfl Try.ntmps31 [.pointer (some ⟨rb, 0, none⟩), .int .u64 ((lo : Nat) : Int), .int .u64 ((hi : Nat) : Int), .int .i64 ((er : Nat) : Int)] ?_
  intro U h; simp only [List.length_cons, List.length_nil, List.cons_append, List.nil_append, Nat.reduceAdd, Nat.reduceSub, List.reduceReplicate] at h; subst h
  have GG := GroS.refl [rb] w
  have hrb := lt_of_heap krb
  refine wp_seq (wp_region_lit (mv 8 (.int .i64 0) (wpList_nil (then_n (wp_seq (wp_seq (wp_region_lit (mv 12 (.pointer (some ⟨rb, 0, none⟩)) (sv 13 (.pointer (some ⟨rb, 0, none⟩)) (run_nc _ rfl _ rfl) (sv 14 (.pointer (some ⟨rb, 2, none⟩)) (run_fld 72 _ 2 rfl _ _ rfl _) (sv 15 (.int .i64 0) (run_ldc 38 _ rfl rb 2 rfl 72 _ krb (na38 _) _ rfl) ?_)))))))))))
  refine nr ?_; intro U h; simp only [z0, z1] at h; subst h
  refine sv 16 (.bool false) (run_neq_k 38 .i64 _ _ _ rfl Try.underlying38 0 0 rfl rfl false (rfl) _) (wpList_nil (then_n (wp_cond_false rfl (wp_skip (then_n (wp_seq ?_))))))
  refine wp_region_exA (A := ?Ax3) 15 [(0, 18), (1, 19), (2, 20), (3, 21), (4, 22), (5, 23), (6, 24), (7, 25), (8, 26), (9, 17), (10, 27), (11, 28), (12, 29), (13, 9), (14, 10)] [.val (.pointer (some ⟨rb, 0, none⟩)), .val (.pointer (some ⟨rb, 0, none⟩)), .val (.pointer (some ⟨rb, 0, none⟩)), .val (.slice so l.length sc), .val (.pointer (some ⟨rb, 0, none⟩)), .val (.pointer (some ⟨rb, 0, none⟩)), .val (.pointer (some ⟨rb, 1, none⟩)), .val (.int .i64 ((i : Nat) : Int)), .val (.tuple #[.int .u64 ((x : Nat) : Int), .int .i64 ((q : Nat) : Int), .int .i64 ((e : Nat) : Int)]), .val (.tuple #[.int .u64 ((x : Nat) : Int), .int .i64 ((q : Nat) : Int), .int .i64 ((e : Nat) : Int)]), .val (.int .u64 ((x : Nat) : Int)), .val (.int .i64 ((q : Nat) : Int)), .val (.int .i64 ((e : Nat) : Int)), .val (.int .u64 ((x : Nat) : Int)), .val (.int .i64 ((q : Nat) : Int))] follows (by kernel_rfl) rfl ?hAx3 (opsA_cons ?o0x3 (opsA_cons ?o1x3 (opsA_cons ?o2x3 (opsA_cons ?o3x3 (opsA_cons ?o4x3 (opsA_cons ?o5x3 (opsA_cons ?o6x3 (opsA_cons ?o7x3 (opsA_cons ?o8x3 (opsA_cons ?o9x3 (opsA_cons ?o10x3 (opsA_cons ?o11x3 (opsA_cons ?o12x3 (opsA_cons ?o13x3 (opsA_cons ?o14x3 opsA_nil))))))))))))))) ?restx3
  case hAx3 =>
    intro ptrs
    simp only [full, foldSlots, filledE, postE, List.foldl_cons, List.foldl_nil, List.getD_cons_zero, List.getD_cons_succ, fill_val, List.set_cons_zero, List.set_cons_succ]
    exact rfl
  case o0x3 => exact fun _ _ _ _ => opE_move (v := .pointer (some ⟨rb, 0, none⟩)) _ rfl rfl rfl
  case o1x3 => exact fun _ _ hw _ => opE_value (v := .pointer (some ⟨rb, 0, none⟩)) rfl (run_nc _ rfl _ rfl)
  case o2x3 => exact fun _ _ hw _ => opE_value (v := .pointer (some ⟨rb, 0, none⟩)) rfl (run_fld 72 _ 0 rfl _ _ rfl _)
  case o3x3 => exact fun _ _ hw _ => opE_value (v := .slice so l.length sc) rfl (run_ldc 32 _ rfl rb 0 rfl 72 _ (hw.has krb) (na32 _) _ rfl)
  case o4x3 => exact fun _ _ _ _ => opE_move (v := .pointer (some ⟨rb, 0, none⟩)) _ rfl rfl rfl
  case o5x3 => exact fun _ _ hw _ => opE_value (v := .pointer (some ⟨rb, 0, none⟩)) rfl (run_nc _ rfl _ rfl)
  case o6x3 => exact fun _ _ hw _ => opE_value (v := .pointer (some ⟨rb, 1, none⟩)) rfl (run_fld 72 _ 1 rfl _ _ rfl _)
  case o7x3 => exact fun _ _ hw _ => opE_value (v := .int .i64 ((i : Nat) : Int)) rfl (run_ldc 3 _ rfl rb 1 rfl 72 _ (hw.has krb) (na3 _) _ rfl)
  case o8x3 => exact fun _ _ hw _ => opE_call (.val (.tuple #[.int .u64 ((x : Nat) : Int), .int .i64 ((q : Nat) : Int), .int .i64 ((e : Nat) : Int)])) rfl _ 58 Try.call58 rfl rfl _ rfl [.slice so l.length sc, .int .i64 ((i : Nat) : Int)] rfl ((getNum_d so sc l _ (H.gro ((Gro.refl _).drew.trans hw)) i x q e HG hl).mono fun e w' ⟨he, hg⟩ => ⟨_, he, hg, rfl⟩)
  case o9x3 => exact fun _ _ _ _ => opE_move (v := .tuple #[.int .u64 ((x : Nat) : Int), .int .i64 ((q : Nat) : Int), .int .i64 ((e : Nat) : Int)]) _ rfl rfl rfl
  case o10x3 => exact fun _ _ hw _ => opE_value (v := .int .u64 ((x : Nat) : Int)) rfl (rfl)
  case o11x3 => exact fun _ _ hw _ => opE_value (v := .int .i64 ((q : Nat) : Int)) rfl (rfl)
  case o12x3 => exact fun _ _ hw _ => opE_value (v := .int .i64 ((e : Nat) : Int)) rfl (rfl)
  case o13x3 => exact fun _ _ _ _ => opE_assign (v := .int .u64 ((x : Nat) : Int)) _ rfl rfl rfl
  case o14x3 => exact fun _ _ _ _ => opE_assign (v := .int .i64 ((q : Nat) : Int)) _ rfl rfl rfl
  intro ptrs w1 GD hxE
  simp only [List.drop_succ_cons, List.drop_zero]
  replace krb := GD.has krb
  replace GG := GG.drew.tg GD
  clear GD
  refine mv 11 (.int .i64 ((e : Nat) : Int)) (wpList_nil (then_n (wp_seq (wp_seq (wp_region_lit (mv 30 (.int .i64 ((e : Nat) : Int)) (sv 31 (.bool false) (run_neq_k 38 .i64 _ _ _ rfl Try.underlying38 ((e : Nat) : Int) 0 rfl rfl false (by first | exact decide_eq_true (by omega) | exact decide_eq_false (by omega)) _) (wpList_nil (then_n (wp_cond_false rfl (wp_skip (then_n (wp_seq (wp_seq (wp_region_lit ?_)))))))))))))))
  refine mv 35 (.int .u64 ((x : Nat) : Int)) ?_
  refine nr ?_; intro U h; simp only [z0, z1] at h; subst h
  refine sv 36 (.int .u64 ((0 : Nat) : Int)) (run_shr64 62 56 _ _ rfl x 63 .u64 rfl rfl (by decide) 0 (by omega) _) (sv 37 (.bool false) (run_gtrU 62 62 _ _ rfl 0 0 rfl rfl false (by first | exact decide_eq_true (by omega) | exact decide_eq_false (by omega)) _) (wpList_nil (then_n (wp_cond_false rfl (wp_skip (then_n (wp_seq (wp_seq ?_))))))))
  refine wp_region_opq ?_
  intro OPS hY
  have y3 := hY 3 43 rfl
  clear hY
  refine mv 40 (.int .u64 ((x : Nat) : Int)) (mv 41 (.int .u64 ((lo : Nat) : Int)) (sv 42 (.bool true) (run_lssU 62 62 _ _ rfl x lo rfl rfl true (by first | exact decide_eq_true (by omega) | exact decide_eq_false (by omega)) _) ?_))
  refine nr ?_; intro U h; simp only [z0, z1] at h; subst h
  refine mv 43 (.bool true) (s_skipY 44 rfl rfl y3 rfl (s_skipY 45 rfl rfl y3 rfl (s_skipY 46 rfl rfl y3 rfl (mv 47 (.bool true) ?_))))
  refine nr ?_; intro U h; simp only [z0, z1] at h; subst h
  refine wpList_nil (then_n (wp_cond_true rfl (wp_seq (wp_region_lit (mv 48 (.pointer (some ⟨rb, 0, none⟩)) (mv 49 (.int .i64 ((er : Nat) : Int)) ?_))))))
  refine s_callx 50 rfl rfl _ 59 Try.call59 rfl rfl _ rfl [.pointer (some ⟨rb, 0, none⟩), .int .i64 ((er : Nat) : Int)] rfl (fail_0 rb so sc l _ ((i : Nat) : Int) ((er : Nat) : Int) krb) (fun _ _ ⟨he, _⟩ => ⟨_, he⟩) ?_
  rintro v w2 ⟨he, G, kn⟩
  cases he
  replace GG := GG.trans G
  clear krb G
  have krb := kn
  clear kn
  refine wpList_nil (then_n (wp_seq (wp_region_lit (mv 8 (.int .i64 0) (wpList_nil (then_n (wp_ret (then_r ?_))))))))
  refine bodyPost_ret (results_tmp Try.results31 _ _ _) rfl ?_
  exact ⟨rfl, GG, krb⟩
set_option maxRecDepth 100000 in
set_option maxHeartbeats 4000000 in
theorem num_high (rb : Nat) (so : Option Addr) (sc : Nat) (l : List Nat) (w : World) (i lo hi er : Nat) (krb : w.heap[rb]? = some (.cells (c72 ⟨so, l.length, sc⟩ ((i : Nat) : Int) 0) 72 (0, 0))) (H : NC w .u8 so sc l) (hl : l.length ≤ 140737488355000) (x q e : Nat) (HG : getE l (i : Int) = (x, q, e)) (he : e = 0) (hx : x < 9223372036854775808) (hx2 : ¬ x < lo) (hx3 : hi < x) : Calls Try.prog 31 #[.pointer (some ⟨rb, 0, none⟩), .int .u64 ((lo : Nat) : Int), .int .u64 ((hi : Nat) : Int), .int .i64 ((er : Nat) : Int)] w fun en w' => en = .returned (.int .i64 0) ∧ GroS [rb] w w' ∧ w'.heap[rb]? = some (.cells (c72 ⟨so, l.length, sc⟩ ((i : Nat) : Int) ((er : Nat) : Int)) 72 (0, 0)) := by
  refine s_enterR Try.func31 rfl Try.ntmps31 [.pointer (some ⟨rb, 0, none⟩), .int .u64 ((lo : Nat) : Int), .int .u64 ((hi : Nat) : Int), .int .i64 ((er : Nat) : Int)] ?_
  intro U h; simp only [List.length_cons, List.length_nil, List.cons_append, List.nil_append, Nat.reduceAdd, Nat.reduceSub, List.reduceReplicate] at h; subst h
  have GG := GroS.refl [rb] w
  have hrb := lt_of_heap krb
  refine wp_seq (wp_region_lit (mv 8 (.int .i64 0) (wpList_nil (then_n (wp_seq (wp_seq (wp_region_lit (mv 12 (.pointer (some ⟨rb, 0, none⟩)) (sv 13 (.pointer (some ⟨rb, 0, none⟩)) (run_nc _ rfl _ rfl) (sv 14 (.pointer (some ⟨rb, 2, none⟩)) (run_fld 72 _ 2 rfl _ _ rfl _) (sv 15 (.int .i64 0) (run_ldc 38 _ rfl rb 2 rfl 72 _ krb (na38 _) _ rfl) ?_)))))))))))
  refine nr ?_; intro U h; simp only [z0, z1] at h; subst h
  refine sv 16 (.bool false) (run_neq_k 38 .i64 _ _ _ rfl Try.underlying38 0 0 rfl rfl false (rfl) _) (wpList_nil (then_n (wp_cond_false rfl (wp_skip (then_n (wp_seq ?_))))))
  refine wp_region_exA (A := ?Ax4) 15 [(0, 18), (1, 19), (2, 20), (3, 21), (4, 22), (5, 23), (6, 24), (7, 25), (8, 26), (9, 17), (10, 27), (11, 28), (12, 29), (13, 9), (14, 10)] [.val (.pointer (some ⟨rb, 0, none⟩)), .val (.pointer (some ⟨rb, 0, none⟩)), .val (.pointer (some ⟨rb, 0, none⟩)), .val (.slice so l.length sc), .val (.pointer (some ⟨rb, 0, none⟩)), .val (.pointer (some ⟨rb, 0, none⟩)), .val (.pointer (some ⟨rb, 1, none⟩)), .val (.int .i64 ((i : Nat) : Int)), .val (.tuple #[.int .u64 ((x : Nat) : Int), .int .i64 ((q : Nat) : Int), .int .i64 ((e : Nat) : Int)]), .val (.tuple #[.int .u64 ((x : Nat) : Int), .int .i64 ((q : Nat) : Int), .int .i64 ((e : Nat) : Int)]), .val (.int .u64 ((x : Nat) : Int)), .val (.int .i64 ((q : Nat) : Int)), .val (.int .i64 ((e : Nat) : Int)), .val (.int .u64 ((x : Nat) : Int)), .val (.int .i64 ((q : Nat) : Int))] follows (by kernel_rfl) rfl ?hAx4 (opsA_cons ?o0x4 (opsA_cons ?o1x4 (opsA_cons ?o2x4 (opsA_cons ?o3x4 (opsA_cons ?o4x4 (opsA_cons ?o5x4 (opsA_cons ?o6x4 (opsA_cons ?o7x4 (opsA_cons ?o8x4 (opsA_cons ?o9x4 (opsA_cons ?o10x4 (opsA_cons ?o11x4 (opsA_cons ?o12x4 (opsA_cons ?o13x4 (opsA_cons ?o14x4 opsA_nil))))))))))))))) ?restx4
  case hAx4 =>
    intro ptrs
    simp only [full, foldSlots, filledE, postE, List.foldl_cons, List.foldl_nil, List.getD_cons_zero, List.getD_cons_succ, fill_val, List.set_cons_zero, List.set_cons_succ]
    exact rfl
  case o0x4 => exact fun _ _ _ _ => opE_move (v := .pointer (some ⟨rb, 0, none⟩)) _ rfl rfl rfl
  case o1x4 => exact fun _ _ hw _ => opE_value (v := .pointer (some ⟨rb, 0, none⟩)) rfl (run_nc _ rfl _ rfl)
  case o2x4 => exact fun _ _ hw _ => opE_value (v := .pointer (some ⟨rb, 0, none⟩)) rfl (run_fld 72 _ 0 rfl _ _ rfl _)
  case o3x4 => exact fun _ _ hw _ => opE_value (v := .slice so l.length sc) rfl (run_ldc 32 _ rfl rb 0 rfl 72 _ (hw.has krb) (na32 _) _ rfl)
  case o4x4 => exact fun _ _ _ _ => opE_move (v := .pointer (some ⟨rb, 0, none⟩)) _ rfl rfl rfl
  case o5x4 => exact fun _ _ hw _ => opE_value (v := .pointer (some ⟨rb, 0, none⟩)) rfl (run_nc _ rfl _ rfl)
  case o6x4 => exact fun _ _ hw _ => opE_value (v := .pointer (some ⟨rb, 1, none⟩)) rfl (run_fld 72 _ 1 rfl _ _ rfl _)
  case o7x4 => exact fun _ _ hw _ => opE_value (v := .int .i64 ((i : Nat) : Int)) rfl (run_ldc 3 _ rfl rb 1 rfl 72 _ (hw.has krb) (na3 _) _ rfl)
  case o8x4 => exact fun _ _ hw _ => opE_call (.val (.tuple #[.int .u64 ((x : Nat) : Int), .int .i64 ((q : Nat) : Int), .int .i64 ((e : Nat) : Int)])) rfl _ 58 Try.call58 rfl rfl _ rfl [.slice so l.length sc, .int .i64 ((i : Nat) : Int)] rfl ((getNum_d so sc l _ (H.gro ((Gro.refl _).drew.trans hw)) i x q e HG hl).mono fun e w' ⟨he, hg⟩ => ⟨_, he, hg, rfl⟩)
  case o9x4 => exact fun _ _ _ _ => opE_move (v := .tuple #[.int .u64 ((x : Nat) : Int), .int .i64 ((q : Nat) : Int), .int .i64 ((e : Nat) : Int)]) _ rfl rfl rfl
  case o10x4 => exact fun _ _ hw _ => opE_value (v := .int .u64 ((x : Nat) : Int)) rfl (rfl)
  case o11x4 => exact fun _ _ hw _ => opE_value (v := .int .i64 ((q : Nat) : Int)) rfl (rfl)
  case o12x4 => exact fun _ _ hw _ => opE_value (v := .int .i64 ((e : Nat) : Int)) rfl (rfl)
  case o13x4 => exact fun _ _ _ _ => opE_assign (v := .int .u64 ((x : Nat) : Int)) _ rfl rfl rfl
  case o14x4 => exact fun _ _ _ _ => opE_assign (v := .int .i64 ((q : Nat) : Int)) _ rfl rfl rfl
  intro ptrs w1 GD hxE
  simp only [List.drop_succ_cons, List.drop_zero]
  replace krb := GD.has krb
  replace GG := GG.drew.tg GD
  clear GD
  refine mv 11 (.int .i64 ((e : Nat) : Int)) (wpList_nil (then_n (wp_seq (wp_seq (wp_region_lit (mv 30 (.int .i64 ((e : Nat) : Int)) (sv 31 (.bool false) (run_neq_k 38 .i64 _ _ _ rfl Try.underlying38 ((e : Nat) : Int) 0 rfl rfl false (by first | exact decide_eq_true (by omega) | exact decide_eq_false (by omega)) _) (wpList_nil (then_n (wp_cond_false rfl (wp_skip (then_n (wp_seq (wp_seq (wp_region_lit ?_)))))))))))))))
  refine mv 35 (.int .u64 ((x : Nat) : Int)) ?_
  refine nr ?_; intro U h; simp only [z0, z1] at h; subst h
  refine sv 36 (.int .u64 ((0 : Nat) : Int)) (run_shr64 62 56 _ _ rfl x 63 .u64 rfl rfl (by decide) 0 (by omega) _) (sv 37 (.bool false) (run_gtrU 62 62 _ _ rfl 0 0 rfl rfl false (by first | exact decide_eq_true (by omega) | exact decide_eq_false (by omega)) _) (wpList_nil (then_n (wp_cond_false rfl (wp_skip (then_n (wp_seq (wp_seq ?_))))))))
  refine wp_region_opq ?_
  intro OPS hY
  have y3 := hY 3 43 rfl
  clear hY
  refine mv 40 (.int .u64 ((x : Nat) : Int)) (mv 41 (.int .u64 ((lo : Nat) : Int)) (sv 42 (.bool false) (run_lssU 62 62 _ _ rfl x lo rfl rfl false (by first | exact decide_eq_true (by omega) | exact decide_eq_false (by omega)) _) ?_))
  refine nr ?_; intro U h; simp only [z0, z1] at h; subst h
  refine mv 43 (.bool false) (s_gvalY 44 rfl rfl y3 rfl (.int .u64 ((x : Nat) : Int)) (rfl) (s_gvalY 45 rfl rfl y3 rfl (.int .u64 ((hi : Nat) : Int)) (rfl) (s_gvalY 46 rfl rfl y3 rfl (.bool true) (run_gtrU 62 62 _ _ rfl x hi rfl rfl true (by first | exact decide_eq_true (by omega) | exact decide_eq_false (by omega)) _) (mv 47 (.bool true) ?_))))
  refine nr ?_; intro U h; simp only [z0, z1] at h; subst h
  refine wpList_nil (then_n (wp_cond_true rfl (wp_seq (wp_region_lit (mv 48 (.pointer (some ⟨rb, 0, none⟩)) (mv 49 (.int .i64 ((er : Nat) : Int)) ?_))))))
  refine s_callx 50 rfl rfl _ 59 Try.call59 rfl rfl _ rfl [.pointer (some ⟨rb, 0, none⟩), .int .i64 ((er : Nat) : Int)] rfl (fail_0 rb so sc l _ ((i : Nat) : Int) ((er : Nat) : Int) krb) (fun _ _ ⟨he, _⟩ => ⟨_, he⟩) ?_
  rintro v w2 ⟨he, G, kn⟩
  cases he
  replace GG := GG.trans G
  clear krb G
  have krb := kn
  clear kn
  refine wpList_nil (then_n (wp_seq (wp_region_lit (mv 8 (.int .i64 0) (wpList_nil (then_n (wp_ret (then_r ?_))))))))
  refine bodyPost_ret (results_tmp Try.results31 _ _ _) rfl ?_
  exact ⟨rfl, GG, krb⟩
set_option maxRecDepth 100000 in
set_option maxHeartbeats 4000000 in
theorem num_fine (rb : Nat) (so : Option Addr) (sc : Nat) (l : List Nat) (w : World) (i lo hi er : Nat) (krb : w.heap[rb]? = some (.cells (c72 ⟨so, l.length, sc⟩ ((i : Nat) : Int) 0) 72 (0, 0))) (H : NC w .u8 so sc l) (hl : l.length ≤ 140737488355000) (x q e : Nat) (HG : getE l (i : Int) = (x, q, e)) (he : e = 0) (hx : x < 9223372036854775808) (hx2 : ¬ x < lo) (hx3 : ¬ hi < x) : Calls Try.prog 31 #[.pointer (some ⟨rb, 0, none⟩), .int .u64 ((lo : Nat) : Int), .int .u64 ((hi : Nat) : Int), .int .i64 ((er : Nat) : Int)] w fun en w' => en = .returned (.int .i64 ((x : Nat) : Int)) ∧ GroS [rb] w w' ∧ w'.heap[rb]? = some (.cells (c72 ⟨so, l.length, sc⟩ ((q : Nat) : Int) 0) 72 (0, 0)) := by
  refine s_enterR Try.func31 rfl Try.ntmps31 [.pointer (some ⟨rb, 0, none⟩), .int .u64 ((lo : Nat) : Int), .int .u64 ((hi : Nat) : Int), .int .i64 ((er : Nat) : Int)] ?_
  intro U h; simp only [List.length_cons, List.length_nil, List.cons_append, List.nil_append, Nat.reduceAdd, Nat.reduceSub, List.reduceReplicate] at h; subst h
  have GG := GroS.refl [rb] w
  have hrb := lt_of_heap krb
  refine wp_seq (wp_region_lit (mv 8 (.int .i64 0) (wpList_nil (then_n (wp_seq (wp_seq (wp_region_lit (mv 12 (.pointer (some ⟨rb, 0, none⟩)) (sv 13 (.pointer (some ⟨rb, 0, none⟩)) (run_nc _ rfl _ rfl) (sv 14 (.pointer (some ⟨rb, 2, none⟩)) (run_fld 72 _ 2 rfl _ _ rfl _) (sv 15 (.int .i64 0) (run_ldc 38 _ rfl rb 2 rfl 72 _ krb (na38 _) _ rfl) ?_)))))))))))
  refine nr ?_; intro U h; simp only [z0, z1] at h; subst h
  refine sv 16 (.bool false) (run_neq_k 38 .i64 _ _ _ rfl Try.underlying38 0 0 rfl rfl false (rfl) _) (wpList_nil (then_n (wp_cond_false rfl (wp_skip (then_n (wp_seq ?_))))))
  refine wp_region_exA (A := ?Ax5) 15 [(0, 18), (1, 19), (2, 20), (3, 21), (4, 22), (5, 23), (6, 24), (7, 25), (8, 26), (9, 17), (10, 27), (11, 28), (12, 29), (13, 9), (14, 10)] [.val (.pointer (some ⟨rb, 0, none⟩)), .val (.pointer (some ⟨rb, 0, none⟩)), .val (.pointer (some ⟨rb, 0, none⟩)), .val (.slice so l.length sc), .val (.pointer (some ⟨rb, 0, none⟩)), .val (.pointer (some ⟨rb, 0, none⟩)), .val (.pointer (some ⟨rb, 1, none⟩)), .val (.int .i64 ((i : Nat) : Int)), .val (.tuple #[.int .u64 ((x : Nat) : Int), .int .i64 ((q : Nat) : Int), .int .i64 ((e : Nat) : Int)]), .val (.tuple #[.int .u64 ((x : Nat) : Int), .int .i64 ((q : Nat) : Int), .int .i64 ((e : Nat) : Int)]), .val (.int .u64 ((x : Nat) : Int)), .val (.int .i64 ((q : Nat) : Int)), .val (.int .i64 ((e : Nat) : Int)), .val (.int .u64 ((x : Nat) : Int)), .val (.int .i64 ((q : Nat) : Int))] follows (by kernel_rfl) rfl ?hAx5 (opsA_cons ?o0x5 (opsA_cons ?o1x5 (opsA_cons ?o2x5 (opsA_cons ?o3x5 (opsA_cons ?o4x5 (opsA_cons ?o5x5 (opsA_cons ?o6x5 (opsA_cons ?o7x5 (opsA_cons ?o8x5 (opsA_cons ?o9x5 (opsA_cons ?o10x5 (opsA_cons ?o11x5 (opsA_cons ?o12x5 (opsA_cons ?o13x5 (opsA_cons ?o14x5 opsA_nil))))))))))))))) ?restx5
  case hAx5 =>
    intro ptrs
    simp only [full, foldSlots, filledE, postE, List.foldl_cons, List.foldl_nil, List.getD_cons_zero, List.getD_cons_succ, fill_val, List.set_cons_zero, List.set_cons_succ]
    exact rfl
  case o0x5 => exact fun _ _ _ _ => opE_move (v := .pointer (some ⟨rb, 0, none⟩)) _ rfl rfl rfl
  case o1x5 => exact fun _ _ hw _ => opE_value (v := .pointer (some ⟨rb, 0, none⟩)) rfl (run_nc _ rfl _ rfl)
  case o2x5 => exact fun _ _ hw _ => opE_value (v := .pointer (some ⟨rb, 0, none⟩)) rfl (run_fld 72 _ 0 rfl _ _ rfl _)
  case o3x5 => exact fun _ _ hw _ => opE_value (v := .slice so l.length sc) rfl (run_ldc 32 _ rfl rb 0 rfl 72 _ (hw.has krb) (na32 _) _ rfl)
  case o4x5 => exact fun _ _ _ _ => opE_move (v := .pointer (some ⟨rb, 0, none⟩)) _ rfl rfl rfl
  case o5x5 => exact fun _ _ hw _ => opE_value (v := .pointer (some ⟨rb, 0, none⟩)) rfl (run_nc _ rfl _ rfl)
  case o6x5 => exact fun _ _ hw _ => opE_value (v := .pointer (some ⟨rb, 1, none⟩)) rfl (run_fld 72 _ 1 rfl _ _ rfl _)
  case o7x5 => exact fun _ _ hw _ => opE_value (v := .int .i64 ((i : Nat) : Int)) rfl (run_ldc 3 _ rfl rb 1 rfl 72 _ (hw.has krb) (na3 _) _ rfl)
  case o8x5 => exact fun _ _ hw _ => opE_call (.val (.tuple #[.int .u64 ((x : Nat) : Int), .int .i64 ((q : Nat) : Int), .int .i64 ((e : Nat) : Int)])) rfl _ 58 Try.call58 rfl rfl _ rfl [.slice so l.length sc, .int .i64 ((i : Nat) : Int)] rfl ((getNum_d so sc l _ (H.gro ((Gro.refl _).drew.trans hw)) i x q e HG hl).mono fun e w' ⟨he, hg⟩ => ⟨_, he, hg, rfl⟩)
  case o9x5 => exact fun _ _ _ _ => opE_move (v := .tuple #[.int .u64 ((x : Nat) : Int), .int .i64 ((q : Nat) : Int), .int .i64 ((e : Nat) : Int)]) _ rfl rfl rfl
  case o10x5 => exact fun _ _ hw _ => opE_value (v := .int .u64 ((x : Nat) : Int)) rfl (rfl)
  case o11x5 => exact fun _ _ hw _ => opE_value (v := .int .i64 ((q : Nat) : Int)) rfl (rfl)
  case o12x5 => exact fun _ _ hw _ => opE_value (v := .int .i64 ((e : Nat) : Int)) rfl (rfl)
  case o13x5 => exact fun _ _ _ _ => opE_assign (v := .int .u64 ((x : Nat) : Int)) _ rfl rfl rfl
  case o14x5 => exact fun _ _ _ _ => opE_assign (v := .int .i64 ((q : Nat) : Int)) _ rfl rfl rfl
  intro ptrs w1 GD hxE
  simp only [List.drop_succ_cons, List.drop_zero]
  replace krb := GD.has krb
  replace GG := GG.drew.tg GD
  clear GD
  refine mv 11 (.int .i64 ((e : Nat) : Int)) (wpList_nil (then_n (wp_seq (wp_seq (wp_region_lit (mv 30 (.int .i64 ((e : Nat) : Int)) (sv 31 (.bool false) (run_neq_k 38 .i64 _ _ _ rfl Try.underlying38 ((e : Nat) : Int) 0 rfl rfl false (by first | exact decide_eq_true (by omega) | exact decide_eq_false (by omega)) _) (wpList_nil (then_n (wp_cond_false rfl (wp_skip (then_n (wp_seq (wp_seq (wp_region_lit ?_)))))))))))))))
  refine mv 35 (.int .u64 ((x : Nat) : Int)) ?_
  refine nr ?_; intro U h; simp only [z0, z1] at h; subst h
  refine sv 36 (.int .u64 ((0 : Nat) : Int)) (run_shr64 62 56 _ _ rfl x 63 .u64 rfl rfl (by decide) 0 (by omega) _) (sv 37 (.bool false) (run_gtrU 62 62 _ _ rfl 0 0 rfl rfl false (by first | exact decide_eq_true (by omega) | exact decide_eq_false (by omega)) _) (wpList_nil (then_n (wp_cond_false rfl (wp_skip (then_n (wp_seq (wp_seq ?_))))))))
  refine wp_region_opq ?_
  intro OPS hY
  have y3 := hY 3 43 rfl
  clear hY
  refine mv 40 (.int .u64 ((x : Nat) : Int)) (mv 41 (.int .u64 ((lo : Nat) : Int)) (sv 42 (.bool false) (run_lssU 62 62 _ _ rfl x lo rfl rfl false (by first | exact decide_eq_true (by omega) | exact decide_eq_false (by omega)) _) ?_))
  refine nr ?_; intro U h; simp only [z0, z1] at h; subst h
  refine mv 43 (.bool false) (s_gvalY 44 rfl rfl y3 rfl (.int .u64 ((x : Nat) : Int)) (rfl) (s_gvalY 45 rfl rfl y3 rfl (.int .u64 ((hi : Nat) : Int)) (rfl) (s_gvalY 46 rfl rfl y3 rfl (.bool false) (run_gtrU 62 62 _ _ rfl x hi rfl rfl false (by first | exact decide_eq_true (by omega) | exact decide_eq_false (by omega)) _) (mv 47 (.bool false) ?_))))
  refine nr ?_; intro U h; simp only [z0, z1] at h; subst h
  refine wpList_nil (then_n (wp_cond_false rfl (wp_skip (then_n (wp_seq (wp_region_lit (mv 51 (.pointer (some ⟨rb, 0, none⟩)) (mv 52 (.int .i64 ((q : Nat) : Int)) (sv 53 (.pointer (some ⟨rb, 0, none⟩)) (run_nc _ rfl _ rfl) (sv 54 (.pointer (some ⟨rb, 1, none⟩)) (run_fld 72 _ 1 rfl _ _ rfl _) ?_))))))))))
  refine s_store rfl rfl 3 _ _ rfl rb 1 rfl (.int .i64 ((q : Nat) : Int)) rfl 72 _ krb #[.int .i64 ((q : Nat) : Int)] rfl (by kernel_rfl) (Nat.le_of_ble_eq_true rfl) (by kernel_rfl) (c72 ⟨so, l.length, sc⟩ ((q : Nat) : Int) 0) (by kernel_rfl) ?_
  intro w3 St
  replace GG := GG.st St (.inr (by simp))
  replace krb := St.new
  clear St
  refine wpList_nil (then_n (wp_seq (wp_region_lit (mv 55 (.int .u64 ((x : Nat) : Int)) ?_))))
  refine nr ?_; intro U h; simp only [z0, z1] at h; subst h
  refine sv 56 (.int .i64 ((x : Nat) : Int)) (conv622 _ rfl x hx rfl _) (mv 8 (.int .i64 ((x : Nat) : Int)) (wpList_nil (then_n (wp_ret ?_))))
  refine bodyPost_ret (results_tmp Try.results31 _ _ _) rfl ?_
  exact ⟨rfl, GG, krb⟩
theorem getE_lim (l : List Nat) (hb : ∀ x ∈ l, x < 256) (i : Int) : (getE l i).1 < 18446744073709551616 := by
  obtain ⟨⟨x, q, e⟩, h⟩ : ∃ r, getE l i = r := ⟨_, rfl⟩
  have h2 := getE_back l hb i x q e h
  rw [h]
  by_cases he : e = 0
  · exact (h2.1 he).1
  · rw [(h2.2.1 he).1]; show (0 : Nat) < _; decide
theorem dnum (rb : Nat) (so : Option Addr) (sc : Nat) (l : List Nat) (w : World) (a e lo hi er v a1 e1 : Nat) (krb : w.heap[rb]? = some (.cells (c72 ⟨so, l.length, sc⟩ (a : Int) (e : Int)) 72 (0, 0))) (H : NC w .u8 so sc l) (hl : l.length ≤ 140737488355000) (h : dR (rdX lo hi er l) 0 a e = (v, a1, e1)) :
    Calls Try.prog 31 #[.pointer (some ⟨rb, 0, none⟩), .int .u64 (lo : Int), .int .u64 (hi : Int), .int .i64 (er : Int)] w fun en w' => en = .returned (.int .i64 (v : Int)) ∧ GroS [rb] w w' ∧ w'.heap[rb]? = some (.cells (c72 ⟨so, l.length, sc⟩ (a1 : Int) (e1 : Int)) 72 (0, 0)) := by
  by_cases he : e = 0
  · subst he
    obtain ⟨⟨x, q, e2⟩, HG⟩ : ∃ r, getE l (a : Int) = r := ⟨_, rfl⟩
    have hlim : x < 18446744073709551616 := by have := getE_lim l H.lt256 (a : Int); rw [HG] at this; exact this
    cases e2 with
    | succ n =>
      have hr : rdX lo hi er l a = .error (n + 1) := by simp [rdX, rdN, HG, thenR]
      rw [dR_err hr] at h
      cases h
      exact num_e rb so sc l w a lo hi er krb H hl x q (n + 1) HG (by omega)
    | zero =>
      by_cases hx : 9223372036854775808 ≤ x
      · have hr : rdX lo hi er l a = .error 2 := by simp [rdX, rdN, HG, thenR, hx]
        rw [dR_err hr] at h
        cases h
        exact num_huge rb so sc l w a lo hi er krb H hl x q 0 HG rfl hx hlim
      · have hN : rdN l a = .ok (x, q) := by simp [rdN, HG]; omega
        by_cases h2 : x < lo
        · have hr : rdX lo hi er l a = .error er := by simp [rdX, hN, thenR, h2]
          rw [dR_err hr] at h
          cases h
          exact num_low rb so sc l w a lo hi er krb H hl x q 0 HG rfl (by omega) h2
        · by_cases h3 : hi < x
          · have hr : rdX lo hi er l a = .error er := by simp [rdX, hN, thenR, h3]
            rw [dR_err hr] at h
            cases h
            exact num_high rb so sc l w a lo hi er krb H hl x q 0 HG rfl (by omega) h2 h3
          · have hr : rdX lo hi er l a = .ok (x, q) := by simp [rdX, hN, thenR, h2, h3]
            rw [dR_ok hr] at h
            cases h
            exact num_fine rb so sc l w a lo hi er krb H hl _ _ 0 HG rfl (by omega) h2 h3
  · rw [dR_skip he] at h
    cases h
    exact num_skip rb so sc l w a e (by omega) lo hi er krb
end Go.Proofs.Ythmcnlmphikicaa
