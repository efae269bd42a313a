/- The document's reader: identities, texts. -/
import Derived.Test.YthmcnlmphikicaaGM1
import Derived.Test.YthmcnlmphikicaaGR2
import Derived.Test.YthmcnlmphikicaaGR3
namespace Go.Proofs.Ythmcnlmphikicaa
open Go.RowKit
theorem rdX_any (l : List Nat) : rdX 0 9223372036854775807 2 l = rdN l := by
  funext i
  unfold rdX thenR rdN
  obtain ⟨⟨x, q, e⟩, hg⟩ : ∃ r, getE l (i : Int) = r := ⟨_, rfl⟩
  rw [hg]
  cases e with
  | succ n => rfl
  | zero =>
    by_cases h : 9223372036854775808 ≤ x
    · simp only [if_pos h]
    · have h2 : ¬ (x < 0 ∨ 9223372036854775807 < x) := by omega
      simp only [if_neg h, if_neg h2]
theorem dany (rb : Nat) (so : Option Addr) (sc : Nat) (l : List Nat) (w : World) (a e v a1 e1 : Nat) (krb : w.heap[rb]? = some (.cells (c72 ⟨so, l.length, sc⟩ (a : Int) (e : Int)) 72 (0, 0))) (H : NC w .u8 so sc l) (hl : l.length ≤ 140737488355000) (h : dR (rdN l) 0 a e = (v, a1, e1)) :
    Calls Try.prog 32 #[.pointer (some ⟨rb, 0, none⟩)] w fun en w' => en = .returned (.int .i64 (v : Int)) ∧ GroS [rb] w w' ∧ w'.heap[rb]? = some (.cells (c72 ⟨so, l.length, sc⟩ (a1 : Int) (e1 : Int)) 72 (0, 0)) := by
  rw [← rdX_any] at h
  refine s_enter Try.func32 rfl Try.ntmps32 [.pointer (some ⟨rb, 0, none⟩)] [.pointer (some ⟨rb, 0, none⟩), undef, undef, undef, undef] rfl ?_
  have GG := GroS.refl [rb] w
  have hrb := lt_of_heap krb
  refine wp_seq (wp_region_lit (mv 2 (.int .i64 0) (wpList_nil (then_n (wp_seq (wp_region_lit (mv 3 (.pointer (some ⟨rb, 0, none⟩)) ?_)))))))
  refine s_callx 4 rfl rfl _ 31 Try.call31 rfl rfl _ rfl [.pointer (some ⟨rb, 0, none⟩), .int .u64 0, .int .u64 9223372036854775807, .int .i64 2] rfl (dnum rb so sc l _ a e 0 9223372036854775807 2 v a1 e1 krb H hl h) (fun _ _ ⟨he, _⟩ => ⟨_, he⟩) ?_
  rintro v w1 ⟨he, G, kn⟩
  cases he
  replace GG := GG.trans G
  clear krb G
  have krb := kn
  clear kn
  refine mv 2 (.int .i64 ((v : Nat) : Int)) (wpList_nil (then_n (wp_ret ?_)))
  refine bodyPost_ret (results_tmp Try.results32 _ _ _) rfl ?_
  exact ⟨rfl, GG, krb⟩
set_option maxRecDepth 100000 in
set_option maxHeartbeats 4000000 in
theorem id_skip (rb : Nat) (so : Option Addr) (sc : Nat) (l : List Nat) (w : World) (a e : Int) (he : e ≠ 0) (krb : w.heap[rb]? = some (.cells (c72 ⟨so, l.length, sc⟩ a e) 72 (0, 0))) : Calls Try.prog 33 #[.pointer (some ⟨rb, 0, none⟩)] w fun en w' => en = .returned (.agg (c23 zF)) ∧ GroS [rb] w w' ∧ w'.heap[rb]? = some (.cells (c72 ⟨so, l.length, sc⟩ a e) 72 (0, 0)) := by
  refine s_enterR Try.func33 rfl Try.ntmps33 [.pointer (some ⟨rb, 0, none⟩)] ?_
  intro U h; simp only [List.length_cons, List.length_nil, List.cons_append, List.nil_append, Nat.reduceAdd, Nat.reduceSub, List.reduceReplicate] at h; subst h
  have GG := GroS.refl [rb] w
  have hrb := lt_of_heap krb
  refine wp_seq (wp_region_lit ?_)
  refine s_alloc 2 rfl rfl 23 rfl _ zv23 _ rfl ?_
  intro w1 g1 G eg1 kg1
  have G1 := G
  have bg1 := size_basS GG eg1
  have drbg1 := lt_new krb eg1
  replace krb := G.has krb
  replace GG := GG.tg G
  clear G eg1
  refine wpList_nil (then_n (wp_seq (wp_seq (wp_region_lit (mv 6 (.pointer (some ⟨rb, 0, none⟩)) (sv 7 (.pointer (some ⟨rb, 0, none⟩)) (run_nc _ rfl _ rfl) (sv 8 (.pointer (some ⟨rb, 2, none⟩)) (run_fld 72 _ 2 rfl _ _ rfl _) (sv 9 (.int .i64 e) (run_ldc 38 _ rfl rb 2 rfl 72 _ krb (na38 _) _ rfl) ?_))))))))
  refine nr ?_; intro U h; simp only [z0, z1] at h; subst h
  refine sv 10 (.bool true) (run_neq_k 38 .i64 _ _ _ rfl Try.underlying38 e 0 rfl rfl true (decide_eq_false he) _) (wpList_nil (then_n (wp_cond_true rfl (wp_seq (wp_region_lit (sv 11 (.agg (c23 zF)) (run_bd 23 _ rfl [] rfl _ (by kernel_rfl)) ?_))))))
  refine s_store rfl rfl 23 _ _ rfl g1 0 rfl (.agg (c23 zF)) rfl 23 _ kg1 (c23 zF) rfl (by kernel_rfl) (Nat.le_of_ble_eq_true rfl) (by kernel_rfl) (c23 zF) (by kernel_rfl) ?_
  intro w3 St
  replace krb := St.has (by omega) krb
  replace GG := GG.st St (.inl bg1)
  replace kg1 := St.new
  clear St
  refine wpList_nil (then_n (wp_ret (then_r ?_)))
  refine bodyPost_ret (results_cell_row Try.results33 _ _ g1 23 _ (0, 0) _ rfl kg1 Try.underlying23 rfl (by kernel_rfl)) rfl ?_
  exact ⟨rfl, GG, krb⟩
set_option maxRecDepth 100000 in
set_option maxHeartbeats 4000000 in
theorem id_e (rb : Nat) (so : Option Addr) (sc : Nat) (l : List Nat) (w : World) (i : Nat) (krb : w.heap[rb]? = some (.cells (c72 ⟨so, l.length, sc⟩ ((i : Nat) : Int) 0) 72 (0, 0))) (H : NC w .u8 so sc l) (hl : l.length ≤ 140737488355000) (x : List Nat) (q e : Nat) (HG : getI l (i : Int) = (x, q, e)) (he : e ≠ 0) : Calls Try.prog 33 #[.pointer (some ⟨rb, 0, none⟩)] w fun en w' => en = .returned (.agg (c23 zF)) ∧ GroS [rb] w w' ∧ w'.heap[rb]? = some (.cells (c72 ⟨so, l.length, sc⟩ ((i : Nat) : Int) ((e : Nat) : Int)) 72 (0, 0)) := by
  refine s_enterR Try.func33 rfl Try.ntmps33 [.pointer (some ⟨rb, 0, none⟩)] ?_
  intro U h; simp only [List.length_cons, List.length_nil, List.cons_append, List.nil_append, Nat.reduceAdd, Nat.reduceSub, List.reduceReplicate] at h; subst h
  have GG := GroS.refl [rb] w
  have hrb := lt_of_heap krb
  refine wp_seq (wp_region_lit ?_)
  refine s_alloc 2 rfl rfl 23 rfl _ zv23 _ rfl ?_
  intro w1 g1 G eg1 kg1
  have G1 := G
  have bg1 := size_basS GG eg1
  have drbg1 := lt_new krb eg1
  replace krb := G.has krb
  replace GG := GG.tg G
  clear G eg1
  refine wpList_nil (then_n (wp_seq (wp_seq (wp_region_lit (mv 6 (.pointer (some ⟨rb, 0, none⟩)) (sv 7 (.pointer (some ⟨rb, 0, none⟩)) (run_nc _ rfl _ rfl) (sv 8 (.pointer (some ⟨rb, 2, none⟩)) (run_fld 72 _ 2 rfl _ _ rfl _) (sv 9 (.int .i64 0) (run_ldc 38 _ rfl rb 2 rfl 72 _ krb (na38 _) _ rfl) ?_))))))))
  refine nr ?_; intro U h; simp only [z0, z1] at h; subst h
  refine sv 10 (.bool false) (run_neq_k 38 .i64 _ _ _ rfl Try.underlying38 0 0 rfl rfl false (rfl) _) (wpList_nil (then_n (wp_cond_false rfl (wp_skip (then_n (wp_seq ?_))))))
  refine wp_region_grow2B (A := ?A) 16 [(0, 13), (1, 14), (2, 15), (3, 16), (4, 17), (5, 18), (6, 19), (7, 20), (8, 21), (9, 12), (10, 22), (11, 23), (12, 24), (13, 3), (15, 4)] [.val (.pointer (some ⟨rb, 0, none⟩)), .val (.pointer (some ⟨rb, 0, none⟩)), .val (.pointer (some ⟨rb, 0, none⟩)), .val (.slice so l.length sc), .val (.pointer (some ⟨rb, 0, none⟩)), .val (.pointer (some ⟨rb, 0, none⟩)), .val (.pointer (some ⟨rb, 1, none⟩)), .val (.int .i64 ((i : Nat) : Int)), .val (.tuple #[.agg (c23 (idF x)), .int .i64 ((q : Nat) : Int), .int .i64 ((e : Nat) : Int)]), .val (.tuple #[.agg (c23 (idF x)), .int .i64 ((q : Nat) : Int), .int .i64 ((e : Nat) : Int)]), .val (.agg (c23 (idF x))), .val (.int .i64 ((q : Nat) : Int)), .val (.int .i64 ((e : Nat) : Int)), .new 23 (c23 zF) (c23 (idF x)) 14, .put 13, .val (.int .i64 ((q : Nat) : Int))] follows (by kernel_rfl) (by kernel_rfl) rfl ?hA (opsB_cons ?o0 (opsB_cons ?o1 (opsB_cons ?o2 (opsB_cons ?o3 (opsB_cons ?o4 (opsB_cons ?o5 (opsB_cons ?o6 (opsB_cons ?o7 (opsB_cons ?o8 (opsB_cons ?o9 (opsB_cons ?o10 (opsB_cons ?o11 (opsB_cons ?o12 (opsB_cons ?o13 (opsB_cons ?o14 (opsB_cons ?o15 (opsB_nil))))))))))))))))) ?rest
  case hA =>
    intro ptrs
    simp only [full, foldSlots, filled2, postAt2, List.foldl_cons, List.foldl_nil, List.getD_cons_zero, List.getD_cons_succ, fillS_val, fillS_new, List.set_cons_zero, List.set_cons_succ]
    exact rfl
  case o0 => exact fun _ _ _ hw _ _ => OpOK2.of_val (ok_value rfl (rfl))
  case o1 => exact fun _ _ _ hw _ _ => OpOK2.of_val (ok_value rfl (run_nc _ rfl _ rfl))
  case o2 => exact fun _ _ _ hw _ _ => OpOK2.of_val (ok_value rfl (run_fld 72 _ 0 rfl _ _ rfl _))
  case o3 => exact fun _ _ _ hw _ _ => OpOK2.of_val (ok_value rfl (run_ldc 32 _ rfl rb 0 rfl 72 _ (hw.has krb) (na32 _) _ rfl))
  case o4 => exact fun _ _ _ hw _ _ => OpOK2.of_val (ok_value rfl (rfl))
  case o5 => exact fun _ _ _ hw _ _ => OpOK2.of_val (ok_value rfl (run_nc _ rfl _ rfl))
  case o6 => exact fun _ _ _ hw _ _ => OpOK2.of_val (ok_value rfl (run_fld 72 _ 1 rfl _ _ rfl _))
  case o7 => exact fun _ _ _ hw _ _ => OpOK2.of_val (ok_value rfl (run_ldc 3 _ rfl rb 1 rfl 72 _ (hw.has krb) (na3 _) _ rfl))
  case o8 => exact fun _ _ _ hw _ _ => OpOK2.of_val (ok_call rfl _ 60 Try.call60 rfl rfl _ rfl [.slice so l.length sc, .int .i64 ((i : Nat) : Int)] rfl _ (getID_d so sc l _ (H.gro ((G1.trans (Gro.refl _).drew).trans hw)) i q e x HG hl))
  case o9 => exact fun _ _ _ hw _ _ => OpOK2.of_val (ok_value rfl (rfl))
  case o10 => exact fun _ _ _ hw _ _ => OpOK2.of_val (ok_value rfl (rfl))
  case o11 => exact fun _ _ _ hw _ _ => OpOK2.of_val (ok_value rfl (rfl))
  case o12 => exact fun _ _ _ hw _ _ => OpOK2.of_val (ok_value rfl (rfl))
  case o13 => exact fun _ _ _ hw _ _ => OpOK2.of_new (ok_alloc rfl 23 rfl _ zv23)
  case o14 =>
    intro ptrs L w hw hn hL
    obtain ⟨⟨g, p, k, cz⟩, hz⟩ := hn
    have hL' : L 14 = false := hL
    have p' : ptrs 13 = .pointer (some ⟨g, 0, none⟩) := p
    have k' : w.heap[g]? = some (.cells (if L 14 = true then (c23 (idF x)) else (c23 zF)) 23 (0, 0)) := k
    rw [hL'] at k'
    refine ok2_store rfl 23 _ _ rfl g ?_ (c23 (idF x)) rfl (c23 zF) k' (by kernel_rfl) rfl (by kernel_rfl) rfl p' _
    show ptrs 13 = _
    exact p'
  case o15 => exact fun _ _ _ hw _ _ => OpOK2.of_val (ok_value rfl (rfl))
  intro ptrs L w2 GD hL hn hap
  obtain ⟨⟨g2, px, kx, cx⟩, hz⟩ := hn
  simp only [List.drop_succ_cons, List.drop_zero, px]
  have kg2 : w2.heap[g2]? = some (.cells (c23 (idF x)) 23 (0, 0)) := by
    have hL' : L 14 = true := by rw [hL]; rfl
    have kk : w2.heap[g2]? = some (.cells (if L 14 = true then (c23 (idF x)) else (c23 zF)) 23 (0, 0)) := kx
    rw [hL'] at kk
    exact kk
  have dg1g2 : g1 < g2 := Nat.lt_of_lt_of_le (lt_of_heap kg1) cx
  have drbg2 : rb < g2 := Nat.lt_of_lt_of_le (lt_of_heap krb) cx
  have bg2 : w.heap.size ≤ g2 := Nat.le_trans GG.size cx
  replace kg1 := GD.has kg1
  replace krb := GD.has krb
  replace GG := GG.tg ((Gro.refl _).drew.trans GD)
  clear GD cx hz hL px hap kx ptrs
  refine mv 5 (.int .i64 ((e : Nat) : Int)) (wpList_nil (then_n (wp_seq (wp_seq (wp_region_lit (mv 25 (.int .i64 ((e : Nat) : Int)) (sv 26 (.bool true) (run_neq_k 38 .i64 _ _ _ rfl Try.underlying38 ((e : Nat) : Int) 0 rfl rfl true (by first | exact decide_eq_true (by omega) | exact decide_eq_false (by omega)) _) (wpList_nil (then_n (wp_cond_true rfl (wp_seq (wp_region_lit (mv 27 (.pointer (some ⟨rb, 0, none⟩)) ?_)))))))))))))
  refine nr ?_; intro U h; simp only [z0, z1] at h; subst h
  refine mv 28 (.int .i64 ((e : Nat) : Int)) ?_
  refine nr ?_; intro U h; simp only [z0, z1] at h; subst h
  have hng1 := lt_of_heap kg1
  have hng2 := lt_of_heap kg2
  refine s_callx 29 rfl rfl _ 59 Try.call59 rfl rfl _ rfl [.pointer (some ⟨rb, 0, none⟩), .int .i64 ((e : Nat) : Int)] rfl (fail_0 rb so sc l _ ((i : Nat) : Int) ((e : Nat) : Int) krb) (fun _ _ ⟨he, _⟩ => ⟨_, he⟩) ?_
  rintro v w3 ⟨he, G, kn⟩
  cases he
  replace kg1 := G.has kg1 (by simp; omega)
  replace kg2 := G.has kg2 (by simp; omega)
  replace GG := GG.trans G
  clear krb G
  have krb := kn
  clear kn
  refine wpList_nil (then_n (wp_seq (wp_region_lit (sv 30 (.agg (c23 zF)) (run_bd 23 _ rfl [] rfl _ (by kernel_rfl)) ?_))))
  refine s_store rfl rfl 23 _ _ rfl g1 0 rfl (.agg (c23 zF)) rfl 23 _ kg1 (c23 zF) rfl (by kernel_rfl) (Nat.le_of_ble_eq_true rfl) (by kernel_rfl) (c23 zF) (by kernel_rfl) ?_
  intro w5 St
  replace krb := St.has (by omega) krb
  replace kg2 := St.has (by omega) kg2
  replace GG := GG.st St (.inl bg1)
  replace kg1 := St.new
  clear St
  refine wpList_nil (then_n (wp_ret (then_r ?_)))
  refine bodyPost_ret (results_cell_row Try.results33 _ _ g1 23 _ (0, 0) _ rfl kg1 Try.underlying23 rfl (by kernel_rfl)) rfl ?_
  exact ⟨rfl, GG, krb⟩
set_option maxRecDepth 100000 in
set_option maxHeartbeats 4000000 in
theorem id_fine (rb : Nat) (so : Option Addr) (sc : Nat) (l : List Nat) (w : World) (i : Nat) (krb : w.heap[rb]? = some (.cells (c72 ⟨so, l.length, sc⟩ ((i : Nat) : Int) 0) 72 (0, 0))) (H : NC w .u8 so sc l) (hl : l.length ≤ 140737488355000) (x : List Nat) (q e : Nat) (HG : getI l (i : Int) = (x, q, e)) (he : e = 0) : Calls Try.prog 33 #[.pointer (some ⟨rb, 0, none⟩)] w fun en w' => en = .returned (.agg (c23 (idF x))) ∧ GroS [rb] w w' ∧ w'.heap[rb]? = some (.cells (c72 ⟨so, l.length, sc⟩ ((q : Nat) : Int) 0) 72 (0, 0)) := by
  refine s_enterR Try.func33 rfl Try.ntmps33 [.pointer (some ⟨rb, 0, none⟩)] ?_
  intro U h; simp only [List.length_cons, List.length_nil, List.cons_append, List.nil_append, Nat.reduceAdd, Nat.reduceSub, List.reduceReplicate] at h; subst h
  have GG := GroS.refl [rb] w
  have hrb := lt_of_heap krb
  refine wp_seq (wp_region_lit ?_)
  refine s_alloc 2 rfl rfl 23 rfl _ zv23 _ rfl ?_
  intro w1 g1 G eg1 kg1
  have G1 := G
  have bg1 := size_basS GG eg1
  have drbg1 := lt_new krb eg1
  replace krb := G.has krb
  replace GG := GG.tg G
  clear G eg1
  refine wpList_nil (then_n (wp_seq (wp_seq (wp_region_lit (mv 6 (.pointer (some ⟨rb, 0, none⟩)) (sv 7 (.pointer (some ⟨rb, 0, none⟩)) (run_nc _ rfl _ rfl) (sv 8 (.pointer (some ⟨rb, 2, none⟩)) (run_fld 72 _ 2 rfl _ _ rfl _) (sv 9 (.int .i64 0) (run_ldc 38 _ rfl rb 2 rfl 72 _ krb (na38 _) _ rfl) ?_))))))))
  refine nr ?_; intro U h; simp only [z0, z1] at h; subst h
  refine sv 10 (.bool false) (run_neq_k 38 .i64 _ _ _ rfl Try.underlying38 0 0 rfl rfl false (rfl) _) (wpList_nil (then_n (wp_cond_false rfl (wp_skip (then_n (wp_seq ?_))))))
  refine wp_region_grow2B (A := ?A) 16 [(0, 13), (1, 14), (2, 15), (3, 16), (4, 17), (5, 18), (6, 19), (7, 20), (8, 21), (9, 12), (10, 22), (11, 23), (12, 24), (13, 3), (15, 4)] [.val (.pointer (some ⟨rb, 0, none⟩)), .val (.pointer (some ⟨rb, 0, none⟩)), .val (.pointer (some ⟨rb, 0, none⟩)), .val (.slice so l.length sc), .val (.pointer (some ⟨rb, 0, none⟩)), .val (.pointer (some ⟨rb, 0, none⟩)), .val (.pointer (some ⟨rb, 1, none⟩)), .val (.int .i64 ((i : Nat) : Int)), .val (.tuple #[.agg (c23 (idF x)), .int .i64 ((q : Nat) : Int), .int .i64 ((e : Nat) : Int)]), .val (.tuple #[.agg (c23 (idF x)), .int .i64 ((q : Nat) : Int), .int .i64 ((e : Nat) : Int)]), .val (.agg (c23 (idF x))), .val (.int .i64 ((q : Nat) : Int)), .val (.int .i64 ((e : Nat) : Int)), .new 23 (c23 zF) (c23 (idF x)) 14, .put 13, .val (.int .i64 ((q : Nat) : Int))] follows (by kernel_rfl) (by kernel_rfl) rfl ?hA (opsB_cons ?o0 (opsB_cons ?o1 (opsB_cons ?o2 (opsB_cons ?o3 (opsB_cons ?o4 (opsB_cons ?o5 (opsB_cons ?o6 (opsB_cons ?o7 (opsB_cons ?o8 (opsB_cons ?o9 (opsB_cons ?o10 (opsB_cons ?o11 (opsB_cons ?o12 (opsB_cons ?o13 (opsB_cons ?o14 (opsB_cons ?o15 (opsB_nil))))))))))))))))) ?rest
  case hA =>
    intro ptrs
    simp only [full, foldSlots, filled2, postAt2, List.foldl_cons, List.foldl_nil, List.getD_cons_zero, List.getD_cons_succ, fillS_val, fillS_new, List.set_cons_zero, List.set_cons_succ]
    exact rfl
  case o0 => exact fun _ _ _ hw _ _ => OpOK2.of_val (ok_value rfl (rfl))
  case o1 => exact fun _ _ _ hw _ _ => OpOK2.of_val (ok_value rfl (run_nc _ rfl _ rfl))
  case o2 => exact fun _ _ _ hw _ _ => OpOK2.of_val (ok_value rfl (run_fld 72 _ 0 rfl _ _ rfl _))
  case o3 => exact fun _ _ _ hw _ _ => OpOK2.of_val (ok_value rfl (run_ldc 32 _ rfl rb 0 rfl 72 _ (hw.has krb) (na32 _) _ rfl))
  case o4 => exact fun _ _ _ hw _ _ => OpOK2.of_val (ok_value rfl (rfl))
  case o5 => exact fun _ _ _ hw _ _ => OpOK2.of_val (ok_value rfl (run_nc _ rfl _ rfl))
  case o6 => exact fun _ _ _ hw _ _ => OpOK2.of_val (ok_value rfl (run_fld 72 _ 1 rfl _ _ rfl _))
  case o7 => exact fun _ _ _ hw _ _ => OpOK2.of_val (ok_value rfl (run_ldc 3 _ rfl rb 1 rfl 72 _ (hw.has krb) (na3 _) _ rfl))
  case o8 => exact fun _ _ _ hw _ _ => OpOK2.of_val (ok_call rfl _ 60 Try.call60 rfl rfl _ rfl [.slice so l.length sc, .int .i64 ((i : Nat) : Int)] rfl _ (getID_d so sc l _ (H.gro ((G1.trans (Gro.refl _).drew).trans hw)) i q e x HG hl))
  case o9 => exact fun _ _ _ hw _ _ => OpOK2.of_val (ok_value rfl (rfl))
  case o10 => exact fun _ _ _ hw _ _ => OpOK2.of_val (ok_value rfl (rfl))
  case o11 => exact fun _ _ _ hw _ _ => OpOK2.of_val (ok_value rfl (rfl))
  case o12 => exact fun _ _ _ hw _ _ => OpOK2.of_val (ok_value rfl (rfl))
  case o13 => exact fun _ _ _ hw _ _ => OpOK2.of_new (ok_alloc rfl 23 rfl _ zv23)
  case o14 =>
    intro ptrs L w hw hn hL
    obtain ⟨⟨g, p, k, cz⟩, hz⟩ := hn
    have hL' : L 14 = false := hL
    have p' : ptrs 13 = .pointer (some ⟨g, 0, none⟩) := p
    have k' : w.heap[g]? = some (.cells (if L 14 = true then (c23 (idF x)) else (c23 zF)) 23 (0, 0)) := k
    rw [hL'] at k'
    refine ok2_store rfl 23 _ _ rfl g ?_ (c23 (idF x)) rfl (c23 zF) k' (by kernel_rfl) rfl (by kernel_rfl) rfl p' _
    show ptrs 13 = _
    exact p'
  case o15 => exact fun _ _ _ hw _ _ => OpOK2.of_val (ok_value rfl (rfl))
  intro ptrs L w2 GD hL hn hap
  obtain ⟨⟨g2, px, kx, cx⟩, hz⟩ := hn
  simp only [List.drop_succ_cons, List.drop_zero, px]
  have kg2 : w2.heap[g2]? = some (.cells (c23 (idF x)) 23 (0, 0)) := by
    have hL' : L 14 = true := by rw [hL]; rfl
    have kk : w2.heap[g2]? = some (.cells (if L 14 = true then (c23 (idF x)) else (c23 zF)) 23 (0, 0)) := kx
    rw [hL'] at kk
    exact kk
  have dg1g2 : g1 < g2 := Nat.lt_of_lt_of_le (lt_of_heap kg1) cx
  have drbg2 : rb < g2 := Nat.lt_of_lt_of_le (lt_of_heap krb) cx
  have bg2 : w.heap.size ≤ g2 := Nat.le_trans GG.size cx
  replace kg1 := GD.has kg1
  replace krb := GD.has krb
  replace GG := GG.tg ((Gro.refl _).drew.trans GD)
  clear GD cx hz hL px hap kx ptrs
  refine mv 5 (.int .i64 ((e : Nat) : Int)) (wpList_nil (then_n (wp_seq (wp_seq (wp_region_lit (mv 25 (.int .i64 ((e : Nat) : Int)) (sv 26 (.bool false) (run_neq_k 38 .i64 _ _ _ rfl Try.underlying38 ((e : Nat) : Int) 0 rfl rfl false (by first | exact decide_eq_true (by omega) | exact decide_eq_false (by omega)) _) (wpList_nil (then_n (wp_cond_false rfl (wp_skip (then_n (wp_seq (wp_region_lit (mv 31 (.pointer (some ⟨rb, 0, none⟩)) ?_)))))))))))))))
  refine nr ?_; intro U h; simp only [z0, z1] at h; subst h
  refine mv 32 (.int .i64 ((q : Nat) : Int)) (sv 33 (.pointer (some ⟨rb, 0, none⟩)) (run_nc _ rfl _ rfl) (sv 34 (.pointer (some ⟨rb, 1, none⟩)) (run_fld 72 _ 1 rfl _ _ rfl _) ?_))
  refine s_store rfl rfl 3 _ _ rfl rb 1 rfl (.int .i64 ((q : Nat) : Int)) rfl 72 _ krb #[.int .i64 ((q : Nat) : Int)] rfl (by kernel_rfl) (Nat.le_of_ble_eq_true rfl) (by kernel_rfl) (c72 ⟨so, l.length, sc⟩ ((q : Nat) : Int) 0) (by kernel_rfl) ?_
  intro w4 St
  replace kg1 := St.has (by omega) kg1
  replace kg2 := St.has (by omega) kg2
  replace GG := GG.st St (.inr (by simp))
  replace krb := St.new
  clear St
  refine wpList_nil (then_n (wp_seq (wp_region_lit (sv 35 (.agg (c23 (idF x))) (run_lda 23 _ rfl g2 0 16 rfl 23 _ kg2 _ Try.underlying23 rfl si23 _) ?_))))
  refine s_store rfl rfl 23 _ _ rfl g1 0 rfl (.agg (c23 (idF x))) rfl 23 _ kg1 (c23 (idF x)) rfl (by kernel_rfl) (Nat.le_of_ble_eq_true rfl) (by kernel_rfl) (c23 (idF x)) (by kernel_rfl) ?_
  intro w6 St
  replace krb := St.has (by omega) krb
  replace kg2 := St.has (by omega) kg2
  replace GG := GG.st St (.inl bg1)
  replace kg1 := St.new
  clear St
  refine wpList_nil (then_n (wp_ret ?_))
  refine bodyPost_ret (results_cell_row Try.results33 _ _ g1 23 _ (0, 0) _ rfl kg1 Try.underlying23 rfl (by kernel_rfl)) rfl ?_
  exact ⟨rfl, GG, krb⟩
theorem did (rb : Nat) (so : Option Addr) (sc : Nat) (l : List Nat) (w : World) (a e a1 e1 : Nat) (v : List Nat) (krb : w.heap[rb]? = some (.cells (c72 ⟨so, l.length, sc⟩ (a : Int) (e : Int)) 72 (0, 0))) (H : NC w .u8 so sc l) (hl : l.length ≤ 140737488355000) (h : dR (rdI l) z16 a e = (v, a1, e1)) :
    Calls Try.prog 33 #[.pointer (some ⟨rb, 0, none⟩)] w fun en w' => en = .returned (.agg (c23 (idF v))) ∧ GroS [rb] w w' ∧ w'.heap[rb]? = some (.cells (c72 ⟨so, l.length, sc⟩ (a1 : Int) (e1 : Int)) 72 (0, 0)) := by
  by_cases he : e = 0
  · subst he
    obtain ⟨⟨x, q, e2⟩, HG⟩ : ∃ r, getI l (a : Int) = r := ⟨_, rfl⟩
    cases e2 with
    | succ n =>
      have hr : rdI l a = .error (n + 1) := by unfold rdI; rw [HG]
      rw [dR_err hr] at h
      cases h
      rw [show c23 (idF z16) = c23 zF from by kernel_rfl]
      exact id_e rb so sc l w a krb H hl x q (n + 1) HG (by omega)
    | zero =>
      have hr : rdI l a = .ok (x, q) := by unfold rdI; rw [HG]
      rw [dR_ok hr] at h
      cases h
      exact id_fine rb so sc l w a krb H hl _ _ 0 HG rfl
  · rw [dR_skip he] at h
    cases h
    rw [show c23 (idF z16) = c23 zF from by kernel_rfl]
    exact id_skip rb so sc l w a e (by omega) krb
set_option maxRecDepth 100000 in
set_option maxHeartbeats 4000000 in
theorem text_skip (rb : Nat) (so : Option Addr) (sc : Nat) (l : List Nat) (w : World) (a e : Int) (he : e ≠ 0) (m : Nat) (krb : w.heap[rb]? = some (.cells (c72 ⟨so, l.length, sc⟩ a e) 72 (0, 0))) : Calls Try.prog 34 #[.pointer (some ⟨rb, 0, none⟩), .int .i64 ((m : Nat) : Int)] w fun en w' => ∃ ao cap, en = .returned (.slice ao ([] : List Nat).length cap) ∧ OB w' 5 .u8 w.heap.size ao cap ([] : List Nat) ∧ GroS [rb] w w' ∧ w'.heap[rb]? = some (.cells (c72 ⟨so, l.length, sc⟩ a e) 72 (0, 0)) := by
  refine s_enterR Try.func34 rfl Try.ntmps34 [.pointer (some ⟨rb, 0, none⟩), .int .i64 ((m : Nat) : Int)] ?_
  intro U h; simp only [List.length_cons, List.length_nil, List.cons_append, List.nil_append, Nat.reduceAdd, Nat.reduceSub, List.reduceReplicate] at h; subst h
  have GG := GroS.refl [rb] w
  have hrb := lt_of_heap krb
  refine wp_seq (wp_region_lit (mv 4 (.slice none 0 0) (wpList_nil (then_n (wp_seq (wp_seq (wp_region_lit (mv 8 (.pointer (some ⟨rb, 0, none⟩)) (sv 9 (.pointer (some ⟨rb, 0, none⟩)) (run_nc _ rfl _ rfl) (sv 10 (.pointer (some ⟨rb, 2, none⟩)) (run_fld 72 _ 2 rfl _ _ rfl _) (sv 11 (.int .i64 e) (run_ldc 38 _ rfl rb 2 rfl 72 _ krb (na38 _) _ rfl) ?_)))))))))))
  refine nr ?_; intro U h; simp only [z0, z1] at h; subst h
  refine sv 12 (.bool true) (run_neq_k 38 .i64 _ _ _ rfl Try.underlying38 e 0 rfl rfl true (decide_eq_false he) _) (wpList_nil (then_n (wp_cond_true rfl (wp_seq (wp_region_lit (mv 4 (.slice none 0 0) (wpList_nil (then_n (wp_ret (then_r ?_))))))))))
  refine bodyPost_ret (results_tmp Try.results34 _ _ _) rfl ?_
  exact ⟨none, 0, rfl, OB.nil _ _ _ _, GG, krb⟩
set_option maxRecDepth 100000 in
set_option maxHeartbeats 4000000 in
theorem text_e (rb : Nat) (so : Option Addr) (sc : Nat) (l : List Nat) (w : World) (i m : Nat) (hm : m ≤ 1000000) (krb : w.heap[rb]? = some (.cells (c72 ⟨so, l.length, sc⟩ ((i : Nat) : Int) 0) 72 (0, 0))) (H : NC w .u8 so sc l) (hl : l.length ≤ 140737488355000) (x : List Nat) (q e : Nat) (HG : getT l (i : Int) (m : Int) = (x, q, e)) (he : e ≠ 0) : Calls Try.prog 34 #[.pointer (some ⟨rb, 0, none⟩), .int .i64 ((m : Nat) : Int)] w fun en w' => ∃ ao cap, en = .returned (.slice ao ([] : List Nat).length cap) ∧ OB w' 5 .u8 w.heap.size ao cap ([] : List Nat) ∧ GroS [rb] w w' ∧ w'.heap[rb]? = some (.cells (c72 ⟨so, l.length, sc⟩ ((i : Nat) : Int) ((e : Nat) : Int)) 72 (0, 0)) := by
  refine s_enterR Try.func34 rfl Try.ntmps34 [.pointer (some ⟨rb, 0, none⟩), .int .i64 ((m : Nat) : Int)] ?_
  intro U h; simp only [List.length_cons, List.length_nil, List.cons_append, List.nil_append, Nat.reduceAdd, Nat.reduceSub, List.reduceReplicate] at h; subst h
  have GG := GroS.refl [rb] w
  have hrb := lt_of_heap krb
  refine wp_seq (wp_region_lit (mv 4 (.slice none 0 0) (wpList_nil (then_n (wp_seq (wp_seq (wp_region_lit (mv 8 (.pointer (some ⟨rb, 0, none⟩)) (sv 9 (.pointer (some ⟨rb, 0, none⟩)) (run_nc _ rfl _ rfl) (sv 10 (.pointer (some ⟨rb, 2, none⟩)) (run_fld 72 _ 2 rfl _ _ rfl _) (sv 11 (.int .i64 0) (run_ldc 38 _ rfl rb 2 rfl 72 _ krb (na38 _) _ rfl) ?_)))))))))))
  refine nr ?_; intro U h; simp only [z0, z1] at h; subst h
  refine sv 12 (.bool false) (run_neq_k 38 .i64 _ _ _ rfl Try.underlying38 0 0 rfl rfl false (rfl) _) (wpList_nil (then_n (wp_cond_false rfl (wp_skip (then_n (wp_seq ?_))))))
  refine wp_region_exA (A := ?A) 16 [(0, 14), (1, 15), (2, 16), (3, 17), (4, 18), (5, 19), (6, 20), (7, 21), (8, 22), (9, 23), (10, 13), (11, 24), (12, 25), (13, 26), (14, 5), (15, 6)] [.val (.pointer (some ⟨rb, 0, none⟩)), .val (.pointer (some ⟨rb, 0, none⟩)), .val (.pointer (some ⟨rb, 0, none⟩)), .val (.slice so l.length sc), .val (.pointer (some ⟨rb, 0, none⟩)), .val (.pointer (some ⟨rb, 0, none⟩)), .val (.pointer (some ⟨rb, 1, none⟩)), .val (.int .i64 ((i : Nat) : Int)), .val (.int .i64 ((m : Nat) : Int)), txtE w.heap.size x q e, txtE w.heap.size x q e, rowE w.heap.size x, .val (.int .i64 ((q : Nat) : Int)), .val (.int .i64 ((e : Nat) : Int)), rowE w.heap.size x, .val (.int .i64 ((q : Nat) : Int))] follows (by kernel_rfl) rfl ?hA (opsA_cons ?o0 (opsA_cons ?o1 (opsA_cons ?o2 (opsA_cons ?o3 (opsA_cons ?o4 (opsA_cons ?o5 (opsA_cons ?o6 (opsA_cons ?o7 (opsA_cons ?o8 (opsA_cons ?o9 (opsA_cons ?o10 (opsA_cons ?o11 (opsA_cons ?o12 (opsA_cons ?o13 (opsA_cons ?o14 (opsA_cons ?o15 opsA_nil)))))))))))))))) ?rest
  case hA =>
    intro ptrs
    simp only [full, foldSlots, filledE, postE, List.foldl_cons, List.foldl_nil, List.getD_cons_zero, List.getD_cons_succ, fill_val, fill_row, fill_txt, List.set_cons_zero, List.set_cons_succ]
    exact rfl
  case o0 =>
    exact fun _ _ _ _ => opE_move (v := .pointer (some ⟨rb, 0, none⟩)) _ rfl rfl rfl
  case o1 =>
    exact fun _ _ hw _ => opE_value (v := .pointer (some ⟨rb, 0, none⟩)) rfl (run_nc _ rfl _ rfl)
  case o2 =>
    exact fun _ _ hw _ => opE_value (v := .pointer (some ⟨rb, 0, none⟩)) rfl (run_fld 72 _ 0 rfl _ _ rfl _)
  case o3 =>
    exact fun _ _ hw _ => opE_value (v := .slice so l.length sc) rfl (run_ldc 32 _ rfl rb 0 rfl 72 _ (hw.has krb) (na32 _) _ rfl)
  case o4 =>
    exact fun _ _ _ _ => opE_move (v := .pointer (some ⟨rb, 0, none⟩)) _ rfl rfl rfl
  case o5 =>
    exact fun _ _ hw _ => opE_value (v := .pointer (some ⟨rb, 0, none⟩)) rfl (run_nc _ rfl _ rfl)
  case o6 =>
    exact fun _ _ hw _ => opE_value (v := .pointer (some ⟨rb, 1, none⟩)) rfl (run_fld 72 _ 1 rfl _ _ rfl _)
  case o7 =>
    exact fun _ _ hw _ => opE_value (v := .int .i64 ((i : Nat) : Int)) rfl (run_ldc 3 _ rfl rb 1 rfl 72 _ (hw.has krb) (na3 _) _ rfl)
  case o8 =>
    exact fun _ _ _ _ => opE_move (v := .int .i64 ((m : Nat) : Int)) _ rfl rfl rfl
  case o9 =>
    exact fun _ _ hw _ => opE_call (txtE w.heap.size x q e) rfl _ 61 Try.call61 rfl rfl _ rfl [.slice so l.length sc, .int .i64 ((i : Nat) : Int), .int .i64 ((m : Nat) : Int)] rfl ((getText_d so sc l _ (H.gro ((Gro.refl _).drew.trans hw)) i m q e x HG hl hm).mono fun e' w' ⟨ao, cap, h1, h2, h3⟩ => ⟨_, h1, h3, ao, cap, rfl, h2.mono hw.size⟩)
  case o10 =>
    exact fun _ _ _ hE => opE_new _ rfl rfl (Gro.refl _) hE.1
  case o11 =>
    intro ptrs w' hw hE
    obtain ⟨⟨ao9, cap9, h9, o9⟩, _⟩ := hE
    refine opE_new _ rfl (run_ext (.tmp 13) 0 rfl #[.slice ao9 x.length cap9, .int .i64 ((q : Nat) : Int), .int .i64 ((e : Nat) : Int)] ?_ _ rfl) (Gro.refl _) ⟨ao9, cap9, rfl, o9⟩
    exact h9
  case o12 =>
    intro ptrs w' hw hE
    obtain ⟨⟨ao9, cap9, h9, o9⟩, _⟩ := hE
    refine opE_value (v := .int .i64 ((q : Nat) : Int)) rfl (run_ext (.tmp 13) 1 rfl #[.slice ao9 x.length cap9, .int .i64 ((q : Nat) : Int), .int .i64 ((e : Nat) : Int)] ?_ _ rfl)
    exact h9
  case o13 =>
    intro ptrs w' hw hE
    obtain ⟨⟨ao9, cap9, h9, o9⟩, _⟩ := hE
    refine opE_value (v := .int .i64 ((e : Nat) : Int)) rfl (run_ext (.tmp 13) 2 rfl #[.slice ao9 x.length cap9, .int .i64 ((q : Nat) : Int), .int .i64 ((e : Nat) : Int)] ?_ _ rfl)
    exact h9
  case o14 =>
    exact fun _ _ _ hE => opE_new _ rfl rfl (Gro.refl _) hE.1
  case o15 =>
    exact fun _ _ _ _ => opE_assign (v := .int .i64 ((q : Nat) : Int)) _ rfl rfl rfl
  intro ptrs w1 GD hxE
  simp only [List.drop_succ_cons, List.drop_zero]
  replace krb := GD.has krb
  replace GG := GG.tg ((Gro.refl _).drew.trans GD)
  obtain ⟨_, _, _, ⟨ao1, cap1, h14, HT⟩, _⟩ := hxE
  simp only [h14]
  clear GD
  refine mv 7 (.int .i64 ((e : Nat) : Int)) (wpList_nil (then_n (wp_seq (wp_seq (wp_region_lit (mv 27 (.int .i64 ((e : Nat) : Int)) (sv 28 (.bool true) (run_neq_k 38 .i64 _ _ _ rfl Try.underlying38 ((e : Nat) : Int) 0 rfl rfl true (by first | exact decide_eq_true (by omega) | exact decide_eq_false (by omega)) _) (wpList_nil (then_n (wp_cond_true rfl (wp_seq (wp_region_lit (mv 29 (.pointer (some ⟨rb, 0, none⟩)) ?_)))))))))))))
  refine nr ?_; intro U h; simp only [z0, z1] at h; subst h
  refine mv 30 (.int .i64 ((e : Nat) : Int)) ?_
  refine s_callx 31 rfl rfl _ 59 Try.call59 rfl rfl _ rfl [.pointer (some ⟨rb, 0, none⟩), .int .i64 ((e : Nat) : Int)] rfl (fail_0 rb so sc l _ ((i : Nat) : Int) ((e : Nat) : Int) krb) (fun _ _ ⟨he, _⟩ => ⟨_, he⟩) ?_
  rintro v w2 ⟨he, G, kn⟩
  cases he
  replace GG := GG.trans G
  clear krb G
  have krb := kn
  clear kn
  refine wpList_nil (then_n (wp_seq (wp_region_lit (mv 4 (.slice none 0 0) (wpList_nil (then_n (wp_ret (then_r ?_))))))))
  refine bodyPost_ret (results_tmp Try.results34 _ _ _) rfl ?_
  exact ⟨none, 0, rfl, OB.nil _ _ _ _, GG, krb⟩
set_option maxRecDepth 100000 in
set_option maxHeartbeats 4000000 in
theorem text_fine (rb : Nat) (so : Option Addr) (sc : Nat) (l : List Nat) (w : World) (i m : Nat) (hm : m ≤ 1000000) (krb : w.heap[rb]? = some (.cells (c72 ⟨so, l.length, sc⟩ ((i : Nat) : Int) 0) 72 (0, 0))) (H : NC w .u8 so sc l) (hl : l.length ≤ 140737488355000) (x : List Nat) (q e : Nat) (HG : getT l (i : Int) (m : Int) = (x, q, e)) (he : e = 0) : Calls Try.prog 34 #[.pointer (some ⟨rb, 0, none⟩), .int .i64 ((m : Nat) : Int)] w fun en w' => ∃ ao cap, en = .returned (.slice ao x.length cap) ∧ OB w' 5 .u8 w.heap.size ao cap x ∧ GroS [rb] w w' ∧ w'.heap[rb]? = some (.cells (c72 ⟨so, l.length, sc⟩ ((q : Nat) : Int) 0) 72 (0, 0)) := by
  refine s_enterR Try.func34 rfl Try.ntmps34 [.pointer (some ⟨rb, 0, none⟩), .int .i64 ((m : Nat) : Int)] ?_
  intro U h; simp only [List.length_cons, List.length_nil, List.cons_append, List.nil_append, Nat.reduceAdd, Nat.reduceSub, List.reduceReplicate] at h; subst h
  have GG := GroS.refl [rb] w
  have hrb := lt_of_heap krb
  refine wp_seq (wp_region_lit (mv 4 (.slice none 0 0) (wpList_nil (then_n (wp_seq (wp_seq (wp_region_lit (mv 8 (.pointer (some ⟨rb, 0, none⟩)) (sv 9 (.pointer (some ⟨rb, 0, none⟩)) (run_nc _ rfl _ rfl) (sv 10 (.pointer (some ⟨rb, 2, none⟩)) (run_fld 72 _ 2 rfl _ _ rfl _) (sv 11 (.int .i64 0) (run_ldc 38 _ rfl rb 2 rfl 72 _ krb (na38 _) _ rfl) ?_)))))))))))
  refine nr ?_; intro U h; simp only [z0, z1] at h; subst h
  refine sv 12 (.bool false) (run_neq_k 38 .i64 _ _ _ rfl Try.underlying38 0 0 rfl rfl false (rfl) _) (wpList_nil (then_n (wp_cond_false rfl (wp_skip (then_n (wp_seq ?_))))))
  refine wp_region_exA (A := ?A) 16 [(0, 14), (1, 15), (2, 16), (3, 17), (4, 18), (5, 19), (6, 20), (7, 21), (8, 22), (9, 23), (10, 13), (11, 24), (12, 25), (13, 26), (14, 5), (15, 6)] [.val (.pointer (some ⟨rb, 0, none⟩)), .val (.pointer (some ⟨rb, 0, none⟩)), .val (.pointer (some ⟨rb, 0, none⟩)), .val (.slice so l.length sc), .val (.pointer (some ⟨rb, 0, none⟩)), .val (.pointer (some ⟨rb, 0, none⟩)), .val (.pointer (some ⟨rb, 1, none⟩)), .val (.int .i64 ((i : Nat) : Int)), .val (.int .i64 ((m : Nat) : Int)), txtE w.heap.size x q e, txtE w.heap.size x q e, rowE w.heap.size x, .val (.int .i64 ((q : Nat) : Int)), .val (.int .i64 ((e : Nat) : Int)), rowE w.heap.size x, .val (.int .i64 ((q : Nat) : Int))] follows (by kernel_rfl) rfl ?hA (opsA_cons ?o0 (opsA_cons ?o1 (opsA_cons ?o2 (opsA_cons ?o3 (opsA_cons ?o4 (opsA_cons ?o5 (opsA_cons ?o6 (opsA_cons ?o7 (opsA_cons ?o8 (opsA_cons ?o9 (opsA_cons ?o10 (opsA_cons ?o11 (opsA_cons ?o12 (opsA_cons ?o13 (opsA_cons ?o14 (opsA_cons ?o15 opsA_nil)))))))))))))))) ?rest
  case hA =>
    intro ptrs
    simp only [full, foldSlots, filledE, postE, List.foldl_cons, List.foldl_nil, List.getD_cons_zero, List.getD_cons_succ, fill_val, fill_row, fill_txt, List.set_cons_zero, List.set_cons_succ]
    exact rfl
  case o0 =>
    exact fun _ _ _ _ => opE_move (v := .pointer (some ⟨rb, 0, none⟩)) _ rfl rfl rfl
  case o1 =>
    exact fun _ _ hw _ => opE_value (v := .pointer (some ⟨rb, 0, none⟩)) rfl (run_nc _ rfl _ rfl)
  case o2 =>
    exact fun _ _ hw _ => opE_value (v := .pointer (some ⟨rb, 0, none⟩)) rfl (run_fld 72 _ 0 rfl _ _ rfl _)
  case o3 =>
    exact fun _ _ hw _ => opE_value (v := .slice so l.length sc) rfl (run_ldc 32 _ rfl rb 0 rfl 72 _ (hw.has krb) (na32 _) _ rfl)
  case o4 =>
    exact fun _ _ _ _ => opE_move (v := .pointer (some ⟨rb, 0, none⟩)) _ rfl rfl rfl
  case o5 =>
    exact fun _ _ hw _ => opE_value (v := .pointer (some ⟨rb, 0, none⟩)) rfl (run_nc _ rfl _ rfl)
  case o6 =>
    exact fun _ _ hw _ => opE_value (v := .pointer (some ⟨rb, 1, none⟩)) rfl (run_fld 72 _ 1 rfl _ _ rfl _)
  case o7 =>
    exact fun _ _ hw _ => opE_value (v := .int .i64 ((i : Nat) : Int)) rfl (run_ldc 3 _ rfl rb 1 rfl 72 _ (hw.has krb) (na3 _) _ rfl)
  case o8 =>
    exact fun _ _ _ _ => opE_move (v := .int .i64 ((m : Nat) : Int)) _ rfl rfl rfl
  case o9 =>
    exact fun _ _ hw _ => opE_call (txtE w.heap.size x q e) rfl _ 61 Try.call61 rfl rfl _ rfl [.slice so l.length sc, .int .i64 ((i : Nat) : Int), .int .i64 ((m : Nat) : Int)] rfl ((getText_d so sc l _ (H.gro ((Gro.refl _).drew.trans hw)) i m q e x HG hl hm).mono fun e' w' ⟨ao, cap, h1, h2, h3⟩ => ⟨_, h1, h3, ao, cap, rfl, h2.mono hw.size⟩)
  case o10 =>
    exact fun _ _ _ hE => opE_new _ rfl rfl (Gro.refl _) hE.1
  case o11 =>
    intro ptrs w' hw hE
    obtain ⟨⟨ao9, cap9, h9, o9⟩, _⟩ := hE
    refine opE_new _ rfl (run_ext (.tmp 13) 0 rfl #[.slice ao9 x.length cap9, .int .i64 ((q : Nat) : Int), .int .i64 ((e : Nat) : Int)] ?_ _ rfl) (Gro.refl _) ⟨ao9, cap9, rfl, o9⟩
    exact h9
  case o12 =>
    intro ptrs w' hw hE
    obtain ⟨⟨ao9, cap9, h9, o9⟩, _⟩ := hE
    refine opE_value (v := .int .i64 ((q : Nat) : Int)) rfl (run_ext (.tmp 13) 1 rfl #[.slice ao9 x.length cap9, .int .i64 ((q : Nat) : Int), .int .i64 ((e : Nat) : Int)] ?_ _ rfl)
    exact h9
  case o13 =>
    intro ptrs w' hw hE
    obtain ⟨⟨ao9, cap9, h9, o9⟩, _⟩ := hE
    refine opE_value (v := .int .i64 ((e : Nat) : Int)) rfl (run_ext (.tmp 13) 2 rfl #[.slice ao9 x.length cap9, .int .i64 ((q : Nat) : Int), .int .i64 ((e : Nat) : Int)] ?_ _ rfl)
    exact h9
  case o14 =>
    exact fun _ _ _ hE => opE_new _ rfl rfl (Gro.refl _) hE.1
  case o15 =>
    exact fun _ _ _ _ => opE_assign (v := .int .i64 ((q : Nat) : Int)) _ rfl rfl rfl
  intro ptrs w1 GD hxE
  simp only [List.drop_succ_cons, List.drop_zero]
  replace krb := GD.has krb
  replace GG := GG.tg ((Gro.refl _).drew.trans GD)
  obtain ⟨_, _, _, ⟨ao1, cap1, h14, HT⟩, _⟩ := hxE
  simp only [h14]
  clear GD
  refine mv 7 (.int .i64 ((e : Nat) : Int)) (wpList_nil (then_n (wp_seq (wp_seq (wp_region_lit (mv 27 (.int .i64 ((e : Nat) : Int)) (sv 28 (.bool false) (run_neq_k 38 .i64 _ _ _ rfl Try.underlying38 ((e : Nat) : Int) 0 rfl rfl false (by first | exact decide_eq_true (by omega) | exact decide_eq_false (by omega)) _) (wpList_nil (then_n (wp_cond_false rfl (wp_skip (then_n (wp_seq (wp_region_lit (mv 32 (.pointer (some ⟨rb, 0, none⟩)) ?_)))))))))))))))
  refine nr ?_; intro U h; simp only [z0, z1] at h; subst h
  refine mv 33 (.int .i64 ((q : Nat) : Int)) (sv 34 (.pointer (some ⟨rb, 0, none⟩)) (run_nc _ rfl _ rfl) (sv 35 (.pointer (some ⟨rb, 1, none⟩)) (run_fld 72 _ 1 rfl _ _ rfl _) ?_))
  refine s_store rfl rfl 3 _ _ rfl rb 1 rfl (.int .i64 ((q : Nat) : Int)) rfl 72 _ krb #[.int .i64 ((q : Nat) : Int)] rfl (by kernel_rfl) (Nat.le_of_ble_eq_true rfl) (by kernel_rfl) (c72 ⟨so, l.length, sc⟩ ((q : Nat) : Int) 0) (by kernel_rfl) ?_
  intro w3 St
  replace HT := HT.apart St (fun ad ha => by have := HT.ge ad ha; omega)
  replace GG := GG.st St (.inr (by simp))
  replace krb := St.new
  clear St
  refine wpList_nil (then_n (wp_seq (wp_region_lit (mv 36 (.slice ao1 x.length cap1) (mv 4 (.slice ao1 x.length cap1) ?_)))))
  refine nr ?_; intro U h; simp only [z0, z1] at h; subst h
  refine wpList_nil (then_n (wp_ret ?_))
  refine bodyPost_ret (results_tmp Try.results34 _ _ _) rfl ?_
  exact ⟨_, _, rfl, HT, GG, krb⟩
theorem dtext (rb : Nat) (so : Option Addr) (sc : Nat) (l : List Nat) (w : World) (a e a1 e1 m : Nat) (hm : m ≤ 1000000) (v : List Nat) (krb : w.heap[rb]? = some (.cells (c72 ⟨so, l.length, sc⟩ (a : Int) (e : Int)) 72 (0, 0))) (H : NC w .u8 so sc l) (hl : l.length ≤ 140737488355000) (h : dR (fun i => rdT l i m) [] a e = (v, a1, e1)) :
    Calls Try.prog 34 #[.pointer (some ⟨rb, 0, none⟩), .int .i64 (m : Int)] w fun en w' => ∃ ao cap, en = .returned (.slice ao v.length cap) ∧ OB w' 5 .u8 w.heap.size ao cap v ∧ GroS [rb] w w' ∧ w'.heap[rb]? = some (.cells (c72 ⟨so, l.length, sc⟩ (a1 : Int) (e1 : Int)) 72 (0, 0)) := by
  by_cases he : e = 0
  · subst he
    obtain ⟨⟨x, q, e2⟩, HG⟩ : ∃ r, getT l (a : Int) (m : Int) = r := ⟨_, rfl⟩
    cases e2 with
    | succ n =>
      have hr : rdT l a m = .error (n + 1) := by unfold rdT; rw [HG]
      rw [dR_err (rd := fun i => rdT l i m) hr] at h
      cases h
      exact text_e rb so sc l w a m hm krb H hl x q (n + 1) HG (by omega)
    | zero =>
      have hr : rdT l a m = .ok (x, q) := by unfold rdT; rw [HG]
      rw [dR_ok (rd := fun i => rdT l i m) hr] at h
      cases h
      exact text_fine rb so sc l w a m hm krb H hl _ _ 0 HG rfl
  · rw [dR_skip he] at h
    cases h
    exact text_skip rb so sc l w a e (by omega) m krb
end Go.Proofs.Ythmcnlmphikicaa
