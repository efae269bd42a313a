/- Reading: a body, kind by kind. -/
import Derived.Test.YthmcnlmphikicabZR5
import Derived.Test.YthmcnlmphikicabZG1
namespace Go.Proofs.Ythmcnlmphikicab
open Go.RowKit
def BodyP (B : Nat) (a : Nat × Fr × FD) (v : Value) (w : World) : Prop := ∃ s1 s2 s3 s4 : Sl, v = bodyV a.1 { a.2.1 with tr := s1, ids := s2, val := s3, tx := s4 } ∧ FrO w B { a.2.1 with tr := s1, ids := s2, val := s3, tx := s4 } a.2.2 ∧ 1 ≤ a.1 ∧ a.1 ≤ 12
theorem rdRep_ok {l : List Nat} (hl : ∀ x ∈ l, x < 256) : ∀ (n i : Nat) (a : List (List Nat)) (q : Nat), rdRep (rdI l) n i = .ok (a, q) → ok16 a
  | 0, i, a, q, h => by
    simp only [rdRep, Except.ok.injEq, Prod.mk.injEq] at h
    obtain ⟨rfl, _⟩ := h
    intro x hx
    cases hx
  | n + 1, i, a, q, h => by
    unfold rdRep thenR at h
    cases h1 : rdI l i with
    | error e => rw [h1] at h; cases h
    | ok p =>
      obtain ⟨x, q1⟩ := p
      rw [h1] at h
      dsimp only at h
      cases h2 : rdRep (rdI l) n q1 with
      | error e => rw [h2] at h; cases h
      | ok p =>
        obtain ⟨y, q2⟩ := p
        rw [h2] at h
        simp only [Except.ok.injEq, Prod.mk.injEq] at h
        obtain ⟨rfl, _⟩ := h
        have ih := rdRep_ok hl n q1 y q2 h2
        have hx : x.length = 16 ∧ ∀ z ∈ x, z < 256 := by
          have h16 := getI_len l (i : Int)
          have hlt := getI_lt l hl (i : Int)
          unfold rdI at h1
          split at h1
          · rename_i a b hg
            rw [hg] at h16 hlt
            cases h1
            exact ⟨h16, hlt⟩
          · cases h1
        intro z hz
        rcases List.mem_cons.1 hz with rfl | hz
        · exact hx
        · exact ih z hz
theorem rdIs_ok {l : List Nat} (hl : ∀ x ∈ l, x < 256) {i : Nat} {a : List (List Nat)} {q : Nat} (h : rdIs l i = .ok (a, q)) : ok16 a := by
  unfold rdIs thenR at h
  cases h1 : rdC l i 16 with
  | error e => rw [h1] at h; cases h
  | ok p => rw [h1] at h; exact rdRep_ok hl _ _ a q h
def rdB1 (l : List Nat) (i : Nat) : Except Nat ((Nat × Fr × FD) × Nat) := thenR (rdS l i) fun x2 q => thenR (rdS l q) fun x3 q => thenR (rdI l q) fun x4 q => .ok ((1, (⟨0, zF, 0, false, (idF x4), zF, 0, ((x2.1 : Nat) : Int), ((x2.2 : Nat) : Int), ((x3.1 : Nat) : Int), ((x3.2 : Nat) : Int), Sl.nil, Sl.nil, zF, 0, zF, Sl.nil, 0, 0, Sl.nil⟩ : Fr), (⟨[], [], [], []⟩ : FD)), q)
set_option maxRecDepth 100000 in
set_option maxHeartbeats 4000000 in
theorem body_rd1 (rb : Nat) (so : Option Addr) (sc : Nat) (l : List Nat) (i : Nat) (w : World) (krb : w.heap[rb]? = some (.cells (c123 ⟨so, l.length, sc⟩ (i : Int)) 117 (0, 0))) (HB : BS rb w so sc l) (hl : l.length ≤ 140737488355000) (i1 : Nat) (hK : rdN l i = .ok (1, i1)) : Calls Try.prog 46 #[.pointer (some ⟨rb, 0, none⟩)] w (RdP rb so sc l.length w (rdB1 l i1) (BodyP w.heap.size)) := by
  refine s_enterR Try.func46 rfl Try.ntmps46 [.pointer (some ⟨rb, 0, none⟩)] ?_
  intro U h; simp only [List.length_cons, List.length_nil, List.cons_append, List.nil_append, Nat.reduceAdd, Nat.reduceSub, List.reduceReplicate] at h; subst h
  have GG := GroR.refl rb w
  have hrb := lt_of_heap krb
  refine wp_seq (wp_region_lit (mv 2 (.nilIface) (wpList_nil (then_n (wp_seq (wp_seq (wp_region_lit (mv 3 (.pointer (some ⟨rb, 0, none⟩)) ?_))))))))
  simp only [z0, z1]
  have HC := rdNum rb so sc l i _ krb (HB.gror GG) hl
  rw [hK] at HC
  refine s_callx 4 rfl rfl _ 50 Try.call50 rfl rfl _ rfl [.pointer (some ⟨rb, 0, none⟩)] rfl (rd_ok HC) (fun _ _ ⟨_, he, _⟩ => ⟨_, he⟩) ?_
  rintro v w1 ⟨_, he, hv, G, kn⟩
  cases he
  replace GG := GG.trans G
  replace krb := kn
  subst hv
  clear G HC kn
  refine wpList_nil (then_n (wp_block (wp_seq (wp_region_lit (sv 6 (.bool true) (run_eq_k 2 .i64 _ _ _ rfl Try.underlying2 ((1 : Nat) : Int) 1 rfl rfl true (by decide) _) (mv 5 (.bool true) ?_))))))
  simp only [z0, z1]
  refine wpList_nil (then_n (wp_cond_true rfl (wp_seq (wp_region_lit (mv 7 (.pointer (some ⟨rb, 0, none⟩)) ?_)))))
  simp only [z0, z1]
  obtain ⟨r2, hr2⟩ : ∃ r, rdS l i1 = r := ⟨_, rfl⟩
  have HC := rdSess rb so sc l i1 _ krb (HB.gror GG) hl
  rw [hr2] at HC
  rcases r2 with e | ⟨x2, i2⟩
  refine s_callp rfl _ 51 Try.call51 rfl rfl _ rfl [.pointer (some ⟨rb, 0, none⟩)] rfl (rd_err HC) ?_
  intro w2 G
  replace GG := GG.trans G
  refine then_p (blk_p (then_p ?_))
  refine post_p rfl ?_
  exact RdP.mk_err (by simp only [rdB1, hr2, thenR]) GG
  have sz2 := GG.size
  have ddrb2 := lt_of_heap krb
  refine s_callx 8 rfl rfl _ 51 Try.call51 rfl rfl _ rfl [.pointer (some ⟨rb, 0, none⟩)] rfl (rd_ok HC) (fun _ _ ⟨_, he, _⟩ => ⟨_, he⟩) ?_
  rintro v w2 ⟨_, he, hv, G, kn⟩
  cases he
  replace GG := GG.trans G
  replace krb := kn
  clear HC kn
  subst hv
  clear G
  refine mv 9 (.pointer (some ⟨rb, 0, none⟩)) ?_
  simp only [z0, z1]
  obtain ⟨r3, hr3⟩ : ∃ r, rdS l i2 = r := ⟨_, rfl⟩
  have HC := rdSess rb so sc l i2 _ krb (HB.gror GG) hl
  rw [hr3] at HC
  rcases r3 with e | ⟨x3, i3⟩
  refine s_callp rfl _ 51 Try.call51 rfl rfl _ rfl [.pointer (some ⟨rb, 0, none⟩)] rfl (rd_err HC) ?_
  intro w3 G
  replace GG := GG.trans G
  refine then_p (blk_p (then_p ?_))
  refine post_p rfl ?_
  exact RdP.mk_err (by simp only [rdB1, hr2, hr3, thenR]) GG
  have sz3 := GG.size
  have ddrb3 := lt_of_heap krb
  refine s_callx 10 rfl rfl _ 51 Try.call51 rfl rfl _ rfl [.pointer (some ⟨rb, 0, none⟩)] rfl (rd_ok HC) (fun _ _ ⟨_, he, _⟩ => ⟨_, he⟩) ?_
  rintro v w3 ⟨_, he, hv, G, kn⟩
  cases he
  replace GG := GG.trans G
  replace krb := kn
  clear HC kn
  subst hv
  clear G
  refine mv 11 (.pointer (some ⟨rb, 0, none⟩)) ?_
  simp only [z0, z1]
  obtain ⟨r4, hr4⟩ : ∃ r, rdI l i3 = r := ⟨_, rfl⟩
  have HC := rdID rb so sc l i3 _ krb (HB.gror GG) hl
  rw [hr4] at HC
  rcases r4 with e | ⟨x4, i4⟩
  refine s_callp rfl _ 52 Try.call52 rfl rfl _ rfl [.pointer (some ⟨rb, 0, none⟩)] rfl (rd_err HC) ?_
  intro w4 G
  replace GG := GG.trans G
  refine then_p (blk_p (then_p ?_))
  refine post_p rfl ?_
  exact RdP.mk_err (by simp only [rdB1, hr2, hr3, hr4, thenR]) GG
  have sz4 := GG.size
  have ddrb4 := lt_of_heap krb
  refine s_callx 12 rfl rfl _ 52 Try.call52 rfl rfl _ rfl [.pointer (some ⟨rb, 0, none⟩)] rfl (rd_ok HC) (fun _ _ ⟨_, he, _⟩ => ⟨_, he⟩) ?_
  rintro v w4 ⟨_, he, hv, G, kn⟩
  cases he
  replace GG := GG.trans G
  replace krb := kn
  clear HC kn
  obtain ⟨rfl, h16x4⟩ := hv
  clear G
  refine sv 13 (.agg (c79 ((x2.1 : Nat) : Int) ((x2.2 : Nat) : Int) ((x3.1 : Nat) : Int) ((x3.2 : Nat) : Int) (idF x4))) (run_bd 67 _ rfl [(0, .agg (c27 ((x2.1 : Nat) : Int) ((x2.2 : Nat) : Int))), (1, .agg (c27 ((x3.1 : Nat) : Int) ((x3.2 : Nat) : Int))), (2, .agg (c23 (idF x4)))] rfl _ (by kernel_rfl)) (sv 14 (.iface 67 (.agg (c79 ((x2.1 : Nat) : Int) ((x2.2 : Nat) : Int) ((x3.1 : Nat) : Int) ((x3.2 : Nat) : Int) (idF x4)))) (run_mk 67 _ rfl _ rfl) ?_)
  simp only [z0, z1]
  refine mv 2 (.iface 67 (.agg (c79 ((x2.1 : Nat) : Int) ((x2.2 : Nat) : Int) ((x3.1 : Nat) : Int) ((x3.2 : Nat) : Int) (idF x4)))) (wpList_nil (then_n (wp_ret (blk_r (then_r ?_)))))
  refine bodyPost_ret (results_tmp Try.results46 _ _ _) rfl ?_
  exact RdP.mk_ok (a := (1, (⟨0, zF, 0, false, (idF x4), zF, 0, ((x2.1 : Nat) : Int), ((x2.2 : Nat) : Int), ((x3.1 : Nat) : Int), ((x3.2 : Nat) : Int), Sl.nil, Sl.nil, zF, 0, zF, Sl.nil, 0, 0, Sl.nil⟩ : Fr), (⟨[], [], [], []⟩ : FD))) (by simp only [rdB1, hr2, hr3, hr4, thenR]) GG (⟨Sl.nil, Sl.nil, Sl.nil, Sl.nil, rfl, ⟨OX.nil _ _ _ _, OX.nil _ _ _ _, OX.nil _ _ _ _, OX.nil _ _ _ _, (by intro x hx; cases hx), (by intro x hx; cases hx), (by intro x hx; cases hx)⟩, Nat.le_of_ble_eq_true rfl, Nat.le_of_ble_eq_true rfl⟩) krb
def rdB2 (l : List Nat) (i : Nat) : Except Nat ((Nat × Fr × FD) × Nat) := thenR (rdS l i) fun x2 q => thenR (rdS l q) fun x3 q => thenR (rdN l q) fun x4 q => thenR (rdT l q 4096) fun x5 q => .ok ((2, (⟨0, zF, 0, false, zF, zF, ((x4 : Nat) : Int), ((x2.1 : Nat) : Int), ((x2.2 : Nat) : Int), ((x3.1 : Nat) : Int), ((x3.2 : Nat) : Int), Sl.nil, Sl.nil, zF, 0, zF, Sl.nil, 0, 0, Sl.nil⟩ : Fr), (⟨[], [], [], x5⟩ : FD)), q)
set_option maxRecDepth 100000 in
set_option maxHeartbeats 4000000 in
theorem body_rd2 (rb : Nat) (so : Option Addr) (sc : Nat) (l : List Nat) (i : Nat) (w : World) (krb : w.heap[rb]? = some (.cells (c123 ⟨so, l.length, sc⟩ (i : Int)) 117 (0, 0))) (HB : BS rb w so sc l) (hl : l.length ≤ 140737488355000) (i1 : Nat) (hK : rdN l i = .ok (2, i1)) : Calls Try.prog 46 #[.pointer (some ⟨rb, 0, none⟩)] w (RdP rb so sc l.length w (rdB2 l i1) (BodyP w.heap.size)) := by
  refine s_enterR Try.func46 rfl Try.ntmps46 [.pointer (some ⟨rb, 0, none⟩)] ?_
  intro U h; simp only [List.length_cons, List.length_nil, List.cons_append, List.nil_append, Nat.reduceAdd, Nat.reduceSub, List.reduceReplicate] at h; subst h
  have GG := GroR.refl rb w
  have hrb := lt_of_heap krb
  refine wp_seq (wp_region_lit (mv 2 (.nilIface) (wpList_nil (then_n (wp_seq (wp_seq (wp_region_lit (mv 3 (.pointer (some ⟨rb, 0, none⟩)) ?_))))))))
  simp only [z0, z1]
  have HC := rdNum rb so sc l i _ krb (HB.gror GG) hl
  rw [hK] at HC
  refine s_callx 4 rfl rfl _ 50 Try.call50 rfl rfl _ rfl [.pointer (some ⟨rb, 0, none⟩)] rfl (rd_ok HC) (fun _ _ ⟨_, he, _⟩ => ⟨_, he⟩) ?_
  rintro v w1 ⟨_, he, hv, G, kn⟩
  cases he
  replace GG := GG.trans G
  replace krb := kn
  subst hv
  clear G HC kn
  refine wpList_nil (then_n (wp_block (wp_seq (wp_region_lit (sv 6 (.bool false) (run_eq_k 2 .i64 _ _ _ rfl Try.underlying2 ((2 : Nat) : Int) 1 rfl rfl false (by decide) _) (mv 5 (.bool false) ?_))))))
  simp only [z0, z1]
  refine wpList_nil (then_n (wp_cond_false rfl (wp_seq (wp_region_lit (sv 16 (.bool true) (run_eq_k 2 .i64 _ _ _ rfl Try.underlying2 ((2 : Nat) : Int) 2 rfl rfl true (by decide) _) (mv 15 (.bool true) (wpList_nil (then_n (wp_cond_true rfl (wp_seq (wp_region_lit (mv 17 (.pointer (some ⟨rb, 0, none⟩)) ?_))))))))))))
  simp only [z0, z1]
  obtain ⟨r2, hr2⟩ : ∃ r, rdS l i1 = r := ⟨_, rfl⟩
  have HC := rdSess rb so sc l i1 _ krb (HB.gror GG) hl
  rw [hr2] at HC
  rcases r2 with e | ⟨x2, i2⟩
  refine s_callp rfl _ 51 Try.call51 rfl rfl _ rfl [.pointer (some ⟨rb, 0, none⟩)] rfl (rd_err HC) ?_
  intro w2 G
  replace GG := GG.trans G
  refine then_p (blk_p (then_p ?_))
  refine post_p rfl ?_
  exact RdP.mk_err (by simp only [rdB2, hr2, thenR]) GG
  have sz2 := GG.size
  have ddrb2 := lt_of_heap krb
  refine s_callx 18 rfl rfl _ 51 Try.call51 rfl rfl _ rfl [.pointer (some ⟨rb, 0, none⟩)] rfl (rd_ok HC) (fun _ _ ⟨_, he, _⟩ => ⟨_, he⟩) ?_
  rintro v w2 ⟨_, he, hv, G, kn⟩
  cases he
  replace GG := GG.trans G
  replace krb := kn
  clear HC kn
  subst hv
  clear G
  refine mv 19 (.pointer (some ⟨rb, 0, none⟩)) ?_
  simp only [z0, z1]
  obtain ⟨r3, hr3⟩ : ∃ r, rdS l i2 = r := ⟨_, rfl⟩
  have HC := rdSess rb so sc l i2 _ krb (HB.gror GG) hl
  rw [hr3] at HC
  rcases r3 with e | ⟨x3, i3⟩
  refine s_callp rfl _ 51 Try.call51 rfl rfl _ rfl [.pointer (some ⟨rb, 0, none⟩)] rfl (rd_err HC) ?_
  intro w3 G
  replace GG := GG.trans G
  refine then_p (blk_p (then_p ?_))
  refine post_p rfl ?_
  exact RdP.mk_err (by simp only [rdB2, hr2, hr3, thenR]) GG
  have sz3 := GG.size
  have ddrb3 := lt_of_heap krb
  refine s_callx 20 rfl rfl _ 51 Try.call51 rfl rfl _ rfl [.pointer (some ⟨rb, 0, none⟩)] rfl (rd_ok HC) (fun _ _ ⟨_, he, _⟩ => ⟨_, he⟩) ?_
  rintro v w3 ⟨_, he, hv, G, kn⟩
  cases he
  replace GG := GG.trans G
  replace krb := kn
  clear HC kn
  subst hv
  clear G
  refine mv 21 (.pointer (some ⟨rb, 0, none⟩)) ?_
  simp only [z0, z1]
  obtain ⟨r4, hr4⟩ : ∃ r, rdN l i3 = r := ⟨_, rfl⟩
  have HC := rdNum rb so sc l i3 _ krb (HB.gror GG) hl
  rw [hr4] at HC
  rcases r4 with e | ⟨x4, i4⟩
  refine s_callp rfl _ 50 Try.call50 rfl rfl _ rfl [.pointer (some ⟨rb, 0, none⟩)] rfl (rd_err HC) ?_
  intro w4 G
  replace GG := GG.trans G
  refine then_p (blk_p (then_p ?_))
  refine post_p rfl ?_
  exact RdP.mk_err (by simp only [rdB2, hr2, hr3, hr4, thenR]) GG
  have sz4 := GG.size
  have ddrb4 := lt_of_heap krb
  refine s_callx 22 rfl rfl _ 50 Try.call50 rfl rfl _ rfl [.pointer (some ⟨rb, 0, none⟩)] rfl (rd_ok HC) (fun _ _ ⟨_, he, _⟩ => ⟨_, he⟩) ?_
  rintro v w4 ⟨_, he, hv, G, kn⟩
  cases he
  replace GG := GG.trans G
  replace krb := kn
  clear HC kn
  subst hv
  clear G
  refine mv 23 (.pointer (some ⟨rb, 0, none⟩)) ?_
  simp only [z0, z1]
  obtain ⟨r5, hr5⟩ : ∃ r, rdT l i4 4096 = r := ⟨_, rfl⟩
  have HC := rdText rb so sc l i4 4096 _ krb (HB.gror GG) hl (by omega)
  rw [hr5] at HC
  rcases r5 with e | ⟨x5, i5⟩
  refine s_callp rfl _ 53 Try.call53 rfl rfl _ rfl [.pointer (some ⟨rb, 0, none⟩), .int .i64 4096] rfl (rd_err HC) ?_
  intro w5 G
  replace GG := GG.trans G
  refine then_p (blk_p (then_p ?_))
  refine post_p rfl ?_
  exact RdP.mk_err (by simp only [rdB2, hr2, hr3, hr4, hr5, thenR]) GG
  have sz5 := GG.size
  have ddrb5 := lt_of_heap krb
  refine s_callx 24 rfl rfl _ 53 Try.call53 rfl rfl _ rfl [.pointer (some ⟨rb, 0, none⟩), .int .i64 4096] rfl (rd_ok HC) (fun _ _ ⟨_, he, _⟩ => ⟨_, he⟩) ?_
  rintro v w5 ⟨_, he, hv, G, kn⟩
  cases he
  replace GG := GG.trans G
  replace krb := kn
  clear HC kn
  obtain ⟨ao5, cap5, rfl, o5⟩ := hv
  clear G
  refine sv 25 (.agg (c81 ((x2.1 : Nat) : Int) ((x2.2 : Nat) : Int) ((x3.1 : Nat) : Int) ((x3.2 : Nat) : Int) ((x4 : Nat) : Int) ⟨ao5, x5.length, cap5⟩)) (run_bd 69 _ rfl [(0, .agg (c27 ((x2.1 : Nat) : Int) ((x2.2 : Nat) : Int))), (1, .agg (c27 ((x3.1 : Nat) : Int) ((x3.2 : Nat) : Int))), (2, .int .i64 ((x4 : Nat) : Int)), (3, .slice ao5 x5.length cap5)] rfl _ (by kernel_rfl)) (sv 26 (.iface 69 (.agg (c81 ((x2.1 : Nat) : Int) ((x2.2 : Nat) : Int) ((x3.1 : Nat) : Int) ((x3.2 : Nat) : Int) ((x4 : Nat) : Int) ⟨ao5, x5.length, cap5⟩))) (run_mk 69 _ rfl _ rfl) ?_)
  simp only [z0, z1]
  refine mv 2 (.iface 69 (.agg (c81 ((x2.1 : Nat) : Int) ((x2.2 : Nat) : Int) ((x3.1 : Nat) : Int) ((x3.2 : Nat) : Int) ((x4 : Nat) : Int) ⟨ao5, x5.length, cap5⟩))) (wpList_nil (then_n (wp_ret (blk_r (then_r ?_)))))
  refine bodyPost_ret (results_tmp Try.results46 _ _ _) rfl ?_
  exact RdP.mk_ok (a := (2, (⟨0, zF, 0, false, zF, zF, ((x4 : Nat) : Int), ((x2.1 : Nat) : Int), ((x2.2 : Nat) : Int), ((x3.1 : Nat) : Int), ((x3.2 : Nat) : Int), Sl.nil, Sl.nil, zF, 0, zF, Sl.nil, 0, 0, Sl.nil⟩ : Fr), (⟨[], [], [], x5⟩ : FD))) (by simp only [rdB2, hr2, hr3, hr4, hr5, thenR]) GG (⟨Sl.nil, Sl.nil, Sl.nil, ⟨ao5, x5.length, cap5⟩, rfl, ⟨OX.nil _ _ _ _, OX.nil _ _ _ _, OX.nil _ _ _ _, (o5.mono sz5).ox, (by intro x hx; cases hx), (by intro x hx; cases hx), (fun x hx => by have := o5.wf x hx; rw [max_u8] at this; omega)⟩, Nat.le_of_ble_eq_true rfl, Nat.le_of_ble_eq_true rfl⟩) krb
def rdB3 (l : List Nat) (i : Nat) : Except Nat ((Nat × Fr × FD) × Nat) := thenR (rdS l i) fun x2 q => thenR (rdS l q) fun x3 q => thenR (rdN l q) fun x4 q => .ok ((3, (⟨0, zF, 0, false, zF, zF, ((x4 : Nat) : Int), ((x2.1 : Nat) : Int), ((x2.2 : Nat) : Int), ((x3.1 : Nat) : Int), ((x3.2 : Nat) : Int), Sl.nil, Sl.nil, zF, 0, zF, Sl.nil, 0, 0, Sl.nil⟩ : Fr), (⟨[], [], [], []⟩ : FD)), q)
set_option maxRecDepth 100000 in
set_option maxHeartbeats 4000000 in
theorem body_rd3 (rb : Nat) (so : Option Addr) (sc : Nat) (l : List Nat) (i : Nat) (w : World) (krb : w.heap[rb]? = some (.cells (c123 ⟨so, l.length, sc⟩ (i : Int)) 117 (0, 0))) (HB : BS rb w so sc l) (hl : l.length ≤ 140737488355000) (i1 : Nat) (hK : rdN l i = .ok (3, i1)) : Calls Try.prog 46 #[.pointer (some ⟨rb, 0, none⟩)] w (RdP rb so sc l.length w (rdB3 l i1) (BodyP w.heap.size)) := by
  refine s_enterR Try.func46 rfl Try.ntmps46 [.pointer (some ⟨rb, 0, none⟩)] ?_
  intro U h; simp only [List.length_cons, List.length_nil, List.cons_append, List.nil_append, Nat.reduceAdd, Nat.reduceSub, List.reduceReplicate] at h; subst h
  have GG := GroR.refl rb w
  have hrb := lt_of_heap krb
  refine wp_seq (wp_region_lit (mv 2 (.nilIface) (wpList_nil (then_n (wp_seq (wp_seq (wp_region_lit (mv 3 (.pointer (some ⟨rb, 0, none⟩)) ?_))))))))
  simp only [z0, z1]
  have HC := rdNum rb so sc l i _ krb (HB.gror GG) hl
  rw [hK] at HC
  refine s_callx 4 rfl rfl _ 50 Try.call50 rfl rfl _ rfl [.pointer (some ⟨rb, 0, none⟩)] rfl (rd_ok HC) (fun _ _ ⟨_, he, _⟩ => ⟨_, he⟩) ?_
  rintro v w1 ⟨_, he, hv, G, kn⟩
  cases he
  replace GG := GG.trans G
  replace krb := kn
  subst hv
  clear G HC kn
  refine wpList_nil (then_n (wp_block (wp_seq (wp_region_lit (sv 6 (.bool false) (run_eq_k 2 .i64 _ _ _ rfl Try.underlying2 ((3 : Nat) : Int) 1 rfl rfl false (by decide) _) (mv 5 (.bool false) ?_))))))
  simp only [z0, z1]
  refine wpList_nil (then_n (wp_cond_false rfl (wp_seq (wp_region_lit (sv 16 (.bool false) (run_eq_k 2 .i64 _ _ _ rfl Try.underlying2 ((3 : Nat) : Int) 2 rfl rfl false (by decide) _) (mv 15 (.bool false) (wpList_nil (then_n (wp_cond_false rfl (wp_seq (wp_region_lit (sv 28 (.bool true) (run_eq_k 2 .i64 _ _ _ rfl Try.underlying2 ((3 : Nat) : Int) 3 rfl rfl true (by decide) _) ?_))))))))))))
  simp only [z0, z1]
  refine mv 27 (.bool true) (wpList_nil (then_n (wp_cond_true rfl (wp_seq (wp_region_lit (mv 29 (.pointer (some ⟨rb, 0, none⟩)) ?_))))))
  simp only [z0, z1]
  obtain ⟨r2, hr2⟩ : ∃ r, rdS l i1 = r := ⟨_, rfl⟩
  have HC := rdSess rb so sc l i1 _ krb (HB.gror GG) hl
  rw [hr2] at HC
  rcases r2 with e | ⟨x2, i2⟩
  refine s_callp rfl _ 51 Try.call51 rfl rfl _ rfl [.pointer (some ⟨rb, 0, none⟩)] rfl (rd_err HC) ?_
  intro w2 G
  replace GG := GG.trans G
  refine then_p (blk_p (then_p ?_))
  refine post_p rfl ?_
  exact RdP.mk_err (by simp only [rdB3, hr2, thenR]) GG
  have sz2 := GG.size
  have ddrb2 := lt_of_heap krb
  refine s_callx 30 rfl rfl _ 51 Try.call51 rfl rfl _ rfl [.pointer (some ⟨rb, 0, none⟩)] rfl (rd_ok HC) (fun _ _ ⟨_, he, _⟩ => ⟨_, he⟩) ?_
  rintro v w2 ⟨_, he, hv, G, kn⟩
  cases he
  replace GG := GG.trans G
  replace krb := kn
  clear HC kn
  subst hv
  clear G
  refine mv 31 (.pointer (some ⟨rb, 0, none⟩)) ?_
  simp only [z0, z1]
  obtain ⟨r3, hr3⟩ : ∃ r, rdS l i2 = r := ⟨_, rfl⟩
  have HC := rdSess rb so sc l i2 _ krb (HB.gror GG) hl
  rw [hr3] at HC
  rcases r3 with e | ⟨x3, i3⟩
  refine s_callp rfl _ 51 Try.call51 rfl rfl _ rfl [.pointer (some ⟨rb, 0, none⟩)] rfl (rd_err HC) ?_
  intro w3 G
  replace GG := GG.trans G
  refine then_p (blk_p (then_p ?_))
  refine post_p rfl ?_
  exact RdP.mk_err (by simp only [rdB3, hr2, hr3, thenR]) GG
  have sz3 := GG.size
  have ddrb3 := lt_of_heap krb
  refine s_callx 32 rfl rfl _ 51 Try.call51 rfl rfl _ rfl [.pointer (some ⟨rb, 0, none⟩)] rfl (rd_ok HC) (fun _ _ ⟨_, he, _⟩ => ⟨_, he⟩) ?_
  rintro v w3 ⟨_, he, hv, G, kn⟩
  cases he
  replace GG := GG.trans G
  replace krb := kn
  clear HC kn
  subst hv
  clear G
  refine mv 33 (.pointer (some ⟨rb, 0, none⟩)) ?_
  simp only [z0, z1]
  obtain ⟨r4, hr4⟩ : ∃ r, rdN l i3 = r := ⟨_, rfl⟩
  have HC := rdNum rb so sc l i3 _ krb (HB.gror GG) hl
  rw [hr4] at HC
  rcases r4 with e | ⟨x4, i4⟩
  refine s_callp rfl _ 50 Try.call50 rfl rfl _ rfl [.pointer (some ⟨rb, 0, none⟩)] rfl (rd_err HC) ?_
  intro w4 G
  replace GG := GG.trans G
  refine then_p (blk_p (then_p ?_))
  refine post_p rfl ?_
  exact RdP.mk_err (by simp only [rdB3, hr2, hr3, hr4, thenR]) GG
  have sz4 := GG.size
  have ddrb4 := lt_of_heap krb
  refine s_callx 34 rfl rfl _ 50 Try.call50 rfl rfl _ rfl [.pointer (some ⟨rb, 0, none⟩)] rfl (rd_ok HC) (fun _ _ ⟨_, he, _⟩ => ⟨_, he⟩) ?_
  rintro v w4 ⟨_, he, hv, G, kn⟩
  cases he
  replace GG := GG.trans G
  replace krb := kn
  clear HC kn
  subst hv
  clear G
  refine sv 35 (.agg (c83 ((x2.1 : Nat) : Int) ((x2.2 : Nat) : Int) ((x3.1 : Nat) : Int) ((x3.2 : Nat) : Int) ((x4 : Nat) : Int))) (run_bd 71 _ rfl [(0, .agg (c27 ((x2.1 : Nat) : Int) ((x2.2 : Nat) : Int))), (1, .agg (c27 ((x3.1 : Nat) : Int) ((x3.2 : Nat) : Int))), (2, .int .i64 ((x4 : Nat) : Int))] rfl _ (by kernel_rfl)) (sv 36 (.iface 71 (.agg (c83 ((x2.1 : Nat) : Int) ((x2.2 : Nat) : Int) ((x3.1 : Nat) : Int) ((x3.2 : Nat) : Int) ((x4 : Nat) : Int)))) (run_mk 71 _ rfl _ rfl) ?_)
  simp only [z0, z1]
  refine mv 2 (.iface 71 (.agg (c83 ((x2.1 : Nat) : Int) ((x2.2 : Nat) : Int) ((x3.1 : Nat) : Int) ((x3.2 : Nat) : Int) ((x4 : Nat) : Int)))) (wpList_nil (then_n (wp_ret (blk_r (then_r ?_)))))
  refine bodyPost_ret (results_tmp Try.results46 _ _ _) rfl ?_
  exact RdP.mk_ok (a := (3, (⟨0, zF, 0, false, zF, zF, ((x4 : Nat) : Int), ((x2.1 : Nat) : Int), ((x2.2 : Nat) : Int), ((x3.1 : Nat) : Int), ((x3.2 : Nat) : Int), Sl.nil, Sl.nil, zF, 0, zF, Sl.nil, 0, 0, Sl.nil⟩ : Fr), (⟨[], [], [], []⟩ : FD))) (by simp only [rdB3, hr2, hr3, hr4, thenR]) GG (⟨Sl.nil, Sl.nil, Sl.nil, Sl.nil, rfl, ⟨OX.nil _ _ _ _, OX.nil _ _ _ _, OX.nil _ _ _ _, OX.nil _ _ _ _, (by intro x hx; cases hx), (by intro x hx; cases hx), (by intro x hx; cases hx)⟩, Nat.le_of_ble_eq_true rfl, Nat.le_of_ble_eq_true rfl⟩) krb
def rdB4 (l : List Nat) (i : Nat) : Except Nat ((Nat × Fr × FD) × Nat) := thenR (rdPa l i) fun x2 q => thenR (rdI l q) fun x3 q => thenR (rdI l q) fun x4 q => thenR (rdTr l q) fun x5 q => .ok ((4, (⟨0, (idF x2.1), ((x2.2 : Nat) : Int), false, (idF x3), (idF x4), 0, 0, 0, 0, 0, Sl.nil, Sl.nil, zF, 0, zF, Sl.nil, 0, 0, Sl.nil⟩ : Fr), (⟨x5, [], [], []⟩ : FD)), q)
set_option maxRecDepth 100000 in
set_option maxHeartbeats 4000000 in
theorem body_rd4 (rb : Nat) (so : Option Addr) (sc : Nat) (l : List Nat) (i : Nat) (w : World) (krb : w.heap[rb]? = some (.cells (c123 ⟨so, l.length, sc⟩ (i : Int)) 117 (0, 0))) (HB : BS rb w so sc l) (hl : l.length ≤ 140737488355000) (i1 : Nat) (hK : rdN l i = .ok (4, i1)) : Calls Try.prog 46 #[.pointer (some ⟨rb, 0, none⟩)] w (RdP rb so sc l.length w (rdB4 l i1) (BodyP w.heap.size)) := by
  refine s_enterR Try.func46 rfl Try.ntmps46 [.pointer (some ⟨rb, 0, none⟩)] ?_
  intro U h; simp only [List.length_cons, List.length_nil, List.cons_append, List.nil_append, Nat.reduceAdd, Nat.reduceSub, List.reduceReplicate] at h; subst h
  have GG := GroR.refl rb w
  have hrb := lt_of_heap krb
  refine wp_seq (wp_region_lit (mv 2 (.nilIface) (wpList_nil (then_n (wp_seq (wp_seq (wp_region_lit (mv 3 (.pointer (some ⟨rb, 0, none⟩)) ?_))))))))
  simp only [z0, z1]
  have HC := rdNum rb so sc l i _ krb (HB.gror GG) hl
  rw [hK] at HC
  refine s_callx 4 rfl rfl _ 50 Try.call50 rfl rfl _ rfl [.pointer (some ⟨rb, 0, none⟩)] rfl (rd_ok HC) (fun _ _ ⟨_, he, _⟩ => ⟨_, he⟩) ?_
  rintro v w1 ⟨_, he, hv, G, kn⟩
  cases he
  replace GG := GG.trans G
  replace krb := kn
  subst hv
  clear G HC kn
  refine wpList_nil (then_n (wp_block (wp_seq (wp_region_lit (sv 6 (.bool false) (run_eq_k 2 .i64 _ _ _ rfl Try.underlying2 ((4 : Nat) : Int) 1 rfl rfl false (by decide) _) (mv 5 (.bool false) ?_))))))
  simp only [z0, z1]
  refine wpList_nil (then_n (wp_cond_false rfl (wp_seq (wp_region_lit (sv 16 (.bool false) (run_eq_k 2 .i64 _ _ _ rfl Try.underlying2 ((4 : Nat) : Int) 2 rfl rfl false (by decide) _) (mv 15 (.bool false) (wpList_nil (then_n (wp_cond_false rfl (wp_seq (wp_region_lit (sv 28 (.bool false) (run_eq_k 2 .i64 _ _ _ rfl Try.underlying2 ((4 : Nat) : Int) 3 rfl rfl false (by decide) _) ?_))))))))))))
  simp only [z0, z1]
  refine mv 27 (.bool false) (wpList_nil (then_n (wp_cond_false rfl (wp_seq (wp_region_lit (sv 38 (.bool true) (run_eq_k 2 .i64 _ _ _ rfl Try.underlying2 ((4 : Nat) : Int) 4 rfl rfl true (by decide) _) (mv 37 (.bool true) ?_)))))))
  simp only [z0, z1]
  refine wpList_nil (then_n (wp_cond_true rfl (wp_seq (wp_region_lit (mv 39 (.pointer (some ⟨rb, 0, none⟩)) ?_)))))
  simp only [z0, z1]
  obtain ⟨r2, hr2⟩ : ∃ r, rdPa l i1 = r := ⟨_, rfl⟩
  have HC := rdPath rb so sc l i1 _ krb (HB.gror GG) hl
  rw [hr2] at HC
  rcases r2 with e | ⟨x2, i2⟩
  refine s_callp rfl _ 54 Try.call54 rfl rfl _ rfl [.pointer (some ⟨rb, 0, none⟩)] rfl (rd_err HC) ?_
  intro w2 G
  replace GG := GG.trans G
  refine then_p (blk_p (then_p ?_))
  refine post_p rfl ?_
  exact RdP.mk_err (by simp only [rdB4, hr2, thenR]) GG
  have sz2 := GG.size
  have ddrb2 := lt_of_heap krb
  refine s_callx 40 rfl rfl _ 54 Try.call54 rfl rfl _ rfl [.pointer (some ⟨rb, 0, none⟩)] rfl (rd_ok HC) (fun _ _ ⟨_, he, _⟩ => ⟨_, he⟩) ?_
  rintro v w2 ⟨_, he, hv, G, kn⟩
  cases he
  replace GG := GG.trans G
  replace krb := kn
  clear HC kn
  obtain ⟨rfl, h16x2⟩ := hv
  clear G
  refine mv 41 (.pointer (some ⟨rb, 0, none⟩)) ?_
  simp only [z0, z1]
  obtain ⟨r3, hr3⟩ : ∃ r, rdI l i2 = r := ⟨_, rfl⟩
  have HC := rdID rb so sc l i2 _ krb (HB.gror GG) hl
  rw [hr3] at HC
  rcases r3 with e | ⟨x3, i3⟩
  refine s_callp rfl _ 52 Try.call52 rfl rfl _ rfl [.pointer (some ⟨rb, 0, none⟩)] rfl (rd_err HC) ?_
  intro w3 G
  replace GG := GG.trans G
  refine then_p (blk_p (then_p ?_))
  refine post_p rfl ?_
  exact RdP.mk_err (by simp only [rdB4, hr2, hr3, thenR]) GG
  have sz3 := GG.size
  have ddrb3 := lt_of_heap krb
  refine s_callx 42 rfl rfl _ 52 Try.call52 rfl rfl _ rfl [.pointer (some ⟨rb, 0, none⟩)] rfl (rd_ok HC) (fun _ _ ⟨_, he, _⟩ => ⟨_, he⟩) ?_
  rintro v w3 ⟨_, he, hv, G, kn⟩
  cases he
  replace GG := GG.trans G
  replace krb := kn
  clear HC kn
  obtain ⟨rfl, h16x3⟩ := hv
  clear G
  refine mv 43 (.pointer (some ⟨rb, 0, none⟩)) ?_
  simp only [z0, z1]
  obtain ⟨r4, hr4⟩ : ∃ r, rdI l i3 = r := ⟨_, rfl⟩
  have HC := rdID rb so sc l i3 _ krb (HB.gror GG) hl
  rw [hr4] at HC
  rcases r4 with e | ⟨x4, i4⟩
  refine s_callp rfl _ 52 Try.call52 rfl rfl _ rfl [.pointer (some ⟨rb, 0, none⟩)] rfl (rd_err HC) ?_
  intro w4 G
  replace GG := GG.trans G
  refine then_p (blk_p (then_p ?_))
  refine post_p rfl ?_
  exact RdP.mk_err (by simp only [rdB4, hr2, hr3, hr4, thenR]) GG
  have sz4 := GG.size
  have ddrb4 := lt_of_heap krb
  refine s_callx 44 rfl rfl _ 52 Try.call52 rfl rfl _ rfl [.pointer (some ⟨rb, 0, none⟩)] rfl (rd_ok HC) (fun _ _ ⟨_, he, _⟩ => ⟨_, he⟩) ?_
  rintro v w4 ⟨_, he, hv, G, kn⟩
  cases he
  replace GG := GG.trans G
  replace krb := kn
  clear HC kn
  obtain ⟨rfl, h16x4⟩ := hv
  clear G
  refine mv 45 (.pointer (some ⟨rb, 0, none⟩)) ?_
  simp only [z0, z1]
  obtain ⟨r5, hr5⟩ : ∃ r, rdTr l i4 = r := ⟨_, rfl⟩
  have HC := rdTrail rb so sc l i4 _ krb (HB.gror GG) hl
  rw [hr5] at HC
  rcases r5 with e | ⟨x5, i5⟩
  refine s_callp rfl _ 55 Try.call55 rfl rfl _ rfl [.pointer (some ⟨rb, 0, none⟩)] rfl (rd_err HC) ?_
  intro w5 G
  replace GG := GG.trans G
  refine then_p (blk_p (then_p ?_))
  refine post_p rfl ?_
  exact RdP.mk_err (by simp only [rdB4, hr2, hr3, hr4, hr5, thenR]) GG
  have sz5 := GG.size
  have ddrb5 := lt_of_heap krb
  refine s_callx 46 rfl rfl _ 55 Try.call55 rfl rfl _ rfl [.pointer (some ⟨rb, 0, none⟩)] rfl (rd_ok HC) (fun _ _ ⟨_, he, _⟩ => ⟨_, he⟩) ?_
  rintro v w5 ⟨_, he, hv, G, kn⟩
  cases he
  replace GG := GG.trans G
  replace krb := kn
  clear HC kn
  obtain ⟨ao5, cap5, rfl, o5⟩ := hv
  clear G
  refine sv 47 (.agg (c85 (idF x2.1) ((x2.2 : Nat) : Int) (idF x3) (idF x4) ⟨ao5, x5.length, cap5⟩)) (run_bd 73 _ rfl [(0, .agg (c25 (idF x2.1) ((x2.2 : Nat) : Int))), (1, .agg (c23 (idF x3))), (2, .agg (c23 (idF x4))), (3, .slice ao5 x5.length cap5)] rfl _ (by kernel_rfl)) (sv 48 (.iface 73 (.agg (c85 (idF x2.1) ((x2.2 : Nat) : Int) (idF x3) (idF x4) ⟨ao5, x5.length, cap5⟩))) (run_mk 73 _ rfl _ rfl) ?_)
  simp only [z0, z1]
  refine mv 2 (.iface 73 (.agg (c85 (idF x2.1) ((x2.2 : Nat) : Int) (idF x3) (idF x4) ⟨ao5, x5.length, cap5⟩))) (wpList_nil (then_n (wp_ret (blk_r (then_r ?_)))))
  refine bodyPost_ret (results_tmp Try.results46 _ _ _) rfl ?_
  exact RdP.mk_ok (a := (4, (⟨0, (idF x2.1), ((x2.2 : Nat) : Int), false, (idF x3), (idF x4), 0, 0, 0, 0, 0, Sl.nil, Sl.nil, zF, 0, zF, Sl.nil, 0, 0, Sl.nil⟩ : Fr), (⟨x5, [], [], []⟩ : FD))) (by simp only [rdB4, hr2, hr3, hr4, hr5, thenR]) GG (⟨⟨ao5, x5.length, cap5⟩, Sl.nil, Sl.nil, Sl.nil, rfl, ⟨o5.mono sz5, OX.nil _ _ _ _, OX.nil _ _ _ _, OX.nil _ _ _ _, (by intro x hx; cases hx), (by intro x hx; cases hx), (by intro x hx; cases hx)⟩, Nat.le_of_ble_eq_true rfl, Nat.le_of_ble_eq_true rfl⟩) krb
def rdB5 (l : List Nat) (i : Nat) : Except Nat ((Nat × Fr × FD) × Nat) := thenR (rdPa l i) fun x2 q => .ok ((5, (⟨0, (idF x2.1), ((x2.2 : Nat) : Int), false, zF, zF, 0, 0, 0, 0, 0, Sl.nil, Sl.nil, zF, 0, zF, Sl.nil, 0, 0, Sl.nil⟩ : Fr), (⟨[], [], [], []⟩ : FD)), q)
set_option maxRecDepth 100000 in
set_option maxHeartbeats 4000000 in
theorem body_rd5 (rb : Nat) (so : Option Addr) (sc : Nat) (l : List Nat) (i : Nat) (w : World) (krb : w.heap[rb]? = some (.cells (c123 ⟨so, l.length, sc⟩ (i : Int)) 117 (0, 0))) (HB : BS rb w so sc l) (hl : l.length ≤ 140737488355000) (i1 : Nat) (hK : rdN l i = .ok (5, i1)) : Calls Try.prog 46 #[.pointer (some ⟨rb, 0, none⟩)] w (RdP rb so sc l.length w (rdB5 l i1) (BodyP w.heap.size)) := by
  refine s_enterR Try.func46 rfl Try.ntmps46 [.pointer (some ⟨rb, 0, none⟩)] ?_
  intro U h; simp only [List.length_cons, List.length_nil, List.cons_append, List.nil_append, Nat.reduceAdd, Nat.reduceSub, List.reduceReplicate] at h; subst h
  have GG := GroR.refl rb w
  have hrb := lt_of_heap krb
  refine wp_seq (wp_region_lit (mv 2 (.nilIface) (wpList_nil (then_n (wp_seq (wp_seq (wp_region_lit (mv 3 (.pointer (some ⟨rb, 0, none⟩)) ?_))))))))
  simp only [z0, z1]
  have HC := rdNum rb so sc l i _ krb (HB.gror GG) hl
  rw [hK] at HC
  refine s_callx 4 rfl rfl _ 50 Try.call50 rfl rfl _ rfl [.pointer (some ⟨rb, 0, none⟩)] rfl (rd_ok HC) (fun _ _ ⟨_, he, _⟩ => ⟨_, he⟩) ?_
  rintro v w1 ⟨_, he, hv, G, kn⟩
  cases he
  replace GG := GG.trans G
  replace krb := kn
  subst hv
  clear G HC kn
  refine wpList_nil (then_n (wp_block (wp_seq (wp_region_lit (sv 6 (.bool false) (run_eq_k 2 .i64 _ _ _ rfl Try.underlying2 ((5 : Nat) : Int) 1 rfl rfl false (by decide) _) (mv 5 (.bool false) ?_))))))
  simp only [z0, z1]
  refine wpList_nil (then_n (wp_cond_false rfl (wp_seq (wp_region_lit (sv 16 (.bool false) (run_eq_k 2 .i64 _ _ _ rfl Try.underlying2 ((5 : Nat) : Int) 2 rfl rfl false (by decide) _) (mv 15 (.bool false) (wpList_nil (then_n (wp_cond_false rfl (wp_seq (wp_region_lit (sv 28 (.bool false) (run_eq_k 2 .i64 _ _ _ rfl Try.underlying2 ((5 : Nat) : Int) 3 rfl rfl false (by decide) _) ?_))))))))))))
  simp only [z0, z1]
  refine mv 27 (.bool false) (wpList_nil (then_n (wp_cond_false rfl (wp_seq (wp_region_lit (sv 38 (.bool false) (run_eq_k 2 .i64 _ _ _ rfl Try.underlying2 ((5 : Nat) : Int) 4 rfl rfl false (by decide) _) (mv 37 (.bool false) ?_)))))))
  simp only [z0, z1]
  refine wpList_nil (then_n (wp_cond_false rfl (wp_seq (wp_region_lit (sv 50 (.bool true) (run_eq_k 2 .i64 _ _ _ rfl Try.underlying2 ((5 : Nat) : Int) 5 rfl rfl true (by decide) _) (mv 49 (.bool true) (wpList_nil (then_n (wp_cond_true rfl (wp_seq (wp_region_lit (mv 51 (.pointer (some ⟨rb, 0, none⟩)) ?_))))))))))))
  simp only [z0, z1]
  obtain ⟨r2, hr2⟩ : ∃ r, rdPa l i1 = r := ⟨_, rfl⟩
  have HC := rdPath rb so sc l i1 _ krb (HB.gror GG) hl
  rw [hr2] at HC
  rcases r2 with e | ⟨x2, i2⟩
  refine s_callp rfl _ 54 Try.call54 rfl rfl _ rfl [.pointer (some ⟨rb, 0, none⟩)] rfl (rd_err HC) ?_
  intro w2 G
  replace GG := GG.trans G
  refine then_p (blk_p (then_p ?_))
  refine post_p rfl ?_
  exact RdP.mk_err (by simp only [rdB5, hr2, thenR]) GG
  have sz2 := GG.size
  have ddrb2 := lt_of_heap krb
  refine s_callx 52 rfl rfl _ 54 Try.call54 rfl rfl _ rfl [.pointer (some ⟨rb, 0, none⟩)] rfl (rd_ok HC) (fun _ _ ⟨_, he, _⟩ => ⟨_, he⟩) ?_
  rintro v w2 ⟨_, he, hv, G, kn⟩
  cases he
  replace GG := GG.trans G
  replace krb := kn
  clear HC kn
  obtain ⟨rfl, h16x2⟩ := hv
  clear G
  refine sv 53 (.agg (c87 (idF x2.1) ((x2.2 : Nat) : Int))) (run_bd 75 _ rfl [(0, .agg (c25 (idF x2.1) ((x2.2 : Nat) : Int)))] rfl _ (by kernel_rfl)) (sv 54 (.iface 75 (.agg (c87 (idF x2.1) ((x2.2 : Nat) : Int)))) (run_mk 75 _ rfl _ rfl) ?_)
  simp only [z0, z1]
  refine mv 2 (.iface 75 (.agg (c87 (idF x2.1) ((x2.2 : Nat) : Int)))) (wpList_nil (then_n (wp_ret (blk_r (then_r ?_)))))
  refine bodyPost_ret (results_tmp Try.results46 _ _ _) rfl ?_
  exact RdP.mk_ok (a := (5, (⟨0, (idF x2.1), ((x2.2 : Nat) : Int), false, zF, zF, 0, 0, 0, 0, 0, Sl.nil, Sl.nil, zF, 0, zF, Sl.nil, 0, 0, Sl.nil⟩ : Fr), (⟨[], [], [], []⟩ : FD))) (by simp only [rdB5, hr2, thenR]) GG (⟨Sl.nil, Sl.nil, Sl.nil, Sl.nil, rfl, ⟨OX.nil _ _ _ _, OX.nil _ _ _ _, OX.nil _ _ _ _, OX.nil _ _ _ _, (by intro x hx; cases hx), (by intro x hx; cases hx), (by intro x hx; cases hx)⟩, Nat.le_of_ble_eq_true rfl, Nat.le_of_ble_eq_true rfl⟩) krb
def rdB6 (l : List Nat) (i : Nat) : Except Nat ((Nat × Fr × FD) × Nat) := thenR (rdPa l i) fun x2 q => thenR (rdF l q) fun x3 q => .ok ((6, (⟨0, (idF x2.1), ((x2.2 : Nat) : Int), x3, zF, zF, 0, 0, 0, 0, 0, Sl.nil, Sl.nil, zF, 0, zF, Sl.nil, 0, 0, Sl.nil⟩ : Fr), (⟨[], [], [], []⟩ : FD)), q)
set_option maxRecDepth 100000 in
set_option maxHeartbeats 4000000 in
theorem body_rd6 (rb : Nat) (so : Option Addr) (sc : Nat) (l : List Nat) (i : Nat) (w : World) (krb : w.heap[rb]? = some (.cells (c123 ⟨so, l.length, sc⟩ (i : Int)) 117 (0, 0))) (HB : BS rb w so sc l) (hl : l.length ≤ 140737488355000) (i1 : Nat) (hK : rdN l i = .ok (6, i1)) : Calls Try.prog 46 #[.pointer (some ⟨rb, 0, none⟩)] w (RdP rb so sc l.length w (rdB6 l i1) (BodyP w.heap.size)) := by
  refine s_enterR Try.func46 rfl Try.ntmps46 [.pointer (some ⟨rb, 0, none⟩)] ?_
  intro U h; simp only [List.length_cons, List.length_nil, List.cons_append, List.nil_append, Nat.reduceAdd, Nat.reduceSub, List.reduceReplicate] at h; subst h
  have GG := GroR.refl rb w
  have hrb := lt_of_heap krb
  refine wp_seq (wp_region_lit (mv 2 (.nilIface) (wpList_nil (then_n (wp_seq (wp_seq (wp_region_lit (mv 3 (.pointer (some ⟨rb, 0, none⟩)) ?_))))))))
  simp only [z0, z1]
  have HC := rdNum rb so sc l i _ krb (HB.gror GG) hl
  rw [hK] at HC
  refine s_callx 4 rfl rfl _ 50 Try.call50 rfl rfl _ rfl [.pointer (some ⟨rb, 0, none⟩)] rfl (rd_ok HC) (fun _ _ ⟨_, he, _⟩ => ⟨_, he⟩) ?_
  rintro v w1 ⟨_, he, hv, G, kn⟩
  cases he
  replace GG := GG.trans G
  replace krb := kn
  subst hv
  clear G HC kn
  refine wpList_nil (then_n (wp_block (wp_seq (wp_region_lit (sv 6 (.bool false) (run_eq_k 2 .i64 _ _ _ rfl Try.underlying2 ((6 : Nat) : Int) 1 rfl rfl false (by decide) _) (mv 5 (.bool false) ?_))))))
  simp only [z0, z1]
  refine wpList_nil (then_n (wp_cond_false rfl (wp_seq (wp_region_lit (sv 16 (.bool false) (run_eq_k 2 .i64 _ _ _ rfl Try.underlying2 ((6 : Nat) : Int) 2 rfl rfl false (by decide) _) (mv 15 (.bool false) (wpList_nil (then_n (wp_cond_false rfl (wp_seq (wp_region_lit (sv 28 (.bool false) (run_eq_k 2 .i64 _ _ _ rfl Try.underlying2 ((6 : Nat) : Int) 3 rfl rfl false (by decide) _) ?_))))))))))))
  simp only [z0, z1]
  refine mv 27 (.bool false) (wpList_nil (then_n (wp_cond_false rfl (wp_seq (wp_region_lit (sv 38 (.bool false) (run_eq_k 2 .i64 _ _ _ rfl Try.underlying2 ((6 : Nat) : Int) 4 rfl rfl false (by decide) _) (mv 37 (.bool false) ?_)))))))
  simp only [z0, z1]
  refine wpList_nil (then_n (wp_cond_false rfl (wp_seq (wp_region_lit (sv 50 (.bool false) (run_eq_k 2 .i64 _ _ _ rfl Try.underlying2 ((6 : Nat) : Int) 5 rfl rfl false (by decide) _) (mv 49 (.bool false) (wpList_nil (then_n (wp_cond_false rfl (wp_seq (wp_region_lit (sv 56 (.bool true) (run_eq_k 2 .i64 _ _ _ rfl Try.underlying2 ((6 : Nat) : Int) 6 rfl rfl true (by decide) _) ?_))))))))))))
  simp only [z0, z1]
  refine mv 55 (.bool true) (wpList_nil (then_n (wp_cond_true rfl (wp_seq (wp_region_lit (mv 57 (.pointer (some ⟨rb, 0, none⟩)) ?_))))))
  simp only [z0, z1]
  obtain ⟨r2, hr2⟩ : ∃ r, rdPa l i1 = r := ⟨_, rfl⟩
  have HC := rdPath rb so sc l i1 _ krb (HB.gror GG) hl
  rw [hr2] at HC
  rcases r2 with e | ⟨x2, i2⟩
  refine s_callp rfl _ 54 Try.call54 rfl rfl _ rfl [.pointer (some ⟨rb, 0, none⟩)] rfl (rd_err HC) ?_
  intro w2 G
  replace GG := GG.trans G
  refine then_p (blk_p (then_p ?_))
  refine post_p rfl ?_
  exact RdP.mk_err (by simp only [rdB6, hr2, thenR]) GG
  have sz2 := GG.size
  have ddrb2 := lt_of_heap krb
  refine s_callx 58 rfl rfl _ 54 Try.call54 rfl rfl _ rfl [.pointer (some ⟨rb, 0, none⟩)] rfl (rd_ok HC) (fun _ _ ⟨_, he, _⟩ => ⟨_, he⟩) ?_
  rintro v w2 ⟨_, he, hv, G, kn⟩
  cases he
  replace GG := GG.trans G
  replace krb := kn
  clear HC kn
  obtain ⟨rfl, h16x2⟩ := hv
  clear G
  refine mv 59 (.pointer (some ⟨rb, 0, none⟩)) ?_
  simp only [z0, z1]
  obtain ⟨r3, hr3⟩ : ∃ r, rdF l i2 = r := ⟨_, rfl⟩
  have HC := rdFlag rb so sc l i2 _ krb (HB.gror GG) hl
  rw [hr3] at HC
  rcases r3 with e | ⟨x3, i3⟩
  refine s_callp rfl _ 56 Try.call56 rfl rfl _ rfl [.pointer (some ⟨rb, 0, none⟩)] rfl (rd_err HC) ?_
  intro w3 G
  replace GG := GG.trans G
  refine then_p (blk_p (then_p ?_))
  refine post_p rfl ?_
  exact RdP.mk_err (by simp only [rdB6, hr2, hr3, thenR]) GG
  have sz3 := GG.size
  have ddrb3 := lt_of_heap krb
  refine s_callx 60 rfl rfl _ 56 Try.call56 rfl rfl _ rfl [.pointer (some ⟨rb, 0, none⟩)] rfl (rd_ok HC) (fun _ _ ⟨_, he, _⟩ => ⟨_, he⟩) ?_
  rintro v w3 ⟨_, he, hv, G, kn⟩
  cases he
  replace GG := GG.trans G
  replace krb := kn
  clear HC kn
  subst hv
  clear G
  refine sv 61 (.agg (c89 (idF x2.1) ((x2.2 : Nat) : Int) x3)) (run_bd 77 _ rfl [(0, .agg (c25 (idF x2.1) ((x2.2 : Nat) : Int))), (1, .bool x3)] rfl _ (by kernel_rfl)) (sv 62 (.iface 77 (.agg (c89 (idF x2.1) ((x2.2 : Nat) : Int) x3))) (run_mk 77 _ rfl _ rfl) ?_)
  simp only [z0, z1]
  refine mv 2 (.iface 77 (.agg (c89 (idF x2.1) ((x2.2 : Nat) : Int) x3))) (wpList_nil (then_n (wp_ret (blk_r (then_r ?_)))))
  refine bodyPost_ret (results_tmp Try.results46 _ _ _) rfl ?_
  exact RdP.mk_ok (a := (6, (⟨0, (idF x2.1), ((x2.2 : Nat) : Int), x3, zF, zF, 0, 0, 0, 0, 0, Sl.nil, Sl.nil, zF, 0, zF, Sl.nil, 0, 0, Sl.nil⟩ : Fr), (⟨[], [], [], []⟩ : FD))) (by simp only [rdB6, hr2, hr3, thenR]) GG (⟨Sl.nil, Sl.nil, Sl.nil, Sl.nil, rfl, ⟨OX.nil _ _ _ _, OX.nil _ _ _ _, OX.nil _ _ _ _, OX.nil _ _ _ _, (by intro x hx; cases hx), (by intro x hx; cases hx), (by intro x hx; cases hx)⟩, Nat.le_of_ble_eq_true rfl, Nat.le_of_ble_eq_true rfl⟩) krb
def rdB7 (l : List Nat) (i : Nat) : Except Nat ((Nat × Fr × FD) × Nat) := thenR (rdPa l i) fun x2 q => thenR (rdF l q) fun x3 q => thenR (rdIs l q) fun x4 q => .ok ((7, (⟨0, (idF x2.1), ((x2.2 : Nat) : Int), x3, zF, zF, 0, 0, 0, 0, 0, Sl.nil, Sl.nil, zF, 0, zF, Sl.nil, 0, 0, Sl.nil⟩ : Fr), (⟨[], x4, [], []⟩ : FD)), q)
set_option maxRecDepth 100000 in
set_option maxHeartbeats 4000000 in
theorem body_rd7 (rb : Nat) (so : Option Addr) (sc : Nat) (l : List Nat) (i : Nat) (w : World) (krb : w.heap[rb]? = some (.cells (c123 ⟨so, l.length, sc⟩ (i : Int)) 117 (0, 0))) (HB : BS rb w so sc l) (hl : l.length ≤ 140737488355000) (i1 : Nat) (hK : rdN l i = .ok (7, i1)) : Calls Try.prog 46 #[.pointer (some ⟨rb, 0, none⟩)] w (RdP rb so sc l.length w (rdB7 l i1) (BodyP w.heap.size)) := by
  refine s_enterR Try.func46 rfl Try.ntmps46 [.pointer (some ⟨rb, 0, none⟩)] ?_
  intro U h; simp only [List.length_cons, List.length_nil, List.cons_append, List.nil_append, Nat.reduceAdd, Nat.reduceSub, List.reduceReplicate] at h; subst h
  have GG := GroR.refl rb w
  have hrb := lt_of_heap krb
  refine wp_seq (wp_region_lit (mv 2 (.nilIface) (wpList_nil (then_n (wp_seq (wp_seq (wp_region_lit (mv 3 (.pointer (some ⟨rb, 0, none⟩)) ?_))))))))
  simp only [z0, z1]
  have HC := rdNum rb so sc l i _ krb (HB.gror GG) hl
  rw [hK] at HC
  refine s_callx 4 rfl rfl _ 50 Try.call50 rfl rfl _ rfl [.pointer (some ⟨rb, 0, none⟩)] rfl (rd_ok HC) (fun _ _ ⟨_, he, _⟩ => ⟨_, he⟩) ?_
  rintro v w1 ⟨_, he, hv, G, kn⟩
  cases he
  replace GG := GG.trans G
  replace krb := kn
  subst hv
  clear G HC kn
  refine wpList_nil (then_n (wp_block (wp_seq (wp_region_lit (sv 6 (.bool false) (run_eq_k 2 .i64 _ _ _ rfl Try.underlying2 ((7 : Nat) : Int) 1 rfl rfl false (by decide) _) (mv 5 (.bool false) ?_))))))
  simp only [z0, z1]
  refine wpList_nil (then_n (wp_cond_false rfl (wp_seq (wp_region_lit (sv 16 (.bool false) (run_eq_k 2 .i64 _ _ _ rfl Try.underlying2 ((7 : Nat) : Int) 2 rfl rfl false (by decide) _) (mv 15 (.bool false) (wpList_nil (then_n (wp_cond_false rfl (wp_seq (wp_region_lit (sv 28 (.bool false) (run_eq_k 2 .i64 _ _ _ rfl Try.underlying2 ((7 : Nat) : Int) 3 rfl rfl false (by decide) _) ?_))))))))))))
  simp only [z0, z1]
  refine mv 27 (.bool false) (wpList_nil (then_n (wp_cond_false rfl (wp_seq (wp_region_lit (sv 38 (.bool false) (run_eq_k 2 .i64 _ _ _ rfl Try.underlying2 ((7 : Nat) : Int) 4 rfl rfl false (by decide) _) (mv 37 (.bool false) ?_)))))))
  simp only [z0, z1]
  refine wpList_nil (then_n (wp_cond_false rfl (wp_seq (wp_region_lit (sv 50 (.bool false) (run_eq_k 2 .i64 _ _ _ rfl Try.underlying2 ((7 : Nat) : Int) 5 rfl rfl false (by decide) _) (mv 49 (.bool false) (wpList_nil (then_n (wp_cond_false rfl (wp_seq (wp_region_lit (sv 56 (.bool false) (run_eq_k 2 .i64 _ _ _ rfl Try.underlying2 ((7 : Nat) : Int) 6 rfl rfl false (by decide) _) ?_))))))))))))
  simp only [z0, z1]
  refine mv 55 (.bool false) (wpList_nil (then_n (wp_cond_false rfl (wp_seq (wp_region_lit (sv 64 (.bool true) (run_eq_k 2 .i64 _ _ _ rfl Try.underlying2 ((7 : Nat) : Int) 7 rfl rfl true (by decide) _) (mv 63 (.bool true) ?_)))))))
  simp only [z0, z1]
  refine wpList_nil (then_n (wp_cond_true rfl (wp_seq (wp_region_lit (mv 65 (.pointer (some ⟨rb, 0, none⟩)) ?_)))))
  simp only [z0, z1]
  obtain ⟨r2, hr2⟩ : ∃ r, rdPa l i1 = r := ⟨_, rfl⟩
  have HC := rdPath rb so sc l i1 _ krb (HB.gror GG) hl
  rw [hr2] at HC
  rcases r2 with e | ⟨x2, i2⟩
  refine s_callp rfl _ 54 Try.call54 rfl rfl _ rfl [.pointer (some ⟨rb, 0, none⟩)] rfl (rd_err HC) ?_
  intro w2 G
  replace GG := GG.trans G
  refine then_p (blk_p (then_p ?_))
  refine post_p rfl ?_
  exact RdP.mk_err (by simp only [rdB7, hr2, thenR]) GG
  have sz2 := GG.size
  have ddrb2 := lt_of_heap krb
  refine s_callx 66 rfl rfl _ 54 Try.call54 rfl rfl _ rfl [.pointer (some ⟨rb, 0, none⟩)] rfl (rd_ok HC) (fun _ _ ⟨_, he, _⟩ => ⟨_, he⟩) ?_
  rintro v w2 ⟨_, he, hv, G, kn⟩
  cases he
  replace GG := GG.trans G
  replace krb := kn
  clear HC kn
  obtain ⟨rfl, h16x2⟩ := hv
  clear G
  refine mv 67 (.pointer (some ⟨rb, 0, none⟩)) ?_
  simp only [z0, z1]
  obtain ⟨r3, hr3⟩ : ∃ r, rdF l i2 = r := ⟨_, rfl⟩
  have HC := rdFlag rb so sc l i2 _ krb (HB.gror GG) hl
  rw [hr3] at HC
  rcases r3 with e | ⟨x3, i3⟩
  refine s_callp rfl _ 56 Try.call56 rfl rfl _ rfl [.pointer (some ⟨rb, 0, none⟩)] rfl (rd_err HC) ?_
  intro w3 G
  replace GG := GG.trans G
  refine then_p (blk_p (then_p ?_))
  refine post_p rfl ?_
  exact RdP.mk_err (by simp only [rdB7, hr2, hr3, thenR]) GG
  have sz3 := GG.size
  have ddrb3 := lt_of_heap krb
  refine s_callx 68 rfl rfl _ 56 Try.call56 rfl rfl _ rfl [.pointer (some ⟨rb, 0, none⟩)] rfl (rd_ok HC) (fun _ _ ⟨_, he, _⟩ => ⟨_, he⟩) ?_
  rintro v w3 ⟨_, he, hv, G, kn⟩
  cases he
  replace GG := GG.trans G
  replace krb := kn
  clear HC kn
  subst hv
  clear G
  refine mv 69 (.pointer (some ⟨rb, 0, none⟩)) ?_
  simp only [z0, z1]
  obtain ⟨r4, hr4⟩ : ∃ r, rdIs l i3 = r := ⟨_, rfl⟩
  have HC := rdIDs rb so sc l i3 _ krb (HB.gror GG) hl
  rw [hr4] at HC
  rcases r4 with e | ⟨x4, i4⟩
  refine s_callp rfl _ 57 Try.call57 rfl rfl _ rfl [.pointer (some ⟨rb, 0, none⟩)] rfl (rd_err HC) ?_
  intro w4 G
  replace GG := GG.trans G
  refine then_p (blk_p (then_p ?_))
  refine post_p rfl ?_
  exact RdP.mk_err (by simp only [rdB7, hr2, hr3, hr4, thenR]) GG
  have sz4 := GG.size
  have ddrb4 := lt_of_heap krb
  refine s_callx 70 rfl rfl _ 57 Try.call57 rfl rfl _ rfl [.pointer (some ⟨rb, 0, none⟩)] rfl (rd_ok HC) (fun _ _ ⟨_, he, _⟩ => ⟨_, he⟩) ?_
  rintro v w4 ⟨_, he, hv, G, kn⟩
  cases he
  replace GG := GG.trans G
  replace krb := kn
  clear HC kn
  obtain ⟨⟨ao4, cap4, rfl, o4⟩, h16x4⟩ := hv
  clear G
  refine sv 71 (.agg (c91 (idF x2.1) ((x2.2 : Nat) : Int) x3 ⟨ao4, x4.length, cap4⟩)) (run_bd 79 _ rfl [(0, .agg (c25 (idF x2.1) ((x2.2 : Nat) : Int))), (1, .bool x3), (2, .slice ao4 x4.length cap4)] rfl _ (by kernel_rfl)) (sv 72 (.iface 79 (.agg (c91 (idF x2.1) ((x2.2 : Nat) : Int) x3 ⟨ao4, x4.length, cap4⟩))) (run_mk 79 _ rfl _ rfl) ?_)
  simp only [z0, z1]
  refine mv 2 (.iface 79 (.agg (c91 (idF x2.1) ((x2.2 : Nat) : Int) x3 ⟨ao4, x4.length, cap4⟩))) (wpList_nil (then_n (wp_ret (blk_r (then_r ?_)))))
  refine bodyPost_ret (results_tmp Try.results46 _ _ _) rfl ?_
  exact RdP.mk_ok (a := (7, (⟨0, (idF x2.1), ((x2.2 : Nat) : Int), x3, zF, zF, 0, 0, 0, 0, 0, Sl.nil, Sl.nil, zF, 0, zF, Sl.nil, 0, 0, Sl.nil⟩ : Fr), (⟨[], x4, [], []⟩ : FD))) (by simp only [rdB7, hr2, hr3, hr4, thenR]) GG (⟨Sl.nil, ⟨ao4, x4.length, cap4⟩, Sl.nil, Sl.nil, rfl, ⟨OX.nil _ _ _ _, o4.mono sz4, OX.nil _ _ _ _, OX.nil _ _ _ _, rdIs_ok HB.nc.lt256 hr4, (by intro x hx; cases hx), (by intro x hx; cases hx)⟩, Nat.le_of_ble_eq_true rfl, Nat.le_of_ble_eq_true rfl⟩) krb
def rdB8 (l : List Nat) (i : Nat) : Except Nat ((Nat × Fr × FD) × Nat) := thenR (rdI l i) fun x2 q => thenR (rdI l q) fun x3 q => thenR (rdW l q 0 3) fun x4 q => thenR (rdPa l q) fun x5 q => thenR (rdF l q) fun x6 q => thenR (rdTr l q) fun x7 q => .ok ((8, (⟨0, (idF x5.1), ((x5.2 : Nat) : Int), x6, (idF x2), (idF x3), 0, 0, 0, 0, 0, Sl.nil, Sl.nil, zF, 0, zF, Sl.nil, ((x4 : Nat) : Int), 0, Sl.nil⟩ : Fr), (⟨x7, [], [], []⟩ : FD)), q)
set_option maxRecDepth 100000 in
set_option maxHeartbeats 4000000 in
theorem body_rd8 (rb : Nat) (so : Option Addr) (sc : Nat) (l : List Nat) (i : Nat) (w : World) (krb : w.heap[rb]? = some (.cells (c123 ⟨so, l.length, sc⟩ (i : Int)) 117 (0, 0))) (HB : BS rb w so sc l) (hl : l.length ≤ 140737488355000) (i1 : Nat) (hK : rdN l i = .ok (8, i1)) : Calls Try.prog 46 #[.pointer (some ⟨rb, 0, none⟩)] w (RdP rb so sc l.length w (rdB8 l i1) (BodyP w.heap.size)) := by
  refine s_enterR Try.func46 rfl Try.ntmps46 [.pointer (some ⟨rb, 0, none⟩)] ?_
  intro U h; simp only [List.length_cons, List.length_nil, List.cons_append, List.nil_append, Nat.reduceAdd, Nat.reduceSub, List.reduceReplicate] at h; subst h
  have GG := GroR.refl rb w
  have hrb := lt_of_heap krb
  refine wp_seq (wp_region_lit (mv 2 (.nilIface) (wpList_nil (then_n (wp_seq (wp_seq (wp_region_lit (mv 3 (.pointer (some ⟨rb, 0, none⟩)) ?_))))))))
  simp only [z0, z1]
  have HC := rdNum rb so sc l i _ krb (HB.gror GG) hl
  rw [hK] at HC
  refine s_callx 4 rfl rfl _ 50 Try.call50 rfl rfl _ rfl [.pointer (some ⟨rb, 0, none⟩)] rfl (rd_ok HC) (fun _ _ ⟨_, he, _⟩ => ⟨_, he⟩) ?_
  rintro v w1 ⟨_, he, hv, G, kn⟩
  cases he
  replace GG := GG.trans G
  replace krb := kn
  subst hv
  clear G HC kn
  refine wpList_nil (then_n (wp_block (wp_seq (wp_region_lit (sv 6 (.bool false) (run_eq_k 2 .i64 _ _ _ rfl Try.underlying2 ((8 : Nat) : Int) 1 rfl rfl false (by decide) _) (mv 5 (.bool false) ?_))))))
  simp only [z0, z1]
  refine wpList_nil (then_n (wp_cond_false rfl (wp_seq (wp_region_lit (sv 16 (.bool false) (run_eq_k 2 .i64 _ _ _ rfl Try.underlying2 ((8 : Nat) : Int) 2 rfl rfl false (by decide) _) (mv 15 (.bool false) (wpList_nil (then_n (wp_cond_false rfl (wp_seq (wp_region_lit (sv 28 (.bool false) (run_eq_k 2 .i64 _ _ _ rfl Try.underlying2 ((8 : Nat) : Int) 3 rfl rfl false (by decide) _) ?_))))))))))))
  simp only [z0, z1]
  refine mv 27 (.bool false) (wpList_nil (then_n (wp_cond_false rfl (wp_seq (wp_region_lit (sv 38 (.bool false) (run_eq_k 2 .i64 _ _ _ rfl Try.underlying2 ((8 : Nat) : Int) 4 rfl rfl false (by decide) _) (mv 37 (.bool false) ?_)))))))
  simp only [z0, z1]
  refine wpList_nil (then_n (wp_cond_false rfl (wp_seq (wp_region_lit (sv 50 (.bool false) (run_eq_k 2 .i64 _ _ _ rfl Try.underlying2 ((8 : Nat) : Int) 5 rfl rfl false (by decide) _) (mv 49 (.bool false) (wpList_nil (then_n (wp_cond_false rfl (wp_seq (wp_region_lit (sv 56 (.bool false) (run_eq_k 2 .i64 _ _ _ rfl Try.underlying2 ((8 : Nat) : Int) 6 rfl rfl false (by decide) _) ?_))))))))))))
  simp only [z0, z1]
  refine mv 55 (.bool false) (wpList_nil (then_n (wp_cond_false rfl (wp_seq (wp_region_lit (sv 64 (.bool false) (run_eq_k 2 .i64 _ _ _ rfl Try.underlying2 ((8 : Nat) : Int) 7 rfl rfl false (by decide) _) (mv 63 (.bool false) ?_)))))))
  simp only [z0, z1]
  refine wpList_nil (then_n (wp_cond_false rfl (wp_seq (wp_region_lit (sv 74 (.bool true) (run_eq_k 2 .i64 _ _ _ rfl Try.underlying2 ((8 : Nat) : Int) 8 rfl rfl true (by decide) _) (mv 73 (.bool true) (wpList_nil (then_n (wp_cond_true rfl (wp_seq (wp_region_lit (mv 75 (.pointer (some ⟨rb, 0, none⟩)) ?_))))))))))))
  simp only [z0, z1]
  obtain ⟨r2, hr2⟩ : ∃ r, rdI l i1 = r := ⟨_, rfl⟩
  have HC := rdID rb so sc l i1 _ krb (HB.gror GG) hl
  rw [hr2] at HC
  rcases r2 with e | ⟨x2, i2⟩
  refine s_callp rfl _ 52 Try.call52 rfl rfl _ rfl [.pointer (some ⟨rb, 0, none⟩)] rfl (rd_err HC) ?_
  intro w2 G
  replace GG := GG.trans G
  refine then_p (blk_p (then_p ?_))
  refine post_p rfl ?_
  exact RdP.mk_err (by simp only [rdB8, hr2, thenR]) GG
  have sz2 := GG.size
  have ddrb2 := lt_of_heap krb
  refine s_callx 76 rfl rfl _ 52 Try.call52 rfl rfl _ rfl [.pointer (some ⟨rb, 0, none⟩)] rfl (rd_ok HC) (fun _ _ ⟨_, he, _⟩ => ⟨_, he⟩) ?_
  rintro v w2 ⟨_, he, hv, G, kn⟩
  cases he
  replace GG := GG.trans G
  replace krb := kn
  clear HC kn
  obtain ⟨rfl, h16x2⟩ := hv
  clear G
  refine mv 77 (.pointer (some ⟨rb, 0, none⟩)) ?_
  simp only [z0, z1]
  obtain ⟨r3, hr3⟩ : ∃ r, rdI l i2 = r := ⟨_, rfl⟩
  have HC := rdID rb so sc l i2 _ krb (HB.gror GG) hl
  rw [hr3] at HC
  rcases r3 with e | ⟨x3, i3⟩
  refine s_callp rfl _ 52 Try.call52 rfl rfl _ rfl [.pointer (some ⟨rb, 0, none⟩)] rfl (rd_err HC) ?_
  intro w3 G
  replace GG := GG.trans G
  refine then_p (blk_p (then_p ?_))
  refine post_p rfl ?_
  exact RdP.mk_err (by simp only [rdB8, hr2, hr3, thenR]) GG
  have sz3 := GG.size
  have ddrb3 := lt_of_heap krb
  refine s_callx 78 rfl rfl _ 52 Try.call52 rfl rfl _ rfl [.pointer (some ⟨rb, 0, none⟩)] rfl (rd_ok HC) (fun _ _ ⟨_, he, _⟩ => ⟨_, he⟩) ?_
  rintro v w3 ⟨_, he, hv, G, kn⟩
  cases he
  replace GG := GG.trans G
  replace krb := kn
  clear HC kn
  obtain ⟨rfl, h16x3⟩ := hv
  clear G
  refine mv 79 (.pointer (some ⟨rb, 0, none⟩)) ?_
  simp only [z0, z1]
  obtain ⟨r4, hr4⟩ : ∃ r, rdW l i3 0 3 = r := ⟨_, rfl⟩
  have HC := rdWith rb so sc l i3 0 3 _ krb (HB.gror GG) hl
  rw [hr4] at HC
  rcases r4 with e | ⟨x4, i4⟩
  refine s_callp rfl _ 58 Try.call58 rfl rfl _ rfl [.pointer (some ⟨rb, 0, none⟩), .int .i64 0, .int .i64 3] rfl (rd_err HC) ?_
  intro w4 G
  replace GG := GG.trans G
  refine then_p (blk_p (then_p ?_))
  refine post_p rfl ?_
  exact RdP.mk_err (by simp only [rdB8, hr2, hr3, hr4, thenR]) GG
  have sz4 := GG.size
  have ddrb4 := lt_of_heap krb
  refine s_callx 80 rfl rfl _ 58 Try.call58 rfl rfl _ rfl [.pointer (some ⟨rb, 0, none⟩), .int .i64 0, .int .i64 3] rfl (rd_ok HC) (fun _ _ ⟨_, he, _⟩ => ⟨_, he⟩) ?_
  rintro v w4 ⟨_, he, hv, G, kn⟩
  cases he
  replace GG := GG.trans G
  replace krb := kn
  clear HC kn
  subst hv
  clear G
  refine mv 81 (.pointer (some ⟨rb, 0, none⟩)) ?_
  simp only [z0, z1]
  obtain ⟨r5, hr5⟩ : ∃ r, rdPa l i4 = r := ⟨_, rfl⟩
  have HC := rdPath rb so sc l i4 _ krb (HB.gror GG) hl
  rw [hr5] at HC
  rcases r5 with e | ⟨x5, i5⟩
  refine s_callp rfl _ 54 Try.call54 rfl rfl _ rfl [.pointer (some ⟨rb, 0, none⟩)] rfl (rd_err HC) ?_
  intro w5 G
  replace GG := GG.trans G
  refine then_p (blk_p (then_p ?_))
  refine post_p rfl ?_
  exact RdP.mk_err (by simp only [rdB8, hr2, hr3, hr4, hr5, thenR]) GG
  have sz5 := GG.size
  have ddrb5 := lt_of_heap krb
  refine s_callx 82 rfl rfl _ 54 Try.call54 rfl rfl _ rfl [.pointer (some ⟨rb, 0, none⟩)] rfl (rd_ok HC) (fun _ _ ⟨_, he, _⟩ => ⟨_, he⟩) ?_
  rintro v w5 ⟨_, he, hv, G, kn⟩
  cases he
  replace GG := GG.trans G
  replace krb := kn
  clear HC kn
  obtain ⟨rfl, h16x5⟩ := hv
  clear G
  refine mv 83 (.pointer (some ⟨rb, 0, none⟩)) ?_
  simp only [z0, z1]
  obtain ⟨r6, hr6⟩ : ∃ r, rdF l i5 = r := ⟨_, rfl⟩
  have HC := rdFlag rb so sc l i5 _ krb (HB.gror GG) hl
  rw [hr6] at HC
  rcases r6 with e | ⟨x6, i6⟩
  refine s_callp rfl _ 56 Try.call56 rfl rfl _ rfl [.pointer (some ⟨rb, 0, none⟩)] rfl (rd_err HC) ?_
  intro w6 G
  replace GG := GG.trans G
  refine then_p (blk_p (then_p ?_))
  refine post_p rfl ?_
  exact RdP.mk_err (by simp only [rdB8, hr2, hr3, hr4, hr5, hr6, thenR]) GG
  have sz6 := GG.size
  have ddrb6 := lt_of_heap krb
  refine s_callx 84 rfl rfl _ 56 Try.call56 rfl rfl _ rfl [.pointer (some ⟨rb, 0, none⟩)] rfl (rd_ok HC) (fun _ _ ⟨_, he, _⟩ => ⟨_, he⟩) ?_
  rintro v w6 ⟨_, he, hv, G, kn⟩
  cases he
  replace GG := GG.trans G
  replace krb := kn
  clear HC kn
  subst hv
  clear G
  refine mv 85 (.pointer (some ⟨rb, 0, none⟩)) ?_
  simp only [z0, z1]
  obtain ⟨r7, hr7⟩ : ∃ r, rdTr l i6 = r := ⟨_, rfl⟩
  have HC := rdTrail rb so sc l i6 _ krb (HB.gror GG) hl
  rw [hr7] at HC
  rcases r7 with e | ⟨x7, i7⟩
  refine s_callp rfl _ 55 Try.call55 rfl rfl _ rfl [.pointer (some ⟨rb, 0, none⟩)] rfl (rd_err HC) ?_
  intro w7 G
  replace GG := GG.trans G
  refine then_p (blk_p (then_p ?_))
  refine post_p rfl ?_
  exact RdP.mk_err (by simp only [rdB8, hr2, hr3, hr4, hr5, hr6, hr7, thenR]) GG
  have sz7 := GG.size
  have ddrb7 := lt_of_heap krb
  refine s_callx 86 rfl rfl _ 55 Try.call55 rfl rfl _ rfl [.pointer (some ⟨rb, 0, none⟩)] rfl (rd_ok HC) (fun _ _ ⟨_, he, _⟩ => ⟨_, he⟩) ?_
  rintro v w7 ⟨_, he, hv, G, kn⟩
  cases he
  replace GG := GG.trans G
  replace krb := kn
  clear HC kn
  obtain ⟨ao7, cap7, rfl, o7⟩ := hv
  clear G
  refine sv 87 (.agg (c93 (idF x2) (idF x3) ((x4 : Nat) : Int) (idF x5.1) ((x5.2 : Nat) : Int) x6 ⟨ao7, x7.length, cap7⟩)) (run_bd 81 _ rfl [(0, .agg (c23 (idF x2))), (1, .agg (c23 (idF x3))), (2, .int .i64 ((x4 : Nat) : Int)), (3, .agg (c25 (idF x5.1) ((x5.2 : Nat) : Int))), (4, .bool x6), (5, .slice ao7 x7.length cap7)] rfl _ (by kernel_rfl)) (sv 88 (.iface 81 (.agg (c93 (idF x2) (idF x3) ((x4 : Nat) : Int) (idF x5.1) ((x5.2 : Nat) : Int) x6 ⟨ao7, x7.length, cap7⟩))) (run_mk 81 _ rfl _ rfl) ?_)
  simp only [z0, z1]
  refine mv 2 (.iface 81 (.agg (c93 (idF x2) (idF x3) ((x4 : Nat) : Int) (idF x5.1) ((x5.2 : Nat) : Int) x6 ⟨ao7, x7.length, cap7⟩))) (wpList_nil (then_n (wp_ret (blk_r (then_r ?_)))))
  refine bodyPost_ret (results_tmp Try.results46 _ _ _) rfl ?_
  exact RdP.mk_ok (a := (8, (⟨0, (idF x5.1), ((x5.2 : Nat) : Int), x6, (idF x2), (idF x3), 0, 0, 0, 0, 0, Sl.nil, Sl.nil, zF, 0, zF, Sl.nil, ((x4 : Nat) : Int), 0, Sl.nil⟩ : Fr), (⟨x7, [], [], []⟩ : FD))) (by simp only [rdB8, hr2, hr3, hr4, hr5, hr6, hr7, thenR]) GG (⟨⟨ao7, x7.length, cap7⟩, Sl.nil, Sl.nil, Sl.nil, rfl, ⟨o7.mono sz7, OX.nil _ _ _ _, OX.nil _ _ _ _, OX.nil _ _ _ _, (by intro x hx; cases hx), (by intro x hx; cases hx), (by intro x hx; cases hx)⟩, Nat.le_of_ble_eq_true rfl, Nat.le_of_ble_eq_true rfl⟩) krb
def rdB9 (l : List Nat) (i : Nat) : Except Nat ((Nat × Fr × FD) × Nat) := thenR (rdI l i) fun x2 q => thenR (rdN l q) fun x3 q => .ok ((9, (⟨0, zF, 0, false, (idF x2), zF, ((x3 : Nat) : Int), 0, 0, 0, 0, Sl.nil, Sl.nil, zF, 0, zF, Sl.nil, 0, 0, Sl.nil⟩ : Fr), (⟨[], [], [], []⟩ : FD)), q)
set_option maxRecDepth 100000 in
set_option maxHeartbeats 4000000 in
theorem body_rd9 (rb : Nat) (so : Option Addr) (sc : Nat) (l : List Nat) (i : Nat) (w : World) (krb : w.heap[rb]? = some (.cells (c123 ⟨so, l.length, sc⟩ (i : Int)) 117 (0, 0))) (HB : BS rb w so sc l) (hl : l.length ≤ 140737488355000) (i1 : Nat) (hK : rdN l i = .ok (9, i1)) : Calls Try.prog 46 #[.pointer (some ⟨rb, 0, none⟩)] w (RdP rb so sc l.length w (rdB9 l i1) (BodyP w.heap.size)) := by
  refine s_enterR Try.func46 rfl Try.ntmps46 [.pointer (some ⟨rb, 0, none⟩)] ?_
  intro U h; simp only [List.length_cons, List.length_nil, List.cons_append, List.nil_append, Nat.reduceAdd, Nat.reduceSub, List.reduceReplicate] at h; subst h
  have GG := GroR.refl rb w
  have hrb := lt_of_heap krb
  refine wp_seq (wp_region_lit (mv 2 (.nilIface) (wpList_nil (then_n (wp_seq (wp_seq (wp_region_lit (mv 3 (.pointer (some ⟨rb, 0, none⟩)) ?_))))))))
  simp only [z0, z1]
  have HC := rdNum rb so sc l i _ krb (HB.gror GG) hl
  rw [hK] at HC
  refine s_callx 4 rfl rfl _ 50 Try.call50 rfl rfl _ rfl [.pointer (some ⟨rb, 0, none⟩)] rfl (rd_ok HC) (fun _ _ ⟨_, he, _⟩ => ⟨_, he⟩) ?_
  rintro v w1 ⟨_, he, hv, G, kn⟩
  cases he
  replace GG := GG.trans G
  replace krb := kn
  subst hv
  clear G HC kn
  refine wpList_nil (then_n (wp_block (wp_seq (wp_region_lit (sv 6 (.bool false) (run_eq_k 2 .i64 _ _ _ rfl Try.underlying2 ((9 : Nat) : Int) 1 rfl rfl false (by decide) _) (mv 5 (.bool false) ?_))))))
  simp only [z0, z1]
  refine wpList_nil (then_n (wp_cond_false rfl (wp_seq (wp_region_lit (sv 16 (.bool false) (run_eq_k 2 .i64 _ _ _ rfl Try.underlying2 ((9 : Nat) : Int) 2 rfl rfl false (by decide) _) (mv 15 (.bool false) (wpList_nil (then_n (wp_cond_false rfl (wp_seq (wp_region_lit (sv 28 (.bool false) (run_eq_k 2 .i64 _ _ _ rfl Try.underlying2 ((9 : Nat) : Int) 3 rfl rfl false (by decide) _) ?_))))))))))))
  simp only [z0, z1]
  refine mv 27 (.bool false) (wpList_nil (then_n (wp_cond_false rfl (wp_seq (wp_region_lit (sv 38 (.bool false) (run_eq_k 2 .i64 _ _ _ rfl Try.underlying2 ((9 : Nat) : Int) 4 rfl rfl false (by decide) _) (mv 37 (.bool false) ?_)))))))
  simp only [z0, z1]
  refine wpList_nil (then_n (wp_cond_false rfl (wp_seq (wp_region_lit (sv 50 (.bool false) (run_eq_k 2 .i64 _ _ _ rfl Try.underlying2 ((9 : Nat) : Int) 5 rfl rfl false (by decide) _) (mv 49 (.bool false) (wpList_nil (then_n (wp_cond_false rfl (wp_seq (wp_region_lit (sv 56 (.bool false) (run_eq_k 2 .i64 _ _ _ rfl Try.underlying2 ((9 : Nat) : Int) 6 rfl rfl false (by decide) _) ?_))))))))))))
  simp only [z0, z1]
  refine mv 55 (.bool false) (wpList_nil (then_n (wp_cond_false rfl (wp_seq (wp_region_lit (sv 64 (.bool false) (run_eq_k 2 .i64 _ _ _ rfl Try.underlying2 ((9 : Nat) : Int) 7 rfl rfl false (by decide) _) (mv 63 (.bool false) ?_)))))))
  simp only [z0, z1]
  refine wpList_nil (then_n (wp_cond_false rfl (wp_seq (wp_region_lit (sv 74 (.bool false) (run_eq_k 2 .i64 _ _ _ rfl Try.underlying2 ((9 : Nat) : Int) 8 rfl rfl false (by decide) _) (mv 73 (.bool false) (wpList_nil (then_n (wp_cond_false rfl (wp_seq (wp_region_lit (sv 90 (.bool true) (run_eq_k 2 .i64 _ _ _ rfl Try.underlying2 ((9 : Nat) : Int) 9 rfl rfl true (by decide) _) ?_))))))))))))
  simp only [z0, z1]
  refine mv 89 (.bool true) (wpList_nil (then_n (wp_cond_true rfl (wp_seq (wp_region_lit (mv 91 (.pointer (some ⟨rb, 0, none⟩)) ?_))))))
  simp only [z0, z1]
  obtain ⟨r2, hr2⟩ : ∃ r, rdI l i1 = r := ⟨_, rfl⟩
  have HC := rdID rb so sc l i1 _ krb (HB.gror GG) hl
  rw [hr2] at HC
  rcases r2 with e | ⟨x2, i2⟩
  refine s_callp rfl _ 52 Try.call52 rfl rfl _ rfl [.pointer (some ⟨rb, 0, none⟩)] rfl (rd_err HC) ?_
  intro w2 G
  replace GG := GG.trans G
  refine then_p (blk_p (then_p ?_))
  refine post_p rfl ?_
  exact RdP.mk_err (by simp only [rdB9, hr2, thenR]) GG
  have sz2 := GG.size
  have ddrb2 := lt_of_heap krb
  refine s_callx 92 rfl rfl _ 52 Try.call52 rfl rfl _ rfl [.pointer (some ⟨rb, 0, none⟩)] rfl (rd_ok HC) (fun _ _ ⟨_, he, _⟩ => ⟨_, he⟩) ?_
  rintro v w2 ⟨_, he, hv, G, kn⟩
  cases he
  replace GG := GG.trans G
  replace krb := kn
  clear HC kn
  obtain ⟨rfl, h16x2⟩ := hv
  clear G
  refine mv 93 (.pointer (some ⟨rb, 0, none⟩)) ?_
  simp only [z0, z1]
  obtain ⟨r3, hr3⟩ : ∃ r, rdN l i2 = r := ⟨_, rfl⟩
  have HC := rdNum rb so sc l i2 _ krb (HB.gror GG) hl
  rw [hr3] at HC
  rcases r3 with e | ⟨x3, i3⟩
  refine s_callp rfl _ 50 Try.call50 rfl rfl _ rfl [.pointer (some ⟨rb, 0, none⟩)] rfl (rd_err HC) ?_
  intro w3 G
  replace GG := GG.trans G
  refine then_p (blk_p (then_p ?_))
  refine post_p rfl ?_
  exact RdP.mk_err (by simp only [rdB9, hr2, hr3, thenR]) GG
  have sz3 := GG.size
  have ddrb3 := lt_of_heap krb
  refine s_callx 94 rfl rfl _ 50 Try.call50 rfl rfl _ rfl [.pointer (some ⟨rb, 0, none⟩)] rfl (rd_ok HC) (fun _ _ ⟨_, he, _⟩ => ⟨_, he⟩) ?_
  rintro v w3 ⟨_, he, hv, G, kn⟩
  cases he
  replace GG := GG.trans G
  replace krb := kn
  clear HC kn
  subst hv
  clear G
  refine sv 95 (.agg (c95 (idF x2) ((x3 : Nat) : Int))) (run_bd 83 _ rfl [(0, .agg (c23 (idF x2))), (1, .int .i64 ((x3 : Nat) : Int))] rfl _ (by kernel_rfl)) (sv 96 (.iface 83 (.agg (c95 (idF x2) ((x3 : Nat) : Int)))) (run_mk 83 _ rfl _ rfl) ?_)
  simp only [z0, z1]
  refine mv 2 (.iface 83 (.agg (c95 (idF x2) ((x3 : Nat) : Int)))) (wpList_nil (then_n (wp_ret (blk_r (then_r ?_)))))
  refine bodyPost_ret (results_tmp Try.results46 _ _ _) rfl ?_
  exact RdP.mk_ok (a := (9, (⟨0, zF, 0, false, (idF x2), zF, ((x3 : Nat) : Int), 0, 0, 0, 0, Sl.nil, Sl.nil, zF, 0, zF, Sl.nil, 0, 0, Sl.nil⟩ : Fr), (⟨[], [], [], []⟩ : FD))) (by simp only [rdB9, hr2, hr3, thenR]) GG (⟨Sl.nil, Sl.nil, Sl.nil, Sl.nil, rfl, ⟨OX.nil _ _ _ _, OX.nil _ _ _ _, OX.nil _ _ _ _, OX.nil _ _ _ _, (by intro x hx; cases hx), (by intro x hx; cases hx), (by intro x hx; cases hx)⟩, Nat.le_of_ble_eq_true rfl, Nat.le_of_ble_eq_true rfl⟩) krb
def rdB10 (l : List Nat) (i : Nat) : Except Nat ((Nat × Fr × FD) × Nat) := thenR (rdI l i) fun x2 q => thenR (rdI l q) fun x3 q => thenR (rdN l q) fun x4 q => thenR (rdW l q 1 4) fun x5 q => thenR (rdW l q 0 64) fun x6 q => thenR (rdIt l q) fun x7 q => thenR (rdT l q 64) fun x8 q => .ok ((10, (⟨0, zF, 0, false, (idF x2), (idF x3), ((x4 : Nat) : Int), 0, 0, 0, 0, Sl.nil, Sl.nil, (idF x7.1), ((x7.2.1.1 : Nat) : Int), (idF x7.2.1.2), Sl.nil, ((x5 : Nat) : Int), ((x6 : Nat) : Int), Sl.nil⟩ : Fr), (⟨[], [], x7.2.2, x8⟩ : FD)), q)
set_option maxRecDepth 100000 in
set_option maxHeartbeats 4000000 in
theorem body_rd10 (rb : Nat) (so : Option Addr) (sc : Nat) (l : List Nat) (i : Nat) (w : World) (krb : w.heap[rb]? = some (.cells (c123 ⟨so, l.length, sc⟩ (i : Int)) 117 (0, 0))) (HB : BS rb w so sc l) (hl : l.length ≤ 140737488355000) (i1 : Nat) (hK : rdN l i = .ok (10, i1)) : Calls Try.prog 46 #[.pointer (some ⟨rb, 0, none⟩)] w (RdP rb so sc l.length w (rdB10 l i1) (BodyP w.heap.size)) := by
  refine s_enterR Try.func46 rfl Try.ntmps46 [.pointer (some ⟨rb, 0, none⟩)] ?_
  intro U h; simp only [List.length_cons, List.length_nil, List.cons_append, List.nil_append, Nat.reduceAdd, Nat.reduceSub, List.reduceReplicate] at h; subst h
  have GG := GroR.refl rb w
  have hrb := lt_of_heap krb
  refine wp_seq (wp_region_lit (mv 2 (.nilIface) (wpList_nil (then_n (wp_seq (wp_seq (wp_region_lit (mv 3 (.pointer (some ⟨rb, 0, none⟩)) ?_))))))))
  simp only [z0, z1]
  have HC := rdNum rb so sc l i _ krb (HB.gror GG) hl
  rw [hK] at HC
  refine s_callx 4 rfl rfl _ 50 Try.call50 rfl rfl _ rfl [.pointer (some ⟨rb, 0, none⟩)] rfl (rd_ok HC) (fun _ _ ⟨_, he, _⟩ => ⟨_, he⟩) ?_
  rintro v w1 ⟨_, he, hv, G, kn⟩
  cases he
  replace GG := GG.trans G
  replace krb := kn
  subst hv
  clear G HC kn
  refine wpList_nil (then_n (wp_block (wp_seq (wp_region_lit (sv 6 (.bool false) (run_eq_k 2 .i64 _ _ _ rfl Try.underlying2 ((10 : Nat) : Int) 1 rfl rfl false (by decide) _) (mv 5 (.bool false) ?_))))))
  simp only [z0, z1]
  refine wpList_nil (then_n (wp_cond_false rfl (wp_seq (wp_region_lit (sv 16 (.bool false) (run_eq_k 2 .i64 _ _ _ rfl Try.underlying2 ((10 : Nat) : Int) 2 rfl rfl false (by decide) _) (mv 15 (.bool false) (wpList_nil (then_n (wp_cond_false rfl (wp_seq (wp_region_lit (sv 28 (.bool false) (run_eq_k 2 .i64 _ _ _ rfl Try.underlying2 ((10 : Nat) : Int) 3 rfl rfl false (by decide) _) ?_))))))))))))
  simp only [z0, z1]
  refine mv 27 (.bool false) (wpList_nil (then_n (wp_cond_false rfl (wp_seq (wp_region_lit (sv 38 (.bool false) (run_eq_k 2 .i64 _ _ _ rfl Try.underlying2 ((10 : Nat) : Int) 4 rfl rfl false (by decide) _) (mv 37 (.bool false) ?_)))))))
  simp only [z0, z1]
  refine wpList_nil (then_n (wp_cond_false rfl (wp_seq (wp_region_lit (sv 50 (.bool false) (run_eq_k 2 .i64 _ _ _ rfl Try.underlying2 ((10 : Nat) : Int) 5 rfl rfl false (by decide) _) (mv 49 (.bool false) (wpList_nil (then_n (wp_cond_false rfl (wp_seq (wp_region_lit (sv 56 (.bool false) (run_eq_k 2 .i64 _ _ _ rfl Try.underlying2 ((10 : Nat) : Int) 6 rfl rfl false (by decide) _) ?_))))))))))))
  simp only [z0, z1]
  refine mv 55 (.bool false) (wpList_nil (then_n (wp_cond_false rfl (wp_seq (wp_region_lit (sv 64 (.bool false) (run_eq_k 2 .i64 _ _ _ rfl Try.underlying2 ((10 : Nat) : Int) 7 rfl rfl false (by decide) _) (mv 63 (.bool false) ?_)))))))
  simp only [z0, z1]
  refine wpList_nil (then_n (wp_cond_false rfl (wp_seq (wp_region_lit (sv 74 (.bool false) (run_eq_k 2 .i64 _ _ _ rfl Try.underlying2 ((10 : Nat) : Int) 8 rfl rfl false (by decide) _) (mv 73 (.bool false) (wpList_nil (then_n (wp_cond_false rfl (wp_seq (wp_region_lit (sv 90 (.bool false) (run_eq_k 2 .i64 _ _ _ rfl Try.underlying2 ((10 : Nat) : Int) 9 rfl rfl false (by decide) _) ?_))))))))))))
  simp only [z0, z1]
  refine mv 89 (.bool false) (wpList_nil (then_n (wp_cond_false rfl (wp_seq (wp_region_lit (sv 98 (.bool true) (run_eq_k 2 .i64 _ _ _ rfl Try.underlying2 ((10 : Nat) : Int) 10 rfl rfl true (by decide) _) (mv 97 (.bool true) ?_)))))))
  simp only [z0, z1]
  refine wpList_nil (then_n (wp_cond_true rfl (wp_seq (wp_region_lit (mv 99 (.pointer (some ⟨rb, 0, none⟩)) ?_)))))
  simp only [z0, z1]
  obtain ⟨r2, hr2⟩ : ∃ r, rdI l i1 = r := ⟨_, rfl⟩
  have HC := rdID rb so sc l i1 _ krb (HB.gror GG) hl
  rw [hr2] at HC
  rcases r2 with e | ⟨x2, i2⟩
  refine s_callp rfl _ 52 Try.call52 rfl rfl _ rfl [.pointer (some ⟨rb, 0, none⟩)] rfl (rd_err HC) ?_
  intro w2 G
  replace GG := GG.trans G
  refine then_p (blk_p (then_p ?_))
  refine post_p rfl ?_
  exact RdP.mk_err (by simp only [rdB10, hr2, thenR]) GG
  have sz2 := GG.size
  have ddrb2 := lt_of_heap krb
  refine s_callx 100 rfl rfl _ 52 Try.call52 rfl rfl _ rfl [.pointer (some ⟨rb, 0, none⟩)] rfl (rd_ok HC) (fun _ _ ⟨_, he, _⟩ => ⟨_, he⟩) ?_
  rintro v w2 ⟨_, he, hv, G, kn⟩
  cases he
  replace GG := GG.trans G
  replace krb := kn
  clear HC kn
  obtain ⟨rfl, h16x2⟩ := hv
  clear G
  refine mv 101 (.pointer (some ⟨rb, 0, none⟩)) ?_
  simp only [z0, z1]
  obtain ⟨r3, hr3⟩ : ∃ r, rdI l i2 = r := ⟨_, rfl⟩
  have HC := rdID rb so sc l i2 _ krb (HB.gror GG) hl
  rw [hr3] at HC
  rcases r3 with e | ⟨x3, i3⟩
  refine s_callp rfl _ 52 Try.call52 rfl rfl _ rfl [.pointer (some ⟨rb, 0, none⟩)] rfl (rd_err HC) ?_
  intro w3 G
  replace GG := GG.trans G
  refine then_p (blk_p (then_p ?_))
  refine post_p rfl ?_
  exact RdP.mk_err (by simp only [rdB10, hr2, hr3, thenR]) GG
  have sz3 := GG.size
  have ddrb3 := lt_of_heap krb
  refine s_callx 102 rfl rfl _ 52 Try.call52 rfl rfl _ rfl [.pointer (some ⟨rb, 0, none⟩)] rfl (rd_ok HC) (fun _ _ ⟨_, he, _⟩ => ⟨_, he⟩) ?_
  rintro v w3 ⟨_, he, hv, G, kn⟩
  cases he
  replace GG := GG.trans G
  replace krb := kn
  clear HC kn
  obtain ⟨rfl, h16x3⟩ := hv
  clear G
  refine mv 103 (.pointer (some ⟨rb, 0, none⟩)) ?_
  simp only [z0, z1]
  obtain ⟨r4, hr4⟩ : ∃ r, rdN l i3 = r := ⟨_, rfl⟩
  have HC := rdNum rb so sc l i3 _ krb (HB.gror GG) hl
  rw [hr4] at HC
  rcases r4 with e | ⟨x4, i4⟩
  refine s_callp rfl _ 50 Try.call50 rfl rfl _ rfl [.pointer (some ⟨rb, 0, none⟩)] rfl (rd_err HC) ?_
  intro w4 G
  replace GG := GG.trans G
  refine then_p (blk_p (then_p ?_))
  refine post_p rfl ?_
  exact RdP.mk_err (by simp only [rdB10, hr2, hr3, hr4, thenR]) GG
  have sz4 := GG.size
  have ddrb4 := lt_of_heap krb
  refine s_callx 104 rfl rfl _ 50 Try.call50 rfl rfl _ rfl [.pointer (some ⟨rb, 0, none⟩)] rfl (rd_ok HC) (fun _ _ ⟨_, he, _⟩ => ⟨_, he⟩) ?_
  rintro v w4 ⟨_, he, hv, G, kn⟩
  cases he
  replace GG := GG.trans G
  replace krb := kn
  clear HC kn
  subst hv
  clear G
  refine mv 105 (.pointer (some ⟨rb, 0, none⟩)) ?_
  simp only [z0, z1]
  obtain ⟨r5, hr5⟩ : ∃ r, rdW l i4 1 4 = r := ⟨_, rfl⟩
  have HC := rdWith rb so sc l i4 1 4 _ krb (HB.gror GG) hl
  rw [hr5] at HC
  rcases r5 with e | ⟨x5, i5⟩
  refine s_callp rfl _ 58 Try.call58 rfl rfl _ rfl [.pointer (some ⟨rb, 0, none⟩), .int .i64 1, .int .i64 4] rfl (rd_err HC) ?_
  intro w5 G
  replace GG := GG.trans G
  refine then_p (blk_p (then_p ?_))
  refine post_p rfl ?_
  exact RdP.mk_err (by simp only [rdB10, hr2, hr3, hr4, hr5, thenR]) GG
  have sz5 := GG.size
  have ddrb5 := lt_of_heap krb
  refine s_callx 106 rfl rfl _ 58 Try.call58 rfl rfl _ rfl [.pointer (some ⟨rb, 0, none⟩), .int .i64 1, .int .i64 4] rfl (rd_ok HC) (fun _ _ ⟨_, he, _⟩ => ⟨_, he⟩) ?_
  rintro v w5 ⟨_, he, hv, G, kn⟩
  cases he
  replace GG := GG.trans G
  replace krb := kn
  clear HC kn
  subst hv
  clear G
  refine mv 107 (.pointer (some ⟨rb, 0, none⟩)) ?_
  simp only [z0, z1]
  obtain ⟨r6, hr6⟩ : ∃ r, rdW l i5 0 64 = r := ⟨_, rfl⟩
  have HC := rdWith rb so sc l i5 0 64 _ krb (HB.gror GG) hl
  rw [hr6] at HC
  rcases r6 with e | ⟨x6, i6⟩
  refine s_callp rfl _ 58 Try.call58 rfl rfl _ rfl [.pointer (some ⟨rb, 0, none⟩), .int .i64 0, .int .i64 64] rfl (rd_err HC) ?_
  intro w6 G
  replace GG := GG.trans G
  refine then_p (blk_p (then_p ?_))
  refine post_p rfl ?_
  exact RdP.mk_err (by simp only [rdB10, hr2, hr3, hr4, hr5, hr6, thenR]) GG
  have sz6 := GG.size
  have ddrb6 := lt_of_heap krb
  refine s_callx 108 rfl rfl _ 58 Try.call58 rfl rfl _ rfl [.pointer (some ⟨rb, 0, none⟩), .int .i64 0, .int .i64 64] rfl (rd_ok HC) (fun _ _ ⟨_, he, _⟩ => ⟨_, he⟩) ?_
  rintro v w6 ⟨_, he, hv, G, kn⟩
  cases he
  replace GG := GG.trans G
  replace krb := kn
  clear HC kn
  subst hv
  clear G
  refine mv 109 (.pointer (some ⟨rb, 0, none⟩)) ?_
  simp only [z0, z1]
  obtain ⟨r7, hr7⟩ : ∃ r, rdIt l i6 = r := ⟨_, rfl⟩
  have HC := rdItem rb so sc l i6 _ krb (HB.gror GG) hl
  rw [hr7] at HC
  rcases r7 with e | ⟨x7, i7⟩
  refine s_callp rfl _ 59 Try.call59 rfl rfl _ rfl [.pointer (some ⟨rb, 0, none⟩)] rfl (rd_err HC) ?_
  intro w7 G
  replace GG := GG.trans G
  refine then_p (blk_p (then_p ?_))
  refine post_p rfl ?_
  exact RdP.mk_err (by simp only [rdB10, hr2, hr3, hr4, hr5, hr6, hr7, thenR]) GG
  have sz7 := GG.size
  have ddrb7 := lt_of_heap krb
  refine s_callx 110 rfl rfl _ 59 Try.call59 rfl rfl _ rfl [.pointer (some ⟨rb, 0, none⟩)] rfl (rd_ok HC) (fun _ _ ⟨_, he, _⟩ => ⟨_, he⟩) ?_
  rintro v w7 ⟨_, he, hv, G, kn⟩
  cases he
  replace GG := GG.trans G
  replace krb := kn
  clear HC kn
  obtain ⟨⟨ao7, cap7, rfl, o7⟩, h16x7, h16y7⟩ := hv
  clear G
  refine mv 111 (.pointer (some ⟨rb, 0, none⟩)) ?_
  simp only [z0, z1]
  obtain ⟨r8, hr8⟩ : ∃ r, rdT l i7 64 = r := ⟨_, rfl⟩
  have HC := rdText rb so sc l i7 64 _ krb (HB.gror GG) hl (by omega)
  rw [hr8] at HC
  rcases r8 with e | ⟨x8, i8⟩
  refine s_callp rfl _ 53 Try.call53 rfl rfl _ rfl [.pointer (some ⟨rb, 0, none⟩), .int .i64 64] rfl (rd_err HC) ?_
  intro w8 G
  replace GG := GG.trans G
  refine then_p (blk_p (then_p ?_))
  refine post_p rfl ?_
  exact RdP.mk_err (by simp only [rdB10, hr2, hr3, hr4, hr5, hr6, hr7, hr8, thenR]) GG
  have sz8 := GG.size
  have ddrb8 := lt_of_heap krb
  refine s_callx 112 rfl rfl _ 53 Try.call53 rfl rfl _ rfl [.pointer (some ⟨rb, 0, none⟩), .int .i64 64] rfl (rd_ok HC) (fun _ _ ⟨_, he, _⟩ => ⟨_, he⟩) ?_
  rintro v w8 ⟨_, he, hv, G, kn⟩
  cases he
  replace o7 := ob_gror o7 G (by omega)
  replace GG := GG.trans G
  replace krb := kn
  clear HC kn
  obtain ⟨ao8, cap8, rfl, o8⟩ := hv
  clear G
  refine sv 113 (.agg (c97 (idF x2) (idF x3) ((x4 : Nat) : Int) ((x5 : Nat) : Int) ((x6 : Nat) : Int) (idF x7.1) ((x7.2.1.1 : Nat) : Int) (idF x7.2.1.2) ⟨ao7, x7.2.2.length, cap7⟩ ⟨ao8, x8.length, cap8⟩)) (run_bd 85 _ rfl [(0, .agg (c23 (idF x2))), (1, .agg (c23 (idF x3))), (2, .int .i64 ((x4 : Nat) : Int)), (3, .int .i64 ((x5 : Nat) : Int)), (4, .int .i64 ((x6 : Nat) : Int)), (5, .agg (c34 (idF x7.1) ((x7.2.1.1 : Nat) : Int) (idF x7.2.1.2) ⟨ao7, x7.2.2.length, cap7⟩)), (6, .slice ao8 x8.length cap8)] rfl _ (by kernel_rfl)) (sv 114 (.iface 85 (.agg (c97 (idF x2) (idF x3) ((x4 : Nat) : Int) ((x5 : Nat) : Int) ((x6 : Nat) : Int) (idF x7.1) ((x7.2.1.1 : Nat) : Int) (idF x7.2.1.2) ⟨ao7, x7.2.2.length, cap7⟩ ⟨ao8, x8.length, cap8⟩))) (run_mk 85 _ rfl _ rfl) ?_)
  simp only [z0, z1]
  refine mv 2 (.iface 85 (.agg (c97 (idF x2) (idF x3) ((x4 : Nat) : Int) ((x5 : Nat) : Int) ((x6 : Nat) : Int) (idF x7.1) ((x7.2.1.1 : Nat) : Int) (idF x7.2.1.2) ⟨ao7, x7.2.2.length, cap7⟩ ⟨ao8, x8.length, cap8⟩))) (wpList_nil (then_n (wp_ret (blk_r (then_r ?_)))))
  refine bodyPost_ret (results_tmp Try.results46 _ _ _) rfl ?_
  exact RdP.mk_ok (a := (10, (⟨0, zF, 0, false, (idF x2), (idF x3), ((x4 : Nat) : Int), 0, 0, 0, 0, Sl.nil, Sl.nil, (idF x7.1), ((x7.2.1.1 : Nat) : Int), (idF x7.2.1.2), Sl.nil, ((x5 : Nat) : Int), ((x6 : Nat) : Int), Sl.nil⟩ : Fr), (⟨[], [], x7.2.2, x8⟩ : FD))) (by simp only [rdB10, hr2, hr3, hr4, hr5, hr6, hr7, hr8, thenR]) GG (⟨Sl.nil, Sl.nil, ⟨ao7, x7.2.2.length, cap7⟩, ⟨ao8, x8.length, cap8⟩, rfl, ⟨OX.nil _ _ _ _, OX.nil _ _ _ _, (o7.mono sz7).ox, (o8.mono sz8).ox, (by intro x hx; cases hx), (fun x hx => by have := o7.wf x hx; rw [max_u8] at this; omega), (fun x hx => by have := o8.wf x hx; rw [max_u8] at this; omega)⟩, Nat.le_of_ble_eq_true rfl, Nat.le_of_ble_eq_true rfl⟩) krb
def rdB11 (l : List Nat) (i : Nat) : Except Nat ((Nat × Fr × FD) × Nat) := thenR (rdPa l i) fun x2 q => thenR (rdF l q) fun x3 q => thenR (rdIt l q) fun x4 q => .ok ((11, (⟨0, (idF x2.1), ((x2.2 : Nat) : Int), x3, zF, zF, 0, 0, 0, 0, 0, Sl.nil, Sl.nil, (idF x4.1), ((x4.2.1.1 : Nat) : Int), (idF x4.2.1.2), Sl.nil, 0, 0, Sl.nil⟩ : Fr), (⟨[], [], x4.2.2, []⟩ : FD)), q)
set_option maxRecDepth 100000 in
set_option maxHeartbeats 4000000 in
theorem body_rd11 (rb : Nat) (so : Option Addr) (sc : Nat) (l : List Nat) (i : Nat) (w : World) (krb : w.heap[rb]? = some (.cells (c123 ⟨so, l.length, sc⟩ (i : Int)) 117 (0, 0))) (HB : BS rb w so sc l) (hl : l.length ≤ 140737488355000) (i1 : Nat) (hK : rdN l i = .ok (11, i1)) : Calls Try.prog 46 #[.pointer (some ⟨rb, 0, none⟩)] w (RdP rb so sc l.length w (rdB11 l i1) (BodyP w.heap.size)) := by
  refine s_enterR Try.func46 rfl Try.ntmps46 [.pointer (some ⟨rb, 0, none⟩)] ?_
  intro U h; simp only [List.length_cons, List.length_nil, List.cons_append, List.nil_append, Nat.reduceAdd, Nat.reduceSub, List.reduceReplicate] at h; subst h
  have GG := GroR.refl rb w
  have hrb := lt_of_heap krb
  refine wp_seq (wp_region_lit (mv 2 (.nilIface) (wpList_nil (then_n (wp_seq (wp_seq (wp_region_lit (mv 3 (.pointer (some ⟨rb, 0, none⟩)) ?_))))))))
  simp only [z0, z1]
  have HC := rdNum rb so sc l i _ krb (HB.gror GG) hl
  rw [hK] at HC
  refine s_callx 4 rfl rfl _ 50 Try.call50 rfl rfl _ rfl [.pointer (some ⟨rb, 0, none⟩)] rfl (rd_ok HC) (fun _ _ ⟨_, he, _⟩ => ⟨_, he⟩) ?_
  rintro v w1 ⟨_, he, hv, G, kn⟩
  cases he
  replace GG := GG.trans G
  replace krb := kn
  subst hv
  clear G HC kn
  refine wpList_nil (then_n (wp_block (wp_seq (wp_region_lit (sv 6 (.bool false) (run_eq_k 2 .i64 _ _ _ rfl Try.underlying2 ((11 : Nat) : Int) 1 rfl rfl false (by decide) _) (mv 5 (.bool false) ?_))))))
  simp only [z0, z1]
  refine wpList_nil (then_n (wp_cond_false rfl (wp_seq (wp_region_lit (sv 16 (.bool false) (run_eq_k 2 .i64 _ _ _ rfl Try.underlying2 ((11 : Nat) : Int) 2 rfl rfl false (by decide) _) (mv 15 (.bool false) (wpList_nil (then_n (wp_cond_false rfl (wp_seq (wp_region_lit (sv 28 (.bool false) (run_eq_k 2 .i64 _ _ _ rfl Try.underlying2 ((11 : Nat) : Int) 3 rfl rfl false (by decide) _) ?_))))))))))))
  simp only [z0, z1]
  refine mv 27 (.bool false) (wpList_nil (then_n (wp_cond_false rfl (wp_seq (wp_region_lit (sv 38 (.bool false) (run_eq_k 2 .i64 _ _ _ rfl Try.underlying2 ((11 : Nat) : Int) 4 rfl rfl false (by decide) _) (mv 37 (.bool false) ?_)))))))
  simp only [z0, z1]
  refine wpList_nil (then_n (wp_cond_false rfl (wp_seq (wp_region_lit (sv 50 (.bool false) (run_eq_k 2 .i64 _ _ _ rfl Try.underlying2 ((11 : Nat) : Int) 5 rfl rfl false (by decide) _) (mv 49 (.bool false) (wpList_nil (then_n (wp_cond_false rfl (wp_seq (wp_region_lit (sv 56 (.bool false) (run_eq_k 2 .i64 _ _ _ rfl Try.underlying2 ((11 : Nat) : Int) 6 rfl rfl false (by decide) _) ?_))))))))))))
  simp only [z0, z1]
  refine mv 55 (.bool false) (wpList_nil (then_n (wp_cond_false rfl (wp_seq (wp_region_lit (sv 64 (.bool false) (run_eq_k 2 .i64 _ _ _ rfl Try.underlying2 ((11 : Nat) : Int) 7 rfl rfl false (by decide) _) (mv 63 (.bool false) ?_)))))))
  simp only [z0, z1]
  refine wpList_nil (then_n (wp_cond_false rfl (wp_seq (wp_region_lit (sv 74 (.bool false) (run_eq_k 2 .i64 _ _ _ rfl Try.underlying2 ((11 : Nat) : Int) 8 rfl rfl false (by decide) _) (mv 73 (.bool false) (wpList_nil (then_n (wp_cond_false rfl (wp_seq (wp_region_lit (sv 90 (.bool false) (run_eq_k 2 .i64 _ _ _ rfl Try.underlying2 ((11 : Nat) : Int) 9 rfl rfl false (by decide) _) ?_))))))))))))
  simp only [z0, z1]
  refine mv 89 (.bool false) (wpList_nil (then_n (wp_cond_false rfl (wp_seq (wp_region_lit (sv 98 (.bool false) (run_eq_k 2 .i64 _ _ _ rfl Try.underlying2 ((11 : Nat) : Int) 10 rfl rfl false (by decide) _) (mv 97 (.bool false) ?_)))))))
  simp only [z0, z1]
  refine wpList_nil (then_n (wp_cond_false rfl (wp_seq (wp_region_lit (sv 116 (.bool true) (run_eq_k 2 .i64 _ _ _ rfl Try.underlying2 ((11 : Nat) : Int) 11 rfl rfl true (by decide) _) (mv 115 (.bool true) (wpList_nil (then_n (wp_cond_true rfl (wp_seq (wp_region_lit (mv 117 (.pointer (some ⟨rb, 0, none⟩)) ?_))))))))))))
  simp only [z0, z1]
  obtain ⟨r2, hr2⟩ : ∃ r, rdPa l i1 = r := ⟨_, rfl⟩
  have HC := rdPath rb so sc l i1 _ krb (HB.gror GG) hl
  rw [hr2] at HC
  rcases r2 with e | ⟨x2, i2⟩
  refine s_callp rfl _ 54 Try.call54 rfl rfl _ rfl [.pointer (some ⟨rb, 0, none⟩)] rfl (rd_err HC) ?_
  intro w2 G
  replace GG := GG.trans G
  refine then_p (blk_p (then_p ?_))
  refine post_p rfl ?_
  exact RdP.mk_err (by simp only [rdB11, hr2, thenR]) GG
  have sz2 := GG.size
  have ddrb2 := lt_of_heap krb
  refine s_callx 118 rfl rfl _ 54 Try.call54 rfl rfl _ rfl [.pointer (some ⟨rb, 0, none⟩)] rfl (rd_ok HC) (fun _ _ ⟨_, he, _⟩ => ⟨_, he⟩) ?_
  rintro v w2 ⟨_, he, hv, G, kn⟩
  cases he
  replace GG := GG.trans G
  replace krb := kn
  clear HC kn
  obtain ⟨rfl, h16x2⟩ := hv
  clear G
  refine mv 119 (.pointer (some ⟨rb, 0, none⟩)) ?_
  simp only [z0, z1]
  obtain ⟨r3, hr3⟩ : ∃ r, rdF l i2 = r := ⟨_, rfl⟩
  have HC := rdFlag rb so sc l i2 _ krb (HB.gror GG) hl
  rw [hr3] at HC
  rcases r3 with e | ⟨x3, i3⟩
  refine s_callp rfl _ 56 Try.call56 rfl rfl _ rfl [.pointer (some ⟨rb, 0, none⟩)] rfl (rd_err HC) ?_
  intro w3 G
  replace GG := GG.trans G
  refine then_p (blk_p (then_p ?_))
  refine post_p rfl ?_
  exact RdP.mk_err (by simp only [rdB11, hr2, hr3, thenR]) GG
  have sz3 := GG.size
  have ddrb3 := lt_of_heap krb
  refine s_callx 120 rfl rfl _ 56 Try.call56 rfl rfl _ rfl [.pointer (some ⟨rb, 0, none⟩)] rfl (rd_ok HC) (fun _ _ ⟨_, he, _⟩ => ⟨_, he⟩) ?_
  rintro v w3 ⟨_, he, hv, G, kn⟩
  cases he
  replace GG := GG.trans G
  replace krb := kn
  clear HC kn
  subst hv
  clear G
  refine mv 121 (.pointer (some ⟨rb, 0, none⟩)) ?_
  simp only [z0, z1]
  obtain ⟨r4, hr4⟩ : ∃ r, rdIt l i3 = r := ⟨_, rfl⟩
  have HC := rdItem rb so sc l i3 _ krb (HB.gror GG) hl
  rw [hr4] at HC
  rcases r4 with e | ⟨x4, i4⟩
  refine s_callp rfl _ 59 Try.call59 rfl rfl _ rfl [.pointer (some ⟨rb, 0, none⟩)] rfl (rd_err HC) ?_
  intro w4 G
  replace GG := GG.trans G
  refine then_p (blk_p (then_p ?_))
  refine post_p rfl ?_
  exact RdP.mk_err (by simp only [rdB11, hr2, hr3, hr4, thenR]) GG
  have sz4 := GG.size
  have ddrb4 := lt_of_heap krb
  refine s_callx 122 rfl rfl _ 59 Try.call59 rfl rfl _ rfl [.pointer (some ⟨rb, 0, none⟩)] rfl (rd_ok HC) (fun _ _ ⟨_, he, _⟩ => ⟨_, he⟩) ?_
  rintro v w4 ⟨_, he, hv, G, kn⟩
  cases he
  replace GG := GG.trans G
  replace krb := kn
  clear HC kn
  obtain ⟨⟨ao4, cap4, rfl, o4⟩, h16x4, h16y4⟩ := hv
  clear G
  refine sv 123 (.agg (c99 (idF x2.1) ((x2.2 : Nat) : Int) x3 (idF x4.1) ((x4.2.1.1 : Nat) : Int) (idF x4.2.1.2) ⟨ao4, x4.2.2.length, cap4⟩)) (run_bd 87 _ rfl [(0, .agg (c25 (idF x2.1) ((x2.2 : Nat) : Int))), (1, .bool x3), (2, .agg (c34 (idF x4.1) ((x4.2.1.1 : Nat) : Int) (idF x4.2.1.2) ⟨ao4, x4.2.2.length, cap4⟩))] rfl _ (by kernel_rfl)) (sv 124 (.iface 87 (.agg (c99 (idF x2.1) ((x2.2 : Nat) : Int) x3 (idF x4.1) ((x4.2.1.1 : Nat) : Int) (idF x4.2.1.2) ⟨ao4, x4.2.2.length, cap4⟩))) (run_mk 87 _ rfl _ rfl) ?_)
  simp only [z0, z1]
  refine mv 2 (.iface 87 (.agg (c99 (idF x2.1) ((x2.2 : Nat) : Int) x3 (idF x4.1) ((x4.2.1.1 : Nat) : Int) (idF x4.2.1.2) ⟨ao4, x4.2.2.length, cap4⟩))) (wpList_nil (then_n (wp_ret (blk_r (then_r ?_)))))
  refine bodyPost_ret (results_tmp Try.results46 _ _ _) rfl ?_
  exact RdP.mk_ok (a := (11, (⟨0, (idF x2.1), ((x2.2 : Nat) : Int), x3, zF, zF, 0, 0, 0, 0, 0, Sl.nil, Sl.nil, (idF x4.1), ((x4.2.1.1 : Nat) : Int), (idF x4.2.1.2), Sl.nil, 0, 0, Sl.nil⟩ : Fr), (⟨[], [], x4.2.2, []⟩ : FD))) (by simp only [rdB11, hr2, hr3, hr4, thenR]) GG (⟨Sl.nil, Sl.nil, ⟨ao4, x4.2.2.length, cap4⟩, Sl.nil, rfl, ⟨OX.nil _ _ _ _, OX.nil _ _ _ _, (o4.mono sz4).ox, OX.nil _ _ _ _, (by intro x hx; cases hx), (fun x hx => by have := o4.wf x hx; rw [max_u8] at this; omega), (by intro x hx; cases hx)⟩, Nat.le_of_ble_eq_true rfl, Nat.le_of_ble_eq_true rfl⟩) krb
def rdB12 (l : List Nat) (i : Nat) : Except Nat ((Nat × Fr × FD) × Nat) := thenR (rdPa l i) fun x2 q => thenR (rdF l q) fun x3 q => thenR (rdI l q) fun x4 q => thenR (rdVe l q) fun x5 q => .ok ((12, (⟨0, (idF x2.1), ((x2.2 : Nat) : Int), x3, zF, zF, 0, 0, 0, 0, 0, Sl.nil, Sl.nil, (idF x4), ((x5.1 : Nat) : Int), (idF x5.2), Sl.nil, 0, 0, Sl.nil⟩ : Fr), (⟨[], [], [], []⟩ : FD)), q)
set_option maxRecDepth 100000 in
set_option maxHeartbeats 4000000 in
theorem body_rd12 (rb : Nat) (so : Option Addr) (sc : Nat) (l : List Nat) (i : Nat) (w : World) (krb : w.heap[rb]? = some (.cells (c123 ⟨so, l.length, sc⟩ (i : Int)) 117 (0, 0))) (HB : BS rb w so sc l) (hl : l.length ≤ 140737488355000) (i1 : Nat) (hK : rdN l i = .ok (12, i1)) : Calls Try.prog 46 #[.pointer (some ⟨rb, 0, none⟩)] w (RdP rb so sc l.length w (rdB12 l i1) (BodyP w.heap.size)) := by
  refine s_enterR Try.func46 rfl Try.ntmps46 [.pointer (some ⟨rb, 0, none⟩)] ?_
  intro U h; simp only [List.length_cons, List.length_nil, List.cons_append, List.nil_append, Nat.reduceAdd, Nat.reduceSub, List.reduceReplicate] at h; subst h
  have GG := GroR.refl rb w
  have hrb := lt_of_heap krb
  refine wp_seq (wp_region_lit (mv 2 (.nilIface) (wpList_nil (then_n (wp_seq (wp_seq (wp_region_lit (mv 3 (.pointer (some ⟨rb, 0, none⟩)) ?_))))))))
  simp only [z0, z1]
  have HC := rdNum rb so sc l i _ krb (HB.gror GG) hl
  rw [hK] at HC
  refine s_callx 4 rfl rfl _ 50 Try.call50 rfl rfl _ rfl [.pointer (some ⟨rb, 0, none⟩)] rfl (rd_ok HC) (fun _ _ ⟨_, he, _⟩ => ⟨_, he⟩) ?_
  rintro v w1 ⟨_, he, hv, G, kn⟩
  cases he
  replace GG := GG.trans G
  replace krb := kn
  subst hv
  clear G HC kn
  refine wpList_nil (then_n (wp_block (wp_seq (wp_region_lit (sv 6 (.bool false) (run_eq_k 2 .i64 _ _ _ rfl Try.underlying2 ((12 : Nat) : Int) 1 rfl rfl false (by decide) _) (mv 5 (.bool false) ?_))))))
  simp only [z0, z1]
  refine wpList_nil (then_n (wp_cond_false rfl (wp_seq (wp_region_lit (sv 16 (.bool false) (run_eq_k 2 .i64 _ _ _ rfl Try.underlying2 ((12 : Nat) : Int) 2 rfl rfl false (by decide) _) (mv 15 (.bool false) (wpList_nil (then_n (wp_cond_false rfl (wp_seq (wp_region_lit (sv 28 (.bool false) (run_eq_k 2 .i64 _ _ _ rfl Try.underlying2 ((12 : Nat) : Int) 3 rfl rfl false (by decide) _) ?_))))))))))))
  simp only [z0, z1]
  refine mv 27 (.bool false) (wpList_nil (then_n (wp_cond_false rfl (wp_seq (wp_region_lit (sv 38 (.bool false) (run_eq_k 2 .i64 _ _ _ rfl Try.underlying2 ((12 : Nat) : Int) 4 rfl rfl false (by decide) _) (mv 37 (.bool false) ?_)))))))
  simp only [z0, z1]
  refine wpList_nil (then_n (wp_cond_false rfl (wp_seq (wp_region_lit (sv 50 (.bool false) (run_eq_k 2 .i64 _ _ _ rfl Try.underlying2 ((12 : Nat) : Int) 5 rfl rfl false (by decide) _) (mv 49 (.bool false) (wpList_nil (then_n (wp_cond_false rfl (wp_seq (wp_region_lit (sv 56 (.bool false) (run_eq_k 2 .i64 _ _ _ rfl Try.underlying2 ((12 : Nat) : Int) 6 rfl rfl false (by decide) _) ?_))))))))))))
  simp only [z0, z1]
  refine mv 55 (.bool false) (wpList_nil (then_n (wp_cond_false rfl (wp_seq (wp_region_lit (sv 64 (.bool false) (run_eq_k 2 .i64 _ _ _ rfl Try.underlying2 ((12 : Nat) : Int) 7 rfl rfl false (by decide) _) (mv 63 (.bool false) ?_)))))))
  simp only [z0, z1]
  refine wpList_nil (then_n (wp_cond_false rfl (wp_seq (wp_region_lit (sv 74 (.bool false) (run_eq_k 2 .i64 _ _ _ rfl Try.underlying2 ((12 : Nat) : Int) 8 rfl rfl false (by decide) _) (mv 73 (.bool false) (wpList_nil (then_n (wp_cond_false rfl (wp_seq (wp_region_lit (sv 90 (.bool false) (run_eq_k 2 .i64 _ _ _ rfl Try.underlying2 ((12 : Nat) : Int) 9 rfl rfl false (by decide) _) ?_))))))))))))
  simp only [z0, z1]
  refine mv 89 (.bool false) (wpList_nil (then_n (wp_cond_false rfl (wp_seq (wp_region_lit (sv 98 (.bool false) (run_eq_k 2 .i64 _ _ _ rfl Try.underlying2 ((12 : Nat) : Int) 10 rfl rfl false (by decide) _) (mv 97 (.bool false) ?_)))))))
  simp only [z0, z1]
  refine wpList_nil (then_n (wp_cond_false rfl (wp_seq (wp_region_lit (sv 116 (.bool false) (run_eq_k 2 .i64 _ _ _ rfl Try.underlying2 ((12 : Nat) : Int) 11 rfl rfl false (by decide) _) (mv 115 (.bool false) (wpList_nil (then_n (wp_cond_false rfl (wp_seq (wp_region_lit (sv 126 (.bool true) (run_eq_k 2 .i64 _ _ _ rfl Try.underlying2 ((12 : Nat) : Int) 12 rfl rfl true (by decide) _) ?_))))))))))))
  simp only [z0, z1]
  refine mv 125 (.bool true) (wpList_nil (then_n (wp_cond_true rfl (wp_seq (wp_region_lit (mv 127 (.pointer (some ⟨rb, 0, none⟩)) ?_))))))
  simp only [z0, z1]
  obtain ⟨r2, hr2⟩ : ∃ r, rdPa l i1 = r := ⟨_, rfl⟩
  have HC := rdPath rb so sc l i1 _ krb (HB.gror GG) hl
  rw [hr2] at HC
  rcases r2 with e | ⟨x2, i2⟩
  refine s_callp rfl _ 54 Try.call54 rfl rfl _ rfl [.pointer (some ⟨rb, 0, none⟩)] rfl (rd_err HC) ?_
  intro w2 G
  replace GG := GG.trans G
  refine then_p (blk_p (then_p ?_))
  refine post_p rfl ?_
  exact RdP.mk_err (by simp only [rdB12, hr2, thenR]) GG
  have sz2 := GG.size
  have ddrb2 := lt_of_heap krb
  refine s_callx 128 rfl rfl _ 54 Try.call54 rfl rfl _ rfl [.pointer (some ⟨rb, 0, none⟩)] rfl (rd_ok HC) (fun _ _ ⟨_, he, _⟩ => ⟨_, he⟩) ?_
  rintro v w2 ⟨_, he, hv, G, kn⟩
  cases he
  replace GG := GG.trans G
  replace krb := kn
  clear HC kn
  obtain ⟨rfl, h16x2⟩ := hv
  clear G
  refine mv 129 (.pointer (some ⟨rb, 0, none⟩)) ?_
  simp only [z0, z1]
  obtain ⟨r3, hr3⟩ : ∃ r, rdF l i2 = r := ⟨_, rfl⟩
  have HC := rdFlag rb so sc l i2 _ krb (HB.gror GG) hl
  rw [hr3] at HC
  rcases r3 with e | ⟨x3, i3⟩
  refine s_callp rfl _ 56 Try.call56 rfl rfl _ rfl [.pointer (some ⟨rb, 0, none⟩)] rfl (rd_err HC) ?_
  intro w3 G
  replace GG := GG.trans G
  refine then_p (blk_p (then_p ?_))
  refine post_p rfl ?_
  exact RdP.mk_err (by simp only [rdB12, hr2, hr3, thenR]) GG
  have sz3 := GG.size
  have ddrb3 := lt_of_heap krb
  refine s_callx 130 rfl rfl _ 56 Try.call56 rfl rfl _ rfl [.pointer (some ⟨rb, 0, none⟩)] rfl (rd_ok HC) (fun _ _ ⟨_, he, _⟩ => ⟨_, he⟩) ?_
  rintro v w3 ⟨_, he, hv, G, kn⟩
  cases he
  replace GG := GG.trans G
  replace krb := kn
  clear HC kn
  subst hv
  clear G
  refine mv 131 (.pointer (some ⟨rb, 0, none⟩)) ?_
  simp only [z0, z1]
  obtain ⟨r4, hr4⟩ : ∃ r, rdI l i3 = r := ⟨_, rfl⟩
  have HC := rdID rb so sc l i3 _ krb (HB.gror GG) hl
  rw [hr4] at HC
  rcases r4 with e | ⟨x4, i4⟩
  refine s_callp rfl _ 52 Try.call52 rfl rfl _ rfl [.pointer (some ⟨rb, 0, none⟩)] rfl (rd_err HC) ?_
  intro w4 G
  replace GG := GG.trans G
  refine then_p (blk_p (then_p ?_))
  refine post_p rfl ?_
  exact RdP.mk_err (by simp only [rdB12, hr2, hr3, hr4, thenR]) GG
  have sz4 := GG.size
  have ddrb4 := lt_of_heap krb
  refine s_callx 132 rfl rfl _ 52 Try.call52 rfl rfl _ rfl [.pointer (some ⟨rb, 0, none⟩)] rfl (rd_ok HC) (fun _ _ ⟨_, he, _⟩ => ⟨_, he⟩) ?_
  rintro v w4 ⟨_, he, hv, G, kn⟩
  cases he
  replace GG := GG.trans G
  replace krb := kn
  clear HC kn
  obtain ⟨rfl, h16x4⟩ := hv
  clear G
  refine mv 133 (.pointer (some ⟨rb, 0, none⟩)) ?_
  simp only [z0, z1]
  obtain ⟨r5, hr5⟩ : ∃ r, rdVe l i4 = r := ⟨_, rfl⟩
  have HC := rdVer rb so sc l i4 _ krb (HB.gror GG) hl
  rw [hr5] at HC
  rcases r5 with e | ⟨x5, i5⟩
  refine s_callp rfl _ 60 Try.call60 rfl rfl _ rfl [.pointer (some ⟨rb, 0, none⟩)] rfl (rd_err HC) ?_
  intro w5 G
  replace GG := GG.trans G
  refine then_p (blk_p (then_p ?_))
  refine post_p rfl ?_
  exact RdP.mk_err (by simp only [rdB12, hr2, hr3, hr4, hr5, thenR]) GG
  have sz5 := GG.size
  have ddrb5 := lt_of_heap krb
  refine s_callx 134 rfl rfl _ 60 Try.call60 rfl rfl _ rfl [.pointer (some ⟨rb, 0, none⟩)] rfl (rd_ok HC) (fun _ _ ⟨_, he, _⟩ => ⟨_, he⟩) ?_
  rintro v w5 ⟨_, he, hv, G, kn⟩
  cases he
  replace GG := GG.trans G
  replace krb := kn
  clear HC kn
  obtain ⟨rfl, h16x5⟩ := hv
  clear G
  refine sv 135 (.agg (c101 (idF x2.1) ((x2.2 : Nat) : Int) x3 (idF x4) ((x5.1 : Nat) : Int) (idF x5.2))) (run_bd 89 _ rfl [(0, .agg (c25 (idF x2.1) ((x2.2 : Nat) : Int))), (1, .bool x3), (2, .agg (c23 (idF x4))), (3, .agg (c31 ((x5.1 : Nat) : Int) (idF x5.2)))] rfl _ (by kernel_rfl)) (sv 136 (.iface 89 (.agg (c101 (idF x2.1) ((x2.2 : Nat) : Int) x3 (idF x4) ((x5.1 : Nat) : Int) (idF x5.2)))) (run_mk 89 _ rfl _ rfl) ?_)
  simp only [z0, z1]
  refine mv 2 (.iface 89 (.agg (c101 (idF x2.1) ((x2.2 : Nat) : Int) x3 (idF x4) ((x5.1 : Nat) : Int) (idF x5.2)))) (wpList_nil (then_n (wp_ret (blk_r (then_r ?_)))))
  refine bodyPost_ret (results_tmp Try.results46 _ _ _) rfl ?_
  exact RdP.mk_ok (a := (12, (⟨0, (idF x2.1), ((x2.2 : Nat) : Int), x3, zF, zF, 0, 0, 0, 0, 0, Sl.nil, Sl.nil, (idF x4), ((x5.1 : Nat) : Int), (idF x5.2), Sl.nil, 0, 0, Sl.nil⟩ : Fr), (⟨[], [], [], []⟩ : FD))) (by simp only [rdB12, hr2, hr3, hr4, hr5, thenR]) GG (⟨Sl.nil, Sl.nil, Sl.nil, Sl.nil, rfl, ⟨OX.nil _ _ _ _, OX.nil _ _ _ _, OX.nil _ _ _ _, OX.nil _ _ _ _, (by intro x hx; cases hx), (by intro x hx; cases hx), (by intro x hx; cases hx)⟩, Nat.le_of_ble_eq_true rfl, Nat.le_of_ble_eq_true rfl⟩) krb
set_option maxRecDepth 100000 in
set_option maxHeartbeats 4000000 in
theorem body_rd0 (rb : Nat) (so : Option Addr) (sc : Nat) (l : List Nat) (i : Nat) (w : World) (krb : w.heap[rb]? = some (.cells (c123 ⟨so, l.length, sc⟩ (i : Int)) 117 (0, 0))) (HB : BS rb w so sc l) (hl : l.length ≤ 140737488355000) (x1 i1 : Nat) (hK : rdN l i = .ok (x1, i1)) (hx : ¬ (1 ≤ x1 ∧ x1 ≤ 12)) : Calls Try.prog 46 #[.pointer (some ⟨rb, 0, none⟩)] w fun e w' => GroR rb w w' ∧ e = .panicked (thrown 2) := by
  refine s_enterR Try.func46 rfl Try.ntmps46 [.pointer (some ⟨rb, 0, none⟩)] ?_
  intro U h; simp only [List.length_cons, List.length_nil, List.cons_append, List.nil_append, Nat.reduceAdd, Nat.reduceSub, List.reduceReplicate] at h; subst h
  have GG := GroR.refl rb w
  have hrb := lt_of_heap krb
  refine wp_seq (wp_region_lit (mv 2 (.nilIface) (wpList_nil (then_n (wp_seq (wp_seq (wp_region_lit (mv 3 (.pointer (some ⟨rb, 0, none⟩)) ?_))))))))
  simp only [z0, z1]
  have HC := rdNum rb so sc l i _ krb (HB.gror GG) hl
  rw [hK] at HC
  refine s_callx 4 rfl rfl _ 50 Try.call50 rfl rfl _ rfl [.pointer (some ⟨rb, 0, none⟩)] rfl (rd_ok HC) (fun _ _ ⟨_, he, _⟩ => ⟨_, he⟩) ?_
  rintro v w1 ⟨_, he, hv, G, kn⟩
  cases he
  replace GG := GG.trans G
  replace krb := kn
  subst hv
  clear G HC kn
  refine wpList_nil (then_n (wp_block (wp_seq (wp_region_lit (sv 6 (.bool false) (run_eq_k 2 .i64 _ _ _ rfl Try.underlying2 ((x1 : Nat) : Int) 1 rfl rfl false (decide_eq_false (by omega)) _) (mv 5 (.bool false) ?_))))))
  simp only [z0, z1]
  refine wpList_nil (then_n (wp_cond_false rfl (wp_seq (wp_region_lit (sv 16 (.bool false) (run_eq_k 2 .i64 _ _ _ rfl Try.underlying2 ((x1 : Nat) : Int) 2 rfl rfl false (decide_eq_false (by omega)) _) (mv 15 (.bool false) (wpList_nil (then_n (wp_cond_false rfl (wp_seq (wp_region_lit (sv 28 (.bool false) (run_eq_k 2 .i64 _ _ _ rfl Try.underlying2 ((x1 : Nat) : Int) 3 rfl rfl false (decide_eq_false (by omega)) _) ?_))))))))))))
  simp only [z0, z1]
  refine mv 27 (.bool false) (wpList_nil (then_n (wp_cond_false rfl (wp_seq (wp_region_lit (sv 38 (.bool false) (run_eq_k 2 .i64 _ _ _ rfl Try.underlying2 ((x1 : Nat) : Int) 4 rfl rfl false (decide_eq_false (by omega)) _) (mv 37 (.bool false) ?_)))))))
  simp only [z0, z1]
  refine wpList_nil (then_n (wp_cond_false rfl (wp_seq (wp_region_lit (sv 50 (.bool false) (run_eq_k 2 .i64 _ _ _ rfl Try.underlying2 ((x1 : Nat) : Int) 5 rfl rfl false (decide_eq_false (by omega)) _) (mv 49 (.bool false) (wpList_nil (then_n (wp_cond_false rfl (wp_seq (wp_region_lit (sv 56 (.bool false) (run_eq_k 2 .i64 _ _ _ rfl Try.underlying2 ((x1 : Nat) : Int) 6 rfl rfl false (decide_eq_false (by omega)) _) ?_))))))))))))
  simp only [z0, z1]
  refine mv 55 (.bool false) (wpList_nil (then_n (wp_cond_false rfl (wp_seq (wp_region_lit (sv 64 (.bool false) (run_eq_k 2 .i64 _ _ _ rfl Try.underlying2 ((x1 : Nat) : Int) 7 rfl rfl false (decide_eq_false (by omega)) _) (mv 63 (.bool false) ?_)))))))
  simp only [z0, z1]
  refine wpList_nil (then_n (wp_cond_false rfl (wp_seq (wp_region_lit (sv 74 (.bool false) (run_eq_k 2 .i64 _ _ _ rfl Try.underlying2 ((x1 : Nat) : Int) 8 rfl rfl false (decide_eq_false (by omega)) _) (mv 73 (.bool false) (wpList_nil (then_n (wp_cond_false rfl (wp_seq (wp_region_lit (sv 90 (.bool false) (run_eq_k 2 .i64 _ _ _ rfl Try.underlying2 ((x1 : Nat) : Int) 9 rfl rfl false (decide_eq_false (by omega)) _) ?_))))))))))))
  simp only [z0, z1]
  refine mv 89 (.bool false) (wpList_nil (then_n (wp_cond_false rfl (wp_seq (wp_region_lit (sv 98 (.bool false) (run_eq_k 2 .i64 _ _ _ rfl Try.underlying2 ((x1 : Nat) : Int) 10 rfl rfl false (decide_eq_false (by omega)) _) (mv 97 (.bool false) ?_)))))))
  simp only [z0, z1]
  refine wpList_nil (then_n (wp_cond_false rfl (wp_seq (wp_region_lit (sv 116 (.bool false) (run_eq_k 2 .i64 _ _ _ rfl Try.underlying2 ((x1 : Nat) : Int) 11 rfl rfl false (decide_eq_false (by omega)) _) (mv 115 (.bool false) (wpList_nil (then_n (wp_cond_false rfl (wp_seq (wp_region_lit (sv 126 (.bool false) (run_eq_k 2 .i64 _ _ _ rfl Try.underlying2 ((x1 : Nat) : Int) 12 rfl rfl false (decide_eq_false (by omega)) _) ?_))))))))))))
  simp only [z0, z1]
  refine mv 125 (.bool false) (wpList_nil (then_n (wp_cond_false rfl (wp_skip (blk_n (then_n (wp_region_lit (sv 137 (.iface 47 (.int .i64 2)) (run_mk 47 _ rfl _ rfl) ?_))))))))
  simp only [z0, z1]
  refine s_panic rfl _ rfl 47 (.int .i64 2) rfl ?_
  refine post_p rfl ?_
  exact ⟨GG, rfl⟩
def rdB (l : List Nat) (i : Nat) : Except Nat ((Nat × Fr × FD) × Nat) := thenR (rdN l i) fun k q =>
  match k with
  | 1 => rdB1 l q
  | 2 => rdB2 l q
  | 3 => rdB3 l q
  | 4 => rdB4 l q
  | 5 => rdB5 l q
  | 6 => rdB6 l q
  | 7 => rdB7 l q
  | 8 => rdB8 l q
  | 9 => rdB9 l q
  | 10 => rdB10 l q
  | 11 => rdB11 l q
  | 12 => rdB12 l q
  | _ => .error 2
set_option maxRecDepth 100000 in
set_option maxHeartbeats 4000000 in
theorem body_rdE (rb : Nat) (so : Option Addr) (sc : Nat) (l : List Nat) (i : Nat) (w : World) (krb : w.heap[rb]? = some (.cells (c123 ⟨so, l.length, sc⟩ (i : Int)) 117 (0, 0))) (HB : BS rb w so sc l) (hl : l.length ≤ 140737488355000) (e : Nat) (hK : rdN l i = .error e) : Calls Try.prog 46 #[.pointer (some ⟨rb, 0, none⟩)] w fun e' w' => GroR rb w w' ∧ e' = .panicked (thrown e) := by
  refine s_enterR Try.func46 rfl Try.ntmps46 [.pointer (some ⟨rb, 0, none⟩)] ?_
  intro U h; simp only [List.length_cons, List.length_nil, List.cons_append, List.nil_append, Nat.reduceAdd, Nat.reduceSub, List.reduceReplicate] at h; subst h
  have GG := GroR.refl rb w
  have hrb := lt_of_heap krb
  have HC := rdNum rb so sc l i w krb HB hl
  rw [hK] at HC
  refine wp_seq (wp_region_lit (mv 2 (.nilIface) (wpList_nil (then_n (wp_seq (wp_seq (wp_region_lit (mv 3 (.pointer (some ⟨rb, 0, none⟩)) ?_))))))))
  simp only [z0, z1]
  refine s_callp rfl _ 50 Try.call50 rfl rfl _ rfl [.pointer (some ⟨rb, 0, none⟩)] rfl (rd_err HC) ?_
  intro w1 G
  replace GG := GG.trans G
  refine then_p (then_p ?_)
  refine post_p rfl ?_
  exact ⟨GG, rfl⟩
theorem rdBody (rb : Nat) (so : Option Addr) (sc : Nat) (l : List Nat) (i : Nat) (w : World) (krb : w.heap[rb]? = some (.cells (c123 ⟨so, l.length, sc⟩ (i : Int)) 117 (0, 0))) (HB : BS rb w so sc l) (hl : l.length ≤ 140737488355000) : Calls Try.prog 46 #[.pointer (some ⟨rb, 0, none⟩)] w (RdP rb so sc l.length w (rdB l i) (BodyP w.heap.size)) := by
  unfold rdB
  cases hK : rdN l i with
  | error e => exact body_rdE rb so sc l i w krb HB hl e hK
  | ok p =>
    obtain ⟨x1, i1⟩ := p
    by_cases hx : 1 ≤ x1 ∧ x1 ≤ 12
    · rcases is12 hx.1 hx.2 with rfl | rfl | rfl | rfl | rfl | rfl | rfl | rfl | rfl | rfl | rfl | rfl
      · exact body_rd1 rb so sc l i w krb HB hl i1 hK
      · exact body_rd2 rb so sc l i w krb HB hl i1 hK
      · exact body_rd3 rb so sc l i w krb HB hl i1 hK
      · exact body_rd4 rb so sc l i w krb HB hl i1 hK
      · exact body_rd5 rb so sc l i w krb HB hl i1 hK
      · exact body_rd6 rb so sc l i w krb HB hl i1 hK
      · exact body_rd7 rb so sc l i w krb HB hl i1 hK
      · exact body_rd8 rb so sc l i w krb HB hl i1 hK
      · exact body_rd9 rb so sc l i w krb HB hl i1 hK
      · exact body_rd10 rb so sc l i w krb HB hl i1 hK
      · exact body_rd11 rb so sc l i w krb HB hl i1 hK
      · exact body_rd12 rb so sc l i w krb HB hl i1 hK
    · have hd : (thenR (Except.ok (x1, i1)) fun k q => (match k with
        | 1 => rdB1 l q
        | 2 => rdB2 l q
        | 3 => rdB3 l q
        | 4 => rdB4 l q
        | 5 => rdB5 l q
        | 6 => rdB6 l q
        | 7 => rdB7 l q
        | 8 => rdB8 l q
        | 9 => rdB9 l q
        | 10 => rdB10 l q
        | 11 => rdB11 l q
        | 12 => rdB12 l q
        | _ => .error 2 : Except Nat ((Nat × Fr × FD) × Nat))) = .error 2 := by
        unfold thenR
        dsimp only
        split <;> first | rfl | omega
      rw [hd]
      exact body_rd0 rb so sc l i w krb HB hl x1 i1 hK hx
end Go.Proofs.Ythmcnlmphikicab
