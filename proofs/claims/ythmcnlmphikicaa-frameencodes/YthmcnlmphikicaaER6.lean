/- Reading: a body, kind by kind. -/
import Derived.Test.YthmcnlmphikicaaER5
import Derived.Test.YthmcnlmphikicaaEG1
namespace Go.Proofs.Ythmcnlmphikicaa
open Go.RowKit
/-- A body that was read: rows of its own. -/
def BodyP (B : Nat) (a : Nat × Fr × FD) (v : Value) (w : World) : Prop := ∃ s1 s2 s3 s4 : Sl, v = bodyV a.1 { a.2.1 with tr := s1, ids := s2, val := s3, tx := s4 } ∧ FrO w B { a.2.1 with tr := s1, ids := s2, val := s3, tx := s4 } a.2.2 ∧ 1 ≤ a.1 ∧ a.1 ≤ 12
def rdB5 (l : List Nat) (i : Nat) : Except Nat ((Nat × Fr × FD) × Nat) := thenR (rdPa l i) fun x2 q => .ok ((5, (⟨0, (idF x2.1), ((x2.2 : Nat) : Int), false, zF, zF, 0, 0, 0, 0, 0, Sl.nil, Sl.nil, zF, 0, zF, Sl.nil, 0, 0, Sl.nil⟩ : Fr), (⟨[], [], [], []⟩ : FD)), q)
set_option maxRecDepth 100000 in
set_option maxHeartbeats 4000000 in
theorem body_rd5 (rb : Nat) (so : Option Addr) (sc : Nat) (l : List Nat) (i : Nat) (w : World) (krb : w.heap[rb]? = some (.cells (c123 ⟨so, l.length, sc⟩ (i : Int)) 123 (0, 0))) (HB : BS rb w so sc l) (hl : l.length ≤ 140737488355000) (i1 : Nat) (hK : rdN l i = .ok (5, i1)) : Calls Try.prog 56 #[.pointer (some ⟨rb, 0, none⟩)] w (RdP rb so sc l.length w (rdB5 l i1) (BodyP w.heap.size)) := by
  refine s_enterR Try.func56 rfl Try.ntmps56 [.pointer (some ⟨rb, 0, none⟩)] ?_
  intro U h; simp only [List.length_cons, List.length_nil, List.cons_append, List.nil_append, Nat.reduceAdd, Nat.reduceSub, List.reduceReplicate] at h; subst h
  have GG := GroR.refl rb w
  have hrb := lt_of_heap krb
  refine wp_seq (wp_region_lit (mv 2 (.nilIface) (wpList_nil (then_n (wp_seq (wp_seq (wp_region_lit (mv 3 (.pointer (some ⟨rb, 0, none⟩)) ?_))))))))
  simp only [z0, z1]
  have HC := rdNum rb so sc l i _ krb (HB.gror GG) hl
  rw [hK] at HC
  refine s_callx 4 rfl rfl _ 68 Try.call68 rfl rfl _ rfl [.pointer (some ⟨rb, 0, none⟩)] rfl (rd_ok HC) (fun _ _ ⟨_, he, _⟩ => ⟨_, he⟩) ?_
  rintro v w1 ⟨_, he, hv, G, kn⟩
  cases he
  replace GG := GG.trans G
  replace krb := kn
  subst hv
  clear G HC kn
  refine wpList_nil (then_n (wp_block (wp_seq (wp_region_lit (sv 6 (.bool false) (run_eq_k 2 .i64 _ _ _ rfl Try.underlying2 ((5 : Nat) : Int) 1 rfl rfl false (by decide) _) (mv 5 (.bool false) (wpList_nil (then_n (wp_cond_false rfl (wp_seq (wp_region_lit (sv 16 (.bool false) (run_eq_k 2 .i64 _ _ _ rfl Try.underlying2 ((5 : Nat) : Int) 2 rfl rfl false (by decide) _) (mv 15 (.bool false) ?_)))))))))))))
  simp only [z0, z1]
  refine wpList_nil (then_n (wp_cond_false rfl (wp_seq (wp_region_lit (sv 28 (.bool false) (run_eq_k 2 .i64 _ _ _ rfl Try.underlying2 ((5 : Nat) : Int) 3 rfl rfl false (by decide) _) (mv 27 (.bool false) (wpList_nil (then_n (wp_cond_false rfl (wp_seq (wp_region_lit (sv 38 (.bool false) (run_eq_k 2 .i64 _ _ _ rfl Try.underlying2 ((5 : Nat) : Int) 4 rfl rfl false (by decide) _) (mv 37 (.bool false) (wpList_nil (then_n ?_)))))))))))))))
  refine wp_cond_false rfl (wp_seq (wp_region_lit (sv 50 (.bool true) (run_eq_k 2 .i64 _ _ _ rfl Try.underlying2 ((5 : Nat) : Int) 5 rfl rfl true (by decide) _) ?_)))
  simp only [z0, z1]
  refine mv 49 (.bool true) (wpList_nil (then_n (wp_cond_true rfl (wp_seq (wp_region_lit (mv 51 (.pointer (some ⟨rb, 0, none⟩)) ?_))))))
  simp only [z0, z1]
  obtain ⟨r2, hr2⟩ : ∃ r, rdPa l i1 = r := ⟨_, rfl⟩
  have HC := rdPath rb so sc l i1 _ krb (HB.gror GG) hl
  rw [hr2] at HC
  rcases r2 with e | ⟨x2, i2⟩
  refine s_callp rfl _ 72 Try.call72 rfl rfl _ rfl [.pointer (some ⟨rb, 0, none⟩)] rfl (rd_err HC) ?_
  intro w2 G
  replace GG := GG.trans G
  refine then_p (blk_p (then_p ?_))
  refine post_p rfl ?_
  exact RdP.mk_err (by simp only [rdB5, hr2, thenR]) GG
  have sz2 := GG.size
  have ddrb2 := lt_of_heap krb
  refine s_callx 52 rfl rfl _ 72 Try.call72 rfl rfl _ rfl [.pointer (some ⟨rb, 0, none⟩)] rfl (rd_ok HC) (fun _ _ ⟨_, he, _⟩ => ⟨_, he⟩) ?_
  rintro v w2 ⟨_, he, hv, G, kn⟩
  cases he
  replace GG := GG.trans G
  replace krb := kn
  clear HC kn
  obtain ⟨rfl, h16x2⟩ := hv
  clear G
  refine sv 53 (.agg (c87 (idF x2.1) ((x2.2 : Nat) : Int))) (run_bd 87 _ rfl [(0, .agg (c25 (idF x2.1) ((x2.2 : Nat) : Int)))] rfl _ (by kernel_rfl)) (sv 54 (.iface 87 (.agg (c87 (idF x2.1) ((x2.2 : Nat) : Int)))) (run_mk 87 _ rfl _ rfl) (mv 2 (.iface 87 (.agg (c87 (idF x2.1) ((x2.2 : Nat) : Int)))) (wpList_nil (then_n (wp_ret (blk_r (then_r ?_)))))))
  refine bodyPost_ret (results_tmp Try.results56 _ _ _) rfl ?_
  exact RdP.mk_ok (a := (5, (⟨0, (idF x2.1), ((x2.2 : Nat) : Int), false, zF, zF, 0, 0, 0, 0, 0, Sl.nil, Sl.nil, zF, 0, zF, Sl.nil, 0, 0, Sl.nil⟩ : Fr), (⟨[], [], [], []⟩ : FD))) (by simp only [rdB5, hr2, thenR]) GG (⟨Sl.nil, Sl.nil, Sl.nil, Sl.nil, rfl, ⟨OX.nil _ _ _ _, OX.nil _ _ _ _, OX.nil _ _ _ _, OX.nil _ _ _ _, (by intro x hx; cases hx), (by intro x hx; cases hx), (by intro x hx; cases hx)⟩, Nat.le_of_ble_eq_true rfl, Nat.le_of_ble_eq_true rfl⟩) krb
set_option maxRecDepth 100000 in
set_option maxHeartbeats 4000000 in
theorem body_rd0 (rb : Nat) (so : Option Addr) (sc : Nat) (l : List Nat) (i : Nat) (w : World) (krb : w.heap[rb]? = some (.cells (c123 ⟨so, l.length, sc⟩ (i : Int)) 123 (0, 0))) (HB : BS rb w so sc l) (hl : l.length ≤ 140737488355000) (x1 i1 : Nat) (hK : rdN l i = .ok (x1, i1)) (hx : ¬ (1 ≤ x1 ∧ x1 ≤ 12)) : Calls Try.prog 56 #[.pointer (some ⟨rb, 0, none⟩)] w fun e w' => GroR rb w w' ∧ e = .panicked (thrown 2) := by
  refine s_enterR Try.func56 rfl Try.ntmps56 [.pointer (some ⟨rb, 0, none⟩)] ?_
  intro U h; simp only [List.length_cons, List.length_nil, List.cons_append, List.nil_append, Nat.reduceAdd, Nat.reduceSub, List.reduceReplicate] at h; subst h
  have GG := GroR.refl rb w
  have hrb := lt_of_heap krb
  refine wp_seq (wp_region_lit (mv 2 (.nilIface) (wpList_nil (then_n (wp_seq (wp_seq (wp_region_lit (mv 3 (.pointer (some ⟨rb, 0, none⟩)) ?_))))))))
  simp only [z0, z1]
  have HC := rdNum rb so sc l i _ krb (HB.gror GG) hl
  rw [hK] at HC
  refine s_callx 4 rfl rfl _ 68 Try.call68 rfl rfl _ rfl [.pointer (some ⟨rb, 0, none⟩)] rfl (rd_ok HC) (fun _ _ ⟨_, he, _⟩ => ⟨_, he⟩) ?_
  rintro v w1 ⟨_, he, hv, G, kn⟩
  cases he
  replace GG := GG.trans G
  replace krb := kn
  subst hv
  clear G HC kn
  refine wpList_nil (then_n (wp_block (wp_seq (wp_region_lit (sv 6 (.bool false) (run_eq_k 2 .i64 _ _ _ rfl Try.underlying2 ((x1 : Nat) : Int) 1 rfl rfl false (decide_eq_false (by omega)) _) (mv 5 (.bool false) (wpList_nil (then_n (wp_cond_false rfl (wp_seq (wp_region_lit (sv 16 (.bool false) (run_eq_k 2 .i64 _ _ _ rfl Try.underlying2 ((x1 : Nat) : Int) 2 rfl rfl false (decide_eq_false (by omega)) _) (mv 15 (.bool false) ?_)))))))))))))
  simp only [z0, z1]
  refine wpList_nil (then_n (wp_cond_false rfl (wp_seq (wp_region_lit (sv 28 (.bool false) (run_eq_k 2 .i64 _ _ _ rfl Try.underlying2 ((x1 : Nat) : Int) 3 rfl rfl false (decide_eq_false (by omega)) _) (mv 27 (.bool false) (wpList_nil (then_n (wp_cond_false rfl (wp_seq (wp_region_lit (sv 38 (.bool false) (run_eq_k 2 .i64 _ _ _ rfl Try.underlying2 ((x1 : Nat) : Int) 4 rfl rfl false (decide_eq_false (by omega)) _) (mv 37 (.bool false) (wpList_nil (then_n ?_)))))))))))))))
  refine wp_cond_false rfl (wp_seq (wp_region_lit (sv 50 (.bool false) (run_eq_k 2 .i64 _ _ _ rfl Try.underlying2 ((x1 : Nat) : Int) 5 rfl rfl false (decide_eq_false (by omega)) _) ?_)))
  simp only [z0, z1]
  refine mv 49 (.bool false) (wpList_nil (then_n (wp_cond_false rfl (wp_seq (wp_region_lit (sv 56 (.bool false) (run_eq_k 2 .i64 _ _ _ rfl Try.underlying2 ((x1 : Nat) : Int) 6 rfl rfl false (decide_eq_false (by omega)) _) (mv 55 (.bool false) (wpList_nil (then_n (wp_cond_false rfl (wp_seq (wp_region_lit (sv 64 (.bool false) (run_eq_k 2 .i64 _ _ _ rfl Try.underlying2 ((x1 : Nat) : Int) 7 rfl rfl false (decide_eq_false (by omega)) _) (mv 63 (.bool false) ?_))))))))))))))
  simp only [z0, z1]
  refine wpList_nil (then_n (wp_cond_false rfl (wp_seq (wp_region_lit (sv 74 (.bool false) (run_eq_k 2 .i64 _ _ _ rfl Try.underlying2 ((x1 : Nat) : Int) 8 rfl rfl false (decide_eq_false (by omega)) _) (mv 73 (.bool false) (wpList_nil (then_n (wp_cond_false rfl (wp_seq (wp_region_lit (sv 90 (.bool false) (run_eq_k 2 .i64 _ _ _ rfl Try.underlying2 ((x1 : Nat) : Int) 9 rfl rfl false (decide_eq_false (by omega)) _) (mv 89 (.bool false) (wpList_nil (then_n ?_)))))))))))))))
  refine wp_cond_false rfl (wp_seq (wp_region_lit (sv 98 (.bool false) (run_eq_k 2 .i64 _ _ _ rfl Try.underlying2 ((x1 : Nat) : Int) 10 rfl rfl false (decide_eq_false (by omega)) _) ?_)))
  simp only [z0, z1]
  refine mv 97 (.bool false) (wpList_nil (then_n (wp_cond_false rfl (wp_seq (wp_region_lit (sv 116 (.bool false) (run_eq_k 2 .i64 _ _ _ rfl Try.underlying2 ((x1 : Nat) : Int) 11 rfl rfl false (decide_eq_false (by omega)) _) (mv 115 (.bool false) (wpList_nil (then_n (wp_cond_false rfl (wp_seq (wp_region_lit (sv 126 (.bool false) (run_eq_k 2 .i64 _ _ _ rfl Try.underlying2 ((x1 : Nat) : Int) 12 rfl rfl false (decide_eq_false (by omega)) _) (mv 125 (.bool false) ?_))))))))))))))
  simp only [z0, z1]
  refine wpList_nil (then_n (wp_cond_false rfl (wp_skip (blk_n (then_n (wp_region_lit (sv 137 (.iface 38 (.int .i64 2)) (run_mk 38 _ rfl _ rfl) ?_)))))))
  simp only [z0, z1]
  refine s_panic rfl _ rfl 38 (.int .i64 2) rfl ?_
  refine post_p rfl ?_
  exact ⟨GG, rfl⟩
def okK (l : List Nat) (i : Nat) : Bool :=
  match rdN l i with
  | .ok (k, _) => k == 5 || k == 0 || decide (12 < k)
  | .error _ => true
def rdB (l : List Nat) (i : Nat) : Except Nat ((Nat × Fr × FD) × Nat) := thenR (rdN l i) fun k q =>
  match k with
  | 5 => rdB5 l q
  | _ => .error 2
set_option maxRecDepth 100000 in
set_option maxHeartbeats 4000000 in
theorem body_rdE (rb : Nat) (so : Option Addr) (sc : Nat) (l : List Nat) (i : Nat) (w : World) (krb : w.heap[rb]? = some (.cells (c123 ⟨so, l.length, sc⟩ (i : Int)) 123 (0, 0))) (HB : BS rb w so sc l) (hl : l.length ≤ 140737488355000) (e : Nat) (hK : rdN l i = .error e) : Calls Try.prog 56 #[.pointer (some ⟨rb, 0, none⟩)] w fun e' w' => GroR rb w w' ∧ e' = .panicked (thrown e) := by
  refine s_enterR Try.func56 rfl Try.ntmps56 [.pointer (some ⟨rb, 0, none⟩)] ?_
  intro U h; simp only [List.length_cons, List.length_nil, List.cons_append, List.nil_append, Nat.reduceAdd, Nat.reduceSub, List.reduceReplicate] at h; subst h
  have GG := GroR.refl rb w
  have hrb := lt_of_heap krb
  have HC := rdNum rb so sc l i w krb HB hl
  rw [hK] at HC
  refine wp_seq (wp_region_lit (mv 2 (.nilIface) (wpList_nil (then_n (wp_seq (wp_seq (wp_region_lit (mv 3 (.pointer (some ⟨rb, 0, none⟩)) ?_))))))))
  simp only [z0, z1]
  refine s_callp rfl _ 68 Try.call68 rfl rfl _ rfl [.pointer (some ⟨rb, 0, none⟩)] rfl (rd_err HC) ?_
  intro w1 G
  replace GG := GG.trans G
  refine then_p (then_p ?_)
  refine post_p rfl ?_
  exact ⟨GG, rfl⟩
theorem rdBody (rb : Nat) (so : Option Addr) (sc : Nat) (l : List Nat) (i : Nat) (w : World) (krb : w.heap[rb]? = some (.cells (c123 ⟨so, l.length, sc⟩ (i : Int)) 123 (0, 0))) (HB : BS rb w so sc l) (hl : l.length ≤ 140737488355000) (hK5 : okK l i = true) : Calls Try.prog 56 #[.pointer (some ⟨rb, 0, none⟩)] w (RdP rb so sc l.length w (rdB l i) (BodyP w.heap.size)) := by
  unfold rdB
  unfold okK at hK5
  cases hK : rdN l i with
  | error e => exact body_rdE rb so sc l i w krb HB hl e hK
  | ok p =>
    obtain ⟨x1, i1⟩ := p
    rw [hK] at hK5
    by_cases h5 : x1 = 5
    · subst h5
      exact body_rd5 rb so sc l i w krb HB hl i1 hK
    · have hx : ¬ (1 ≤ x1 ∧ x1 ≤ 12) := by
        simp at hK5
        omega
      have hd : (thenR (Except.ok (x1, i1)) fun k q => (match k with
        | 5 => rdB5 l q
        | _ => .error 2 : Except Nat ((Nat × Fr × FD) × Nat))) = .error 2 := by
        unfold thenR
        dsimp only
        split <;> first | rfl | omega
      rw [hd]
      exact body_rd0 rb so sc l i w krb HB hl x1 i1 hK hx
end Go.Proofs.Ythmcnlmphikicaa
