/- Whether a body is right (frame.Right), and whether a frame has nothing beside what counts. -/
import Derived.Test.YthmcnlmphikicabZG2
namespace Go.Proofs.Ythmcnlmphikicab
open Go.RowKit
theorem run_len {P : Program} {o : Oper} {A : Act} {t e : TypeId} (hu : P.underlying t = some (.slice e)) (x : Operand) (ho : o.op = .call { callee := .builtin .len, args := #[x], argTypes := #[t] }) (ao : Option Addr) (n cap : Nat) (hx : A.eval x = .slice ao n cap) (w : World) : (execOp A.eval o).run P w = .ok (.value (.int .i64 (n : Int))) w := by
  have hr := run_underlying hu w
  unfold execOp
  simp [ho, resolve, invoke, builtin, hx, Builtin.len_, hr, goInt]
theorem contains_g (g : Fr) (d : FD) (w : World) (HW : FrW w g d) (hl : d.tr.length ≤ 140737488355000) : Calls Try.prog 29 #[.slice g.tr.ao g.tr.n g.tr.cap, .func (.func 30) #[] #[]] w fun e w' => e = .returned (.bool (!trOK d.tr)) ∧ Gro w w' := by
  have h := HW.tr
  rw [HW.trn] at h ⊢
  exact containsFunc_any _ _ d.tr w h hl
theorem equalI_g (f g : Fr) (df dg : FD) (w : World) (HF : FrW w f df) (HG : FrW w g dg) (hl : df.tr.length ≤ 140737488355000) : Calls Try.prog 31 #[.slice f.tr.ao f.tr.n f.tr.cap, .slice g.tr.ao g.tr.n g.tr.cap] w fun e w' => e = .returned (.bool (decide (df.tr = dg.tr))) ∧ Gro w w' := by
  have h := HF.tr
  have h' := HG.tr
  rw [HF.trn] at h ⊢
  rw [HG.trn] at h' ⊢
  exact equalI_any _ _ _ _ df.tr dg.tr w h h' hl
theorem equalD_g (f g : Fr) (df dg : FD) (w : World) (HF : FrW w f df) (HG : FrW w g dg) (hl : df.ids.length ≤ 140737488355000) : Calls Try.prog 32 #[.slice f.ids.ao f.ids.n f.ids.cap, .slice g.ids.ao g.ids.n g.ids.cap] w fun e w' => e = .returned (.bool (decide (df.ids = dg.ids))) ∧ Gro w w' := by
  have h := HF.ids
  have h' := HG.ids
  rw [HF.idn] at h ⊢
  rw [HG.idn] at h' ⊢
  exact equalD_any _ _ _ _ df.ids dg.ids w h h' HF.oids HG.oids hl
theorem equalT_g (f g : Fr) (df dg : FD) (w : World) (HF : FrW w f df) (HG : FrW w g dg) : Calls Try.prog 33 #[.slice f.tx.ao f.tx.n f.tx.cap, .slice g.tx.ao g.tx.n g.tx.cap] w fun e w' => e = .returned (.bool (decide (df.tx = dg.tx))) ∧ Gro w w' := by
  have h := xc_nc HF.tx HF.otx
  have h' := xc_nc HG.tx HG.otx
  rw [HF.txn, HG.txn]
  exact bytesEqual_any _ _ _ _ df.tx dg.tx w h h'
theorem equalV_g (f g : Fr) (df dg : FD) (w : World) (HF : FrW w f df) (HG : FrW w g dg) : Calls Try.prog 33 #[.slice f.val.ao f.val.n f.val.cap, .slice g.val.ao g.val.n g.val.cap] w fun e w' => e = .returned (.bool (decide (df.val = dg.val))) ∧ Gro w w' := by
  have h := xc_nc HF.val HF.oval
  have h' := xc_nc HG.val HG.oval
  rw [HF.valn, HG.valn]
  exact bytesEqual_any _ _ _ _ df.val dg.val w h h'
def listB (g : Fr) (d : FD) : Bool := decide (((g.tr.n : Nat) : Int) ≤ 64) && (trOK d.tr && (decide (((g.ids.n : Nat) : Int) ≤ 16) && decide (((g.val.n : Nat) : Int) ≤ 64)))
def ownB (k : Nat) (f : Fr) : Bool :=
  match k with
  | 2 => decide (((f.tx.n : Nat) : Int) ≤ 4096)
  | 8 => decide (0 ≤ f.op) && decide (f.op ≤ 3)
  | 10 => decide (1 ≤ f.op) && (decide (f.op ≤ 4) && (decide (0 ≤ f.ttl) && (decide (f.ttl ≤ 64) && decide (((f.tx.n : Nat) : Int) ≤ 64))))
  | _ => true
def rightB (g : Fr) (d : FD) (ob : Bool) : Bool := numB g && (listB g d && ob)
def sameB (f g : Fr) (df dg : FD) : Bool := (decide (idL f.pw = idL g.pw) && decide (f.pn = g.pn)) && (decide (f.toA = g.toA) && (decide (idL f.a = idL g.a) && (decide (idL f.b = idL g.b) && (decide (f.n = g.n) && ((decide (f.fi = g.fi) && decide (f.fn = g.fn)) && ((decide (f.ti = g.ti) && decide (f.tn = g.tn)) && (decide (f.op = g.op) && (decide (f.ttl = g.ttl) && (decide (df.tr = dg.tr) && (decide (df.ids = dg.ids) && (decide (df.tx = dg.tx) && (decide (idL f.key = idL g.key) && ((decide (f.vn = g.vn) && decide (idL f.vw = idL g.vw)) && decide (df.val = dg.val))))))))))))))
set_option maxRecDepth 100000 in
set_option maxHeartbeats 4000000 in
theorem listsRight_any (g : Fr) (dd : FD) (w : World) (HW : FrW w g dd) (hl : dd.tr.length ≤ 140737488355000) : Calls Try.prog 19 #[.agg (frA g)] w fun e w' => e = .returned (.bool (listB g dd)) ∧ Gro w w' := by
  show Calls Try.prog 19 #[.agg (c36 g.kind g.pw g.pn g.toA g.a g.b g.n g.fi g.fn g.ti g.tn g.tr g.ids g.key g.vn g.vw g.val g.op g.ttl g.tx)] w _
  refine s_enterR Try.func19 rfl Try.ntmps19 [.agg (c36 g.kind g.pw g.pn g.toA g.a g.b g.n g.fi g.fn g.ti g.tn g.tr g.ids g.key g.vn g.vw g.val g.op g.ttl g.tx)] ?_
  intro U h; simp only [List.length_cons, List.length_nil, List.cons_append, List.nil_append, Nat.reduceAdd, Nat.reduceSub, List.reduceReplicate] at h; subst h
  have GG := Gro.refl w
  refine wp_seq (wp_region_lit ?_)
  refine s_box 1 rfl rfl 40 _ rfl _ rfl (c36 g.kind g.pw g.pn g.toA g.a g.b g.n g.fi g.fn g.ti g.tn g.tr g.ids g.key g.vn g.vw g.val g.op g.ttl g.tx) rfl ?_
  intro w1 g1 G eg1 kg1
  have bg1 := size_base GG eg1
  replace GG := GG.trans G
  clear G eg1
  refine mv 2 (.bool false) (wpList_nil (then_n (wp_seq (wp_region_lit (sv 3 (.pointer (some ⟨g1, 56, none⟩)) (run_fld 40 _ 8 rfl _ _ rfl _) ?_)))))
  refine nr ?_; intro U h; simp only [z0, z1] at h; subst h
  refine sv 4 (.slice g.tr.ao g.tr.n g.tr.cap) (run_ldc 32 _ rfl g1 56 rfl 40 _ kg1 (na28 _) _ rfl) (sv 5 (.int .i64 ((g.tr.n : Nat) : Int)) (run_len Try.underlying32 _ rfl _ _ _ rfl _) ?_)
  refine nr ?_; intro U h; simp only [z0, z1] at h; subst h
  obtain ⟨p1, hp1⟩ : ∃ p, decide (((g.tr.n : Nat) : Int) ≤ 64) = p := ⟨_, rfl⟩
  refine sv 6 (.bool p1) (run_leqT 3 _ _ _ rfl ((g.tr.n : Nat) : Int) 64 rfl rfl p1 hp1 _) ?_
  refine nr ?_; intro U h; simp only [z0, z1] at h; subst h
  cases p1
  refine s_val _ rfl rfl (.bool false) rfl ?_
  refine nr ?_; intro U h; simp only [z0, z1] at h; subst h
  iterate 4 (refine s_skip _ rfl rfl ?_; refine nr ?_; intro U h; simp only [z0, z1] at h; subst h)
  refine s_val _ rfl rfl (.bool false) rfl ?_
  refine s_val _ rfl rfl (.bool false) rfl ?_
  refine nr ?_; intro U h; simp only [z0, z1] at h; subst h
  iterate 4 (refine s_skip _ rfl rfl ?_; refine nr ?_; intro U h; simp only [z0, z1] at h; subst h)
  refine s_val _ rfl rfl (.bool false) rfl ?_
  refine s_val _ rfl rfl (.bool false) rfl ?_
  refine nr ?_; intro U h; simp only [z0, z1] at h; subst h
  iterate 5 (refine s_skip _ rfl rfl ?_; refine nr ?_; intro U h; simp only [z0, z1] at h; subst h)
  refine s_val _ rfl rfl (.bool false) rfl ?_
  refine s_val _ rfl rfl (.bool false) rfl ?_
  refine wpList_nil (then_n (wp_ret ?_))
  refine bodyPost_ret (results_tmp Try.results19 _ _ _) rfl ?_
  refine ⟨?_, GG⟩
  show Ending.returned (.bool false) = _
  unfold listB
  rw [hp1]
  first | done | rfl
  refine mv 7 (.bool true) ?_
  refine nr ?_; intro U h; simp only [z0, z1] at h; subst h
  refine s_gval 8 rfl rfl (.pointer (some ⟨g1, 56, none⟩)) (run_fld 40 _ 8 rfl _ _ rfl _) (s_gval 9 rfl rfl (.slice g.tr.ao g.tr.n g.tr.cap) (run_ldc 32 _ rfl g1 56 rfl 40 _ kg1 (na28 _) _ rfl) ?_)
  refine nr ?_; intro U h; simp only [z0, z1] at h; subst h
  obtain ⟨p2, hp2⟩ : ∃ p, (!trOK dd.tr) = p := ⟨_, rfl⟩
  have HC := contains_g g dd _ (HW.gro GG) hl
  rw [hp2] at HC
  have np2 : trOK dd.tr = !p2 := by rw [← hp2]; simp
  refine s_gcallv 10 rfl rfl _ 29 Try.call29 rfl rfl _ rfl [.slice g.tr.ao g.tr.n g.tr.cap, .func (.func 30) #[] #[]] rfl (HC) ?_
  intro w2 G
  replace kg1 := G.has kg1
  replace GG := GG.trans G
  clear G
  refine nr ?_; intro U h; simp only [z0, z1] at h; subst h
  clear HC
  cases p2
  refine s_gval 11 rfl rfl (.bool true) (run_nt _ _ rfl false rfl) (mv 12 (.bool true) (mv 13 (.bool true) ?_))
  refine nr ?_; intro U h; simp only [z0, z1] at h; subst h
  refine s_gval 14 rfl rfl (.pointer (some ⟨g1, 57, none⟩)) (run_fld 40 _ 9 rfl _ _ rfl _) (s_gval 15 rfl rfl (.slice g.ids.ao g.ids.n g.ids.cap) (run_ldc 33 _ rfl g1 57 rfl 40 _ kg1 (na29 _) _ rfl) (s_gval 16 rfl rfl (.int .i64 ((g.ids.n : Nat) : Int)) (run_len Try.underlying33 _ rfl _ _ _ rfl _) ?_))
  refine nr ?_; intro U h; simp only [z0, z1] at h; subst h
  obtain ⟨p3, hp3⟩ : ∃ p, decide (((g.ids.n : Nat) : Int) ≤ 16) = p := ⟨_, rfl⟩
  refine s_gval 17 rfl rfl (.bool p3) (run_leqT 3 _ _ _ rfl ((g.ids.n : Nat) : Int) 16 rfl rfl p3 hp3 _) ?_
  refine nr ?_; intro U h; simp only [z0, z1] at h; subst h
  cases p3
  refine s_val _ rfl rfl (.bool false) rfl ?_
  refine s_val _ rfl rfl (.bool false) rfl ?_
  refine nr ?_; intro U h; simp only [z0, z1] at h; subst h
  iterate 5 (refine s_skip _ rfl rfl ?_; refine nr ?_; intro U h; simp only [z0, z1] at h; subst h)
  refine s_val _ rfl rfl (.bool false) rfl ?_
  refine s_val _ rfl rfl (.bool false) rfl ?_
  refine wpList_nil (then_n (wp_ret ?_))
  refine bodyPost_ret (results_tmp Try.results19 _ _ _) rfl ?_
  refine ⟨?_, GG⟩
  show Ending.returned (.bool false) = _
  unfold listB
  rw [hp1, np2, hp3]
  first | done | rfl
  refine mv 18 (.bool true) ?_
  refine nr ?_; intro U h; simp only [z0, z1] at h; subst h
  refine mv 19 (.bool true) (s_gval 20 rfl rfl (.pointer (some ⟨g1, 58, none⟩)) (run_fld 40 _ 10 rfl _ _ rfl _) (s_gval 21 rfl rfl (.pointer (some ⟨g1, 91, none⟩)) (run_fld 38 _ 2 rfl _ _ rfl _) ?_))
  refine nr ?_; intro U h; simp only [z0, z1] at h; subst h
  refine s_gval 22 rfl rfl (.slice g.val.ao g.val.n g.val.cap) (run_ldc 36 _ rfl g1 91 rfl 40 _ kg1 (na32 _) _ rfl) (s_gval 23 rfl rfl (.int .i64 ((g.val.n : Nat) : Int)) (run_len Try.underlying36 _ rfl _ _ _ rfl _) ?_)
  refine nr ?_; intro U h; simp only [z0, z1] at h; subst h
  obtain ⟨p4, hp4⟩ : ∃ p, decide (((g.val.n : Nat) : Int) ≤ 64) = p := ⟨_, rfl⟩
  refine s_gval 24 rfl rfl (.bool p4) (run_leqT 3 _ _ _ rfl ((g.val.n : Nat) : Int) 64 rfl rfl p4 hp4 _) ?_
  refine nr ?_; intro U h; simp only [z0, z1] at h; subst h
  cases p4
  refine s_val _ rfl rfl (.bool false) rfl ?_
  refine s_val _ rfl rfl (.bool false) rfl ?_
  refine wpList_nil (then_n (wp_ret ?_))
  refine bodyPost_ret (results_tmp Try.results19 _ _ _) rfl ?_
  refine ⟨?_, GG⟩
  show Ending.returned (.bool false) = _
  unfold listB
  rw [hp1, np2, hp3, hp4]
  first | done | rfl
  refine mv 25 (.bool true) ?_
  refine nr ?_; intro U h; simp only [z0, z1] at h; subst h
  refine mv 2 (.bool true) (wpList_nil (then_n (wp_ret ?_)))
  refine bodyPost_ret (results_tmp Try.results19 _ _ _) rfl ?_
  refine ⟨?_, GG⟩
  show Ending.returned (.bool true) = _
  unfold listB
  rw [hp1, np2, hp3, hp4]
  first | done | rfl
  refine s_gval 11 rfl rfl (.bool false) (run_nt _ _ rfl true rfl) (mv 12 (.bool false) ?_)
  refine nr ?_; intro U h; simp only [z0, z1] at h; subst h
  refine mv 13 (.bool false) (s_skip 14 rfl rfl (s_skip 15 rfl rfl ?_))
  refine nr ?_; intro U h; simp only [z0, z1] at h; subst h
  refine s_skip 16 rfl rfl (s_skip 17 rfl rfl (mv 18 (.bool false) ?_))
  refine nr ?_; intro U h; simp only [z0, z1] at h; subst h
  refine mv 19 (.bool false) (s_skip 20 rfl rfl (s_skip 21 rfl rfl ?_))
  refine nr ?_; intro U h; simp only [z0, z1] at h; subst h
  refine s_skip 22 rfl rfl (s_skip 23 rfl rfl (s_skip 24 rfl rfl ?_))
  refine nr ?_; intro U h; simp only [z0, z1] at h; subst h
  refine mv 25 (.bool false) (mv 2 (.bool false) (wpList_nil (then_n (wp_ret ?_))))
  refine bodyPost_ret (results_tmp Try.results19 _ _ _) rfl ?_
  refine ⟨?_, GG⟩
  show Ending.returned (.bool false) = _
  unfold listB
  rw [hp1, np2]
  first | done | rfl
set_option maxRecDepth 100000 in
set_option maxHeartbeats 4000000 in
theorem ownRight_1 (f : Fr) (w : World) : Calls Try.prog 20 #[.iface 67 (.agg (c79 f.fi f.fn f.ti f.tn f.a))] w fun e w' => e = .returned (.bool (ownB 1 f)) ∧ Gro w w' := by
  refine s_enterR Try.func20 rfl Try.ntmps20 [.iface 67 (.agg (c79 f.fi f.fn f.ti f.tn f.a))] ?_
  intro U h; simp only [List.length_cons, List.length_nil, List.cons_append, List.nil_append, Nat.reduceAdd, Nat.reduceSub, List.reduceReplicate] at h; subst h
  have GG := Gro.refl w
  refine wp_seq (wp_region_lit (mv 2 (.bool false) (wpList_nil (then_n (wp_seq (wp_seq (wp_region_lit (mv 10 (.iface 67 (.agg (c79 f.fi f.fn f.ti f.tn f.a))) (sv 11 (.tuple #[.agg (c81 0 0 0 0 0 Sl.nil), .bool false]) (run_ta _ 23 69 true rfl _ _ rfl) ?_)))))))))
  refine nr ?_; intro U h; simp only [z0, z1] at h; subst h
  refine mv 9 (.tuple #[.agg (c81 0 0 0 0 0 Sl.nil), .bool false]) (mv 12 (.agg (c81 0 0 0 0 0 Sl.nil)) (mv 13 (.bool false) ?_))
  refine nr ?_; intro U h; simp only [z0, z1] at h; subst h
  refine s_alloc 3 rfl rfl 69 rfl _ zv81 _ rfl ?_
  intro w1 g1 G eg1 kg1
  have bg1 := size_base GG eg1
  replace GG := GG.trans G
  clear G eg1
  refine s_store rfl rfl 69 _ _ rfl g1 0 rfl (.agg (c81 0 0 0 0 0 Sl.nil)) rfl 69 _ kg1 (c81 0 0 0 0 0 Sl.nil) rfl (by kernel_rfl) (Nat.le_of_ble_eq_true rfl) (by kernel_rfl) (c81 0 0 0 0 0 Sl.nil) (by kernel_rfl) ?_
  intro w3 S
  replace GG := GG.store S bg1
  replace kg1 := S.new
  clear S
  refine mv 4 (.bool false) (wpList_nil (then_n (wp_seq (wp_region_lit (mv 14 (.bool false) ?_)))))
  refine nr ?_; intro U h; simp only [z0, z1] at h; subst h
  refine wpList_nil (then_n (wp_cond_false rfl (wp_skip (then_n (wp_seq (wp_seq (wp_region_lit (mv 20 (.iface 67 (.agg (c79 f.fi f.fn f.ti f.tn f.a))) (sv 21 (.tuple #[.agg (c93 zF zF 0 zF 0 false Sl.nil), .bool false]) (run_ta _ 23 81 true rfl _ _ rfl) (mv 19 (.tuple #[.agg (c93 zF zF 0 zF 0 false Sl.nil), .bool false]) ?_))))))))))
  refine nr ?_; intro U h; simp only [z0, z1] at h; subst h
  refine mv 22 (.agg (c93 zF zF 0 zF 0 false Sl.nil)) (mv 23 (.bool false) ?_)
  refine s_alloc 5 rfl rfl 81 rfl _ zv93 _ rfl ?_
  intro w4 g2 G eg2 kg2
  have bg2 := size_base GG eg2
  have dg1g2 := lt_new kg1 eg2
  replace kg1 := G.has kg1
  replace GG := GG.trans G
  clear G eg2
  refine nr ?_; intro U h; simp only [z0, z1] at h; subst h
  refine s_store rfl rfl 81 _ _ rfl g2 0 rfl (.agg (c93 zF zF 0 zF 0 false Sl.nil)) rfl 81 _ kg2 (c93 zF zF 0 zF 0 false Sl.nil) rfl (by kernel_rfl) (Nat.le_of_ble_eq_true rfl) (by kernel_rfl) (c93 zF zF 0 zF 0 false Sl.nil) (by kernel_rfl) ?_
  intro w6 S
  replace kg1 := S.has (by omega) kg1
  replace GG := GG.store S bg2
  replace kg2 := S.new
  clear S
  refine mv 6 (.bool false) (wpList_nil (then_n (wp_seq (wp_region_lit (mv 24 (.bool false) (wpList_nil (then_n (wp_cond_false rfl (wp_skip (then_n (wp_seq (wp_seq (wp_region_lit (mv 34 (.iface 67 (.agg (c79 f.fi f.fn f.ti f.tn f.a))) ?_))))))))))))))
  refine nr ?_; intro U h; simp only [z0, z1] at h; subst h
  refine sv 35 (.tuple #[.agg (c97 zF zF 0 0 0 zF 0 zF Sl.nil Sl.nil), .bool false]) (run_ta _ 23 85 true rfl _ _ rfl) (mv 33 (.tuple #[.agg (c97 zF zF 0 0 0 zF 0 zF Sl.nil Sl.nil), .bool false]) (mv 36 (.agg (c97 zF zF 0 0 0 zF 0 zF Sl.nil Sl.nil)) ?_))
  refine nr ?_; intro U h; simp only [z0, z1] at h; subst h
  refine mv 37 (.bool false) ?_
  refine s_alloc 7 rfl rfl 85 rfl _ zv97 _ rfl ?_
  intro w7 g3 G eg3 kg3
  have bg3 := size_base GG eg3
  have dg1g3 := lt_new kg1 eg3
  have dg2g3 := lt_new kg2 eg3
  replace kg1 := G.has kg1
  replace kg2 := G.has kg2
  replace GG := GG.trans G
  clear G eg3
  refine s_store rfl rfl 85 _ _ rfl g3 0 rfl (.agg (c97 zF zF 0 0 0 zF 0 zF Sl.nil Sl.nil)) rfl 85 _ kg3 (c97 zF zF 0 0 0 zF 0 zF Sl.nil Sl.nil) rfl (by kernel_rfl) (Nat.le_of_ble_eq_true rfl) (by kernel_rfl) (c97 zF zF 0 0 0 zF 0 zF Sl.nil Sl.nil) (by kernel_rfl) ?_
  intro w9 S
  replace kg1 := S.has (by omega) kg1
  replace kg2 := S.has (by omega) kg2
  replace GG := GG.store S bg3
  replace kg3 := S.new
  clear S
  refine mv 8 (.bool false) ?_
  refine nr ?_; intro U h; simp only [z0, z1] at h; subst h
  refine wpList_nil (then_n (wp_seq (wp_region_lit (mv 38 (.bool false) (wpList_nil (then_n (wp_cond_false rfl (wp_skip (then_n (wp_seq (wp_region_lit (mv 2 (.bool true) (wpList_nil (then_n (wp_ret ?_)))))))))))))))
  refine bodyPost_ret (results_tmp Try.results20 _ _ _) rfl ?_
  refine ⟨?_, GG⟩
  show Ending.returned (.bool true) = _
  unfold ownB
  first | done | rfl
set_option maxRecDepth 100000 in
set_option maxHeartbeats 4000000 in
theorem ownRight_2 (f : Fr) (w : World) : Calls Try.prog 20 #[.iface 69 (.agg (c81 f.fi f.fn f.ti f.tn f.n f.tx))] w fun e w' => e = .returned (.bool (ownB 2 f)) ∧ Gro w w' := by
  refine s_enterR Try.func20 rfl Try.ntmps20 [.iface 69 (.agg (c81 f.fi f.fn f.ti f.tn f.n f.tx))] ?_
  intro U h; simp only [List.length_cons, List.length_nil, List.cons_append, List.nil_append, Nat.reduceAdd, Nat.reduceSub, List.reduceReplicate] at h; subst h
  have GG := Gro.refl w
  refine wp_seq (wp_region_lit (mv 2 (.bool false) (wpList_nil (then_n (wp_seq (wp_seq (wp_region_lit (mv 10 (.iface 69 (.agg (c81 f.fi f.fn f.ti f.tn f.n f.tx))) (sv 11 (.tuple #[.agg (c81 f.fi f.fn f.ti f.tn f.n f.tx), .bool true]) (run_ta _ 23 69 true rfl _ _ rfl) ?_)))))))))
  refine nr ?_; intro U h; simp only [z0, z1] at h; subst h
  refine mv 9 (.tuple #[.agg (c81 f.fi f.fn f.ti f.tn f.n f.tx), .bool true]) (mv 12 (.agg (c81 f.fi f.fn f.ti f.tn f.n f.tx)) (mv 13 (.bool true) ?_))
  refine nr ?_; intro U h; simp only [z0, z1] at h; subst h
  refine s_alloc 3 rfl rfl 69 rfl _ zv81 _ rfl ?_
  intro w1 g1 G eg1 kg1
  have bg1 := size_base GG eg1
  replace GG := GG.trans G
  clear G eg1
  refine s_store rfl rfl 69 _ _ rfl g1 0 rfl (.agg (c81 f.fi f.fn f.ti f.tn f.n f.tx)) rfl 69 _ kg1 (c81 f.fi f.fn f.ti f.tn f.n f.tx) rfl (by kernel_rfl) (Nat.le_of_ble_eq_true rfl) (by kernel_rfl) (c81 f.fi f.fn f.ti f.tn f.n f.tx) (by kernel_rfl) ?_
  intro w3 S
  replace GG := GG.store S bg1
  replace kg1 := S.new
  clear S
  refine mv 4 (.bool true) (wpList_nil (then_n (wp_seq (wp_region_lit (mv 14 (.bool true) ?_)))))
  refine nr ?_; intro U h; simp only [z0, z1] at h; subst h
  refine wpList_nil (then_n (wp_cond_true rfl (wp_seq (wp_region_lit (sv 15 (.pointer (some ⟨g1, 5, none⟩)) (run_fld 69 _ 3 rfl _ _ rfl _) (sv 16 (.slice f.tx.ao f.tx.n f.tx.cap) (run_ldc 36 _ rfl g1 5 rfl 69 _ kg1 (na32 _) _ rfl) (sv 17 (.int .i64 ((f.tx.n : Nat) : Int)) (run_len Try.underlying36 _ rfl _ _ _ rfl _) ?_)))))))
  refine nr ?_; intro U h; simp only [z0, z1] at h; subst h
  obtain ⟨p1, hp1⟩ : ∃ p, decide (((f.tx.n : Nat) : Int) ≤ 4096) = p := ⟨_, rfl⟩
  refine sv 18 (.bool p1) (run_leqT 3 _ _ _ rfl ((f.tx.n : Nat) : Int) 4096 rfl rfl p1 hp1 _) ?_
  refine nr ?_; intro U h; simp only [z0, z1] at h; subst h
  cases p1
  refine s_val _ rfl rfl (.bool false) rfl ?_
  refine wpList_nil (then_n (wp_ret (then_r ?_)))
  refine bodyPost_ret (results_tmp Try.results20 _ _ _) rfl ?_
  refine ⟨?_, GG⟩
  show Ending.returned (.bool false) = _
  unfold ownB
  rw [hp1]
  first | done | rfl
  refine mv 2 (.bool true) (wpList_nil (then_n (wp_ret (then_r ?_))))
  refine bodyPost_ret (results_tmp Try.results20 _ _ _) rfl ?_
  refine ⟨?_, GG⟩
  show Ending.returned (.bool true) = _
  unfold ownB
  rw [hp1]
  first | done | rfl
set_option maxRecDepth 100000 in
set_option maxHeartbeats 4000000 in
theorem ownRight_3 (f : Fr) (w : World) : Calls Try.prog 20 #[.iface 71 (.agg (c83 f.fi f.fn f.ti f.tn f.n))] w fun e w' => e = .returned (.bool (ownB 3 f)) ∧ Gro w w' := by
  refine s_enterR Try.func20 rfl Try.ntmps20 [.iface 71 (.agg (c83 f.fi f.fn f.ti f.tn f.n))] ?_
  intro U h; simp only [List.length_cons, List.length_nil, List.cons_append, List.nil_append, Nat.reduceAdd, Nat.reduceSub, List.reduceReplicate] at h; subst h
  have GG := Gro.refl w
  refine wp_seq (wp_region_lit (mv 2 (.bool false) (wpList_nil (then_n (wp_seq (wp_seq (wp_region_lit (mv 10 (.iface 71 (.agg (c83 f.fi f.fn f.ti f.tn f.n))) (sv 11 (.tuple #[.agg (c81 0 0 0 0 0 Sl.nil), .bool false]) (run_ta _ 23 69 true rfl _ _ rfl) ?_)))))))))
  refine nr ?_; intro U h; simp only [z0, z1] at h; subst h
  refine mv 9 (.tuple #[.agg (c81 0 0 0 0 0 Sl.nil), .bool false]) (mv 12 (.agg (c81 0 0 0 0 0 Sl.nil)) (mv 13 (.bool false) ?_))
  refine nr ?_; intro U h; simp only [z0, z1] at h; subst h
  refine s_alloc 3 rfl rfl 69 rfl _ zv81 _ rfl ?_
  intro w1 g1 G eg1 kg1
  have bg1 := size_base GG eg1
  replace GG := GG.trans G
  clear G eg1
  refine s_store rfl rfl 69 _ _ rfl g1 0 rfl (.agg (c81 0 0 0 0 0 Sl.nil)) rfl 69 _ kg1 (c81 0 0 0 0 0 Sl.nil) rfl (by kernel_rfl) (Nat.le_of_ble_eq_true rfl) (by kernel_rfl) (c81 0 0 0 0 0 Sl.nil) (by kernel_rfl) ?_
  intro w3 S
  replace GG := GG.store S bg1
  replace kg1 := S.new
  clear S
  refine mv 4 (.bool false) (wpList_nil (then_n (wp_seq (wp_region_lit (mv 14 (.bool false) ?_)))))
  refine nr ?_; intro U h; simp only [z0, z1] at h; subst h
  refine wpList_nil (then_n (wp_cond_false rfl (wp_skip (then_n (wp_seq (wp_seq (wp_region_lit (mv 20 (.iface 71 (.agg (c83 f.fi f.fn f.ti f.tn f.n))) (sv 21 (.tuple #[.agg (c93 zF zF 0 zF 0 false Sl.nil), .bool false]) (run_ta _ 23 81 true rfl _ _ rfl) (mv 19 (.tuple #[.agg (c93 zF zF 0 zF 0 false Sl.nil), .bool false]) ?_))))))))))
  refine nr ?_; intro U h; simp only [z0, z1] at h; subst h
  refine mv 22 (.agg (c93 zF zF 0 zF 0 false Sl.nil)) (mv 23 (.bool false) ?_)
  refine s_alloc 5 rfl rfl 81 rfl _ zv93 _ rfl ?_
  intro w4 g2 G eg2 kg2
  have bg2 := size_base GG eg2
  have dg1g2 := lt_new kg1 eg2
  replace kg1 := G.has kg1
  replace GG := GG.trans G
  clear G eg2
  refine nr ?_; intro U h; simp only [z0, z1] at h; subst h
  refine s_store rfl rfl 81 _ _ rfl g2 0 rfl (.agg (c93 zF zF 0 zF 0 false Sl.nil)) rfl 81 _ kg2 (c93 zF zF 0 zF 0 false Sl.nil) rfl (by kernel_rfl) (Nat.le_of_ble_eq_true rfl) (by kernel_rfl) (c93 zF zF 0 zF 0 false Sl.nil) (by kernel_rfl) ?_
  intro w6 S
  replace kg1 := S.has (by omega) kg1
  replace GG := GG.store S bg2
  replace kg2 := S.new
  clear S
  refine mv 6 (.bool false) (wpList_nil (then_n (wp_seq (wp_region_lit (mv 24 (.bool false) (wpList_nil (then_n (wp_cond_false rfl (wp_skip (then_n (wp_seq (wp_seq (wp_region_lit (mv 34 (.iface 71 (.agg (c83 f.fi f.fn f.ti f.tn f.n))) ?_))))))))))))))
  refine nr ?_; intro U h; simp only [z0, z1] at h; subst h
  refine sv 35 (.tuple #[.agg (c97 zF zF 0 0 0 zF 0 zF Sl.nil Sl.nil), .bool false]) (run_ta _ 23 85 true rfl _ _ rfl) (mv 33 (.tuple #[.agg (c97 zF zF 0 0 0 zF 0 zF Sl.nil Sl.nil), .bool false]) (mv 36 (.agg (c97 zF zF 0 0 0 zF 0 zF Sl.nil Sl.nil)) ?_))
  refine nr ?_; intro U h; simp only [z0, z1] at h; subst h
  refine mv 37 (.bool false) ?_
  refine s_alloc 7 rfl rfl 85 rfl _ zv97 _ rfl ?_
  intro w7 g3 G eg3 kg3
  have bg3 := size_base GG eg3
  have dg1g3 := lt_new kg1 eg3
  have dg2g3 := lt_new kg2 eg3
  replace kg1 := G.has kg1
  replace kg2 := G.has kg2
  replace GG := GG.trans G
  clear G eg3
  refine s_store rfl rfl 85 _ _ rfl g3 0 rfl (.agg (c97 zF zF 0 0 0 zF 0 zF Sl.nil Sl.nil)) rfl 85 _ kg3 (c97 zF zF 0 0 0 zF 0 zF Sl.nil Sl.nil) rfl (by kernel_rfl) (Nat.le_of_ble_eq_true rfl) (by kernel_rfl) (c97 zF zF 0 0 0 zF 0 zF Sl.nil Sl.nil) (by kernel_rfl) ?_
  intro w9 S
  replace kg1 := S.has (by omega) kg1
  replace kg2 := S.has (by omega) kg2
  replace GG := GG.store S bg3
  replace kg3 := S.new
  clear S
  refine mv 8 (.bool false) ?_
  refine nr ?_; intro U h; simp only [z0, z1] at h; subst h
  refine wpList_nil (then_n (wp_seq (wp_region_lit (mv 38 (.bool false) (wpList_nil (then_n (wp_cond_false rfl (wp_skip (then_n (wp_seq (wp_region_lit (mv 2 (.bool true) (wpList_nil (then_n (wp_ret ?_)))))))))))))))
  refine bodyPost_ret (results_tmp Try.results20 _ _ _) rfl ?_
  refine ⟨?_, GG⟩
  show Ending.returned (.bool true) = _
  unfold ownB
  first | done | rfl
set_option maxRecDepth 100000 in
set_option maxHeartbeats 4000000 in
theorem ownRight_4 (f : Fr) (w : World) : Calls Try.prog 20 #[.iface 73 (.agg (c85 f.pw f.pn f.a f.b f.tr))] w fun e w' => e = .returned (.bool (ownB 4 f)) ∧ Gro w w' := by
  refine s_enterR Try.func20 rfl Try.ntmps20 [.iface 73 (.agg (c85 f.pw f.pn f.a f.b f.tr))] ?_
  intro U h; simp only [List.length_cons, List.length_nil, List.cons_append, List.nil_append, Nat.reduceAdd, Nat.reduceSub, List.reduceReplicate] at h; subst h
  have GG := Gro.refl w
  refine wp_seq (wp_region_lit (mv 2 (.bool false) (wpList_nil (then_n (wp_seq (wp_seq (wp_region_lit (mv 10 (.iface 73 (.agg (c85 f.pw f.pn f.a f.b f.tr))) (sv 11 (.tuple #[.agg (c81 0 0 0 0 0 Sl.nil), .bool false]) (run_ta _ 23 69 true rfl _ _ rfl) ?_)))))))))
  refine nr ?_; intro U h; simp only [z0, z1] at h; subst h
  refine mv 9 (.tuple #[.agg (c81 0 0 0 0 0 Sl.nil), .bool false]) (mv 12 (.agg (c81 0 0 0 0 0 Sl.nil)) (mv 13 (.bool false) ?_))
  refine nr ?_; intro U h; simp only [z0, z1] at h; subst h
  refine s_alloc 3 rfl rfl 69 rfl _ zv81 _ rfl ?_
  intro w1 g1 G eg1 kg1
  have bg1 := size_base GG eg1
  replace GG := GG.trans G
  clear G eg1
  refine s_store rfl rfl 69 _ _ rfl g1 0 rfl (.agg (c81 0 0 0 0 0 Sl.nil)) rfl 69 _ kg1 (c81 0 0 0 0 0 Sl.nil) rfl (by kernel_rfl) (Nat.le_of_ble_eq_true rfl) (by kernel_rfl) (c81 0 0 0 0 0 Sl.nil) (by kernel_rfl) ?_
  intro w3 S
  replace GG := GG.store S bg1
  replace kg1 := S.new
  clear S
  refine mv 4 (.bool false) (wpList_nil (then_n (wp_seq (wp_region_lit (mv 14 (.bool false) ?_)))))
  refine nr ?_; intro U h; simp only [z0, z1] at h; subst h
  refine wpList_nil (then_n (wp_cond_false rfl (wp_skip (then_n (wp_seq (wp_seq (wp_region_lit (mv 20 (.iface 73 (.agg (c85 f.pw f.pn f.a f.b f.tr))) (sv 21 (.tuple #[.agg (c93 zF zF 0 zF 0 false Sl.nil), .bool false]) (run_ta _ 23 81 true rfl _ _ rfl) (mv 19 (.tuple #[.agg (c93 zF zF 0 zF 0 false Sl.nil), .bool false]) ?_))))))))))
  refine nr ?_; intro U h; simp only [z0, z1] at h; subst h
  refine mv 22 (.agg (c93 zF zF 0 zF 0 false Sl.nil)) (mv 23 (.bool false) ?_)
  refine s_alloc 5 rfl rfl 81 rfl _ zv93 _ rfl ?_
  intro w4 g2 G eg2 kg2
  have bg2 := size_base GG eg2
  have dg1g2 := lt_new kg1 eg2
  replace kg1 := G.has kg1
  replace GG := GG.trans G
  clear G eg2
  refine nr ?_; intro U h; simp only [z0, z1] at h; subst h
  refine s_store rfl rfl 81 _ _ rfl g2 0 rfl (.agg (c93 zF zF 0 zF 0 false Sl.nil)) rfl 81 _ kg2 (c93 zF zF 0 zF 0 false Sl.nil) rfl (by kernel_rfl) (Nat.le_of_ble_eq_true rfl) (by kernel_rfl) (c93 zF zF 0 zF 0 false Sl.nil) (by kernel_rfl) ?_
  intro w6 S
  replace kg1 := S.has (by omega) kg1
  replace GG := GG.store S bg2
  replace kg2 := S.new
  clear S
  refine mv 6 (.bool false) (wpList_nil (then_n (wp_seq (wp_region_lit (mv 24 (.bool false) (wpList_nil (then_n (wp_cond_false rfl (wp_skip (then_n (wp_seq (wp_seq (wp_region_lit (mv 34 (.iface 73 (.agg (c85 f.pw f.pn f.a f.b f.tr))) ?_))))))))))))))
  refine nr ?_; intro U h; simp only [z0, z1] at h; subst h
  refine sv 35 (.tuple #[.agg (c97 zF zF 0 0 0 zF 0 zF Sl.nil Sl.nil), .bool false]) (run_ta _ 23 85 true rfl _ _ rfl) (mv 33 (.tuple #[.agg (c97 zF zF 0 0 0 zF 0 zF Sl.nil Sl.nil), .bool false]) (mv 36 (.agg (c97 zF zF 0 0 0 zF 0 zF Sl.nil Sl.nil)) ?_))
  refine nr ?_; intro U h; simp only [z0, z1] at h; subst h
  refine mv 37 (.bool false) ?_
  refine s_alloc 7 rfl rfl 85 rfl _ zv97 _ rfl ?_
  intro w7 g3 G eg3 kg3
  have bg3 := size_base GG eg3
  have dg1g3 := lt_new kg1 eg3
  have dg2g3 := lt_new kg2 eg3
  replace kg1 := G.has kg1
  replace kg2 := G.has kg2
  replace GG := GG.trans G
  clear G eg3
  refine s_store rfl rfl 85 _ _ rfl g3 0 rfl (.agg (c97 zF zF 0 0 0 zF 0 zF Sl.nil Sl.nil)) rfl 85 _ kg3 (c97 zF zF 0 0 0 zF 0 zF Sl.nil Sl.nil) rfl (by kernel_rfl) (Nat.le_of_ble_eq_true rfl) (by kernel_rfl) (c97 zF zF 0 0 0 zF 0 zF Sl.nil Sl.nil) (by kernel_rfl) ?_
  intro w9 S
  replace kg1 := S.has (by omega) kg1
  replace kg2 := S.has (by omega) kg2
  replace GG := GG.store S bg3
  replace kg3 := S.new
  clear S
  refine mv 8 (.bool false) ?_
  refine nr ?_; intro U h; simp only [z0, z1] at h; subst h
  refine wpList_nil (then_n (wp_seq (wp_region_lit (mv 38 (.bool false) (wpList_nil (then_n (wp_cond_false rfl (wp_skip (then_n (wp_seq (wp_region_lit (mv 2 (.bool true) (wpList_nil (then_n (wp_ret ?_)))))))))))))))
  refine bodyPost_ret (results_tmp Try.results20 _ _ _) rfl ?_
  refine ⟨?_, GG⟩
  show Ending.returned (.bool true) = _
  unfold ownB
  first | done | rfl
set_option maxRecDepth 100000 in
set_option maxHeartbeats 4000000 in
theorem ownRight_5 (f : Fr) (w : World) : Calls Try.prog 20 #[.iface 75 (.agg (c87 f.pw f.pn))] w fun e w' => e = .returned (.bool (ownB 5 f)) ∧ Gro w w' := by
  refine s_enterR Try.func20 rfl Try.ntmps20 [.iface 75 (.agg (c87 f.pw f.pn))] ?_
  intro U h; simp only [List.length_cons, List.length_nil, List.cons_append, List.nil_append, Nat.reduceAdd, Nat.reduceSub, List.reduceReplicate] at h; subst h
  have GG := Gro.refl w
  refine wp_seq (wp_region_lit (mv 2 (.bool false) (wpList_nil (then_n (wp_seq (wp_seq (wp_region_lit (mv 10 (.iface 75 (.agg (c87 f.pw f.pn))) (sv 11 (.tuple #[.agg (c81 0 0 0 0 0 Sl.nil), .bool false]) (run_ta _ 23 69 true rfl _ _ rfl) ?_)))))))))
  refine nr ?_; intro U h; simp only [z0, z1] at h; subst h
  refine mv 9 (.tuple #[.agg (c81 0 0 0 0 0 Sl.nil), .bool false]) (mv 12 (.agg (c81 0 0 0 0 0 Sl.nil)) (mv 13 (.bool false) ?_))
  refine nr ?_; intro U h; simp only [z0, z1] at h; subst h
  refine s_alloc 3 rfl rfl 69 rfl _ zv81 _ rfl ?_
  intro w1 g1 G eg1 kg1
  have bg1 := size_base GG eg1
  replace GG := GG.trans G
  clear G eg1
  refine s_store rfl rfl 69 _ _ rfl g1 0 rfl (.agg (c81 0 0 0 0 0 Sl.nil)) rfl 69 _ kg1 (c81 0 0 0 0 0 Sl.nil) rfl (by kernel_rfl) (Nat.le_of_ble_eq_true rfl) (by kernel_rfl) (c81 0 0 0 0 0 Sl.nil) (by kernel_rfl) ?_
  intro w3 S
  replace GG := GG.store S bg1
  replace kg1 := S.new
  clear S
  refine mv 4 (.bool false) (wpList_nil (then_n (wp_seq (wp_region_lit (mv 14 (.bool false) ?_)))))
  refine nr ?_; intro U h; simp only [z0, z1] at h; subst h
  refine wpList_nil (then_n (wp_cond_false rfl (wp_skip (then_n (wp_seq (wp_seq (wp_region_lit (mv 20 (.iface 75 (.agg (c87 f.pw f.pn))) (sv 21 (.tuple #[.agg (c93 zF zF 0 zF 0 false Sl.nil), .bool false]) (run_ta _ 23 81 true rfl _ _ rfl) (mv 19 (.tuple #[.agg (c93 zF zF 0 zF 0 false Sl.nil), .bool false]) ?_))))))))))
  refine nr ?_; intro U h; simp only [z0, z1] at h; subst h
  refine mv 22 (.agg (c93 zF zF 0 zF 0 false Sl.nil)) (mv 23 (.bool false) ?_)
  refine s_alloc 5 rfl rfl 81 rfl _ zv93 _ rfl ?_
  intro w4 g2 G eg2 kg2
  have bg2 := size_base GG eg2
  have dg1g2 := lt_new kg1 eg2
  replace kg1 := G.has kg1
  replace GG := GG.trans G
  clear G eg2
  refine nr ?_; intro U h; simp only [z0, z1] at h; subst h
  refine s_store rfl rfl 81 _ _ rfl g2 0 rfl (.agg (c93 zF zF 0 zF 0 false Sl.nil)) rfl 81 _ kg2 (c93 zF zF 0 zF 0 false Sl.nil) rfl (by kernel_rfl) (Nat.le_of_ble_eq_true rfl) (by kernel_rfl) (c93 zF zF 0 zF 0 false Sl.nil) (by kernel_rfl) ?_
  intro w6 S
  replace kg1 := S.has (by omega) kg1
  replace GG := GG.store S bg2
  replace kg2 := S.new
  clear S
  refine mv 6 (.bool false) (wpList_nil (then_n (wp_seq (wp_region_lit (mv 24 (.bool false) (wpList_nil (then_n (wp_cond_false rfl (wp_skip (then_n (wp_seq (wp_seq (wp_region_lit (mv 34 (.iface 75 (.agg (c87 f.pw f.pn))) ?_))))))))))))))
  refine nr ?_; intro U h; simp only [z0, z1] at h; subst h
  refine sv 35 (.tuple #[.agg (c97 zF zF 0 0 0 zF 0 zF Sl.nil Sl.nil), .bool false]) (run_ta _ 23 85 true rfl _ _ rfl) (mv 33 (.tuple #[.agg (c97 zF zF 0 0 0 zF 0 zF Sl.nil Sl.nil), .bool false]) (mv 36 (.agg (c97 zF zF 0 0 0 zF 0 zF Sl.nil Sl.nil)) ?_))
  refine nr ?_; intro U h; simp only [z0, z1] at h; subst h
  refine mv 37 (.bool false) ?_
  refine s_alloc 7 rfl rfl 85 rfl _ zv97 _ rfl ?_
  intro w7 g3 G eg3 kg3
  have bg3 := size_base GG eg3
  have dg1g3 := lt_new kg1 eg3
  have dg2g3 := lt_new kg2 eg3
  replace kg1 := G.has kg1
  replace kg2 := G.has kg2
  replace GG := GG.trans G
  clear G eg3
  refine s_store rfl rfl 85 _ _ rfl g3 0 rfl (.agg (c97 zF zF 0 0 0 zF 0 zF Sl.nil Sl.nil)) rfl 85 _ kg3 (c97 zF zF 0 0 0 zF 0 zF Sl.nil Sl.nil) rfl (by kernel_rfl) (Nat.le_of_ble_eq_true rfl) (by kernel_rfl) (c97 zF zF 0 0 0 zF 0 zF Sl.nil Sl.nil) (by kernel_rfl) ?_
  intro w9 S
  replace kg1 := S.has (by omega) kg1
  replace kg2 := S.has (by omega) kg2
  replace GG := GG.store S bg3
  replace kg3 := S.new
  clear S
  refine mv 8 (.bool false) ?_
  refine nr ?_; intro U h; simp only [z0, z1] at h; subst h
  refine wpList_nil (then_n (wp_seq (wp_region_lit (mv 38 (.bool false) (wpList_nil (then_n (wp_cond_false rfl (wp_skip (then_n (wp_seq (wp_region_lit (mv 2 (.bool true) (wpList_nil (then_n (wp_ret ?_)))))))))))))))
  refine bodyPost_ret (results_tmp Try.results20 _ _ _) rfl ?_
  refine ⟨?_, GG⟩
  show Ending.returned (.bool true) = _
  unfold ownB
  first | done | rfl
set_option maxRecDepth 100000 in
set_option maxHeartbeats 4000000 in
theorem ownRight_6 (f : Fr) (w : World) : Calls Try.prog 20 #[.iface 77 (.agg (c89 f.pw f.pn f.toA))] w fun e w' => e = .returned (.bool (ownB 6 f)) ∧ Gro w w' := by
  refine s_enterR Try.func20 rfl Try.ntmps20 [.iface 77 (.agg (c89 f.pw f.pn f.toA))] ?_
  intro U h; simp only [List.length_cons, List.length_nil, List.cons_append, List.nil_append, Nat.reduceAdd, Nat.reduceSub, List.reduceReplicate] at h; subst h
  have GG := Gro.refl w
  refine wp_seq (wp_region_lit (mv 2 (.bool false) (wpList_nil (then_n (wp_seq (wp_seq (wp_region_lit (mv 10 (.iface 77 (.agg (c89 f.pw f.pn f.toA))) (sv 11 (.tuple #[.agg (c81 0 0 0 0 0 Sl.nil), .bool false]) (run_ta _ 23 69 true rfl _ _ rfl) ?_)))))))))
  refine nr ?_; intro U h; simp only [z0, z1] at h; subst h
  refine mv 9 (.tuple #[.agg (c81 0 0 0 0 0 Sl.nil), .bool false]) (mv 12 (.agg (c81 0 0 0 0 0 Sl.nil)) (mv 13 (.bool false) ?_))
  refine nr ?_; intro U h; simp only [z0, z1] at h; subst h
  refine s_alloc 3 rfl rfl 69 rfl _ zv81 _ rfl ?_
  intro w1 g1 G eg1 kg1
  have bg1 := size_base GG eg1
  replace GG := GG.trans G
  clear G eg1
  refine s_store rfl rfl 69 _ _ rfl g1 0 rfl (.agg (c81 0 0 0 0 0 Sl.nil)) rfl 69 _ kg1 (c81 0 0 0 0 0 Sl.nil) rfl (by kernel_rfl) (Nat.le_of_ble_eq_true rfl) (by kernel_rfl) (c81 0 0 0 0 0 Sl.nil) (by kernel_rfl) ?_
  intro w3 S
  replace GG := GG.store S bg1
  replace kg1 := S.new
  clear S
  refine mv 4 (.bool false) (wpList_nil (then_n (wp_seq (wp_region_lit (mv 14 (.bool false) ?_)))))
  refine nr ?_; intro U h; simp only [z0, z1] at h; subst h
  refine wpList_nil (then_n (wp_cond_false rfl (wp_skip (then_n (wp_seq (wp_seq (wp_region_lit (mv 20 (.iface 77 (.agg (c89 f.pw f.pn f.toA))) (sv 21 (.tuple #[.agg (c93 zF zF 0 zF 0 false Sl.nil), .bool false]) (run_ta _ 23 81 true rfl _ _ rfl) (mv 19 (.tuple #[.agg (c93 zF zF 0 zF 0 false Sl.nil), .bool false]) ?_))))))))))
  refine nr ?_; intro U h; simp only [z0, z1] at h; subst h
  refine mv 22 (.agg (c93 zF zF 0 zF 0 false Sl.nil)) (mv 23 (.bool false) ?_)
  refine s_alloc 5 rfl rfl 81 rfl _ zv93 _ rfl ?_
  intro w4 g2 G eg2 kg2
  have bg2 := size_base GG eg2
  have dg1g2 := lt_new kg1 eg2
  replace kg1 := G.has kg1
  replace GG := GG.trans G
  clear G eg2
  refine nr ?_; intro U h; simp only [z0, z1] at h; subst h
  refine s_store rfl rfl 81 _ _ rfl g2 0 rfl (.agg (c93 zF zF 0 zF 0 false Sl.nil)) rfl 81 _ kg2 (c93 zF zF 0 zF 0 false Sl.nil) rfl (by kernel_rfl) (Nat.le_of_ble_eq_true rfl) (by kernel_rfl) (c93 zF zF 0 zF 0 false Sl.nil) (by kernel_rfl) ?_
  intro w6 S
  replace kg1 := S.has (by omega) kg1
  replace GG := GG.store S bg2
  replace kg2 := S.new
  clear S
  refine mv 6 (.bool false) (wpList_nil (then_n (wp_seq (wp_region_lit (mv 24 (.bool false) (wpList_nil (then_n (wp_cond_false rfl (wp_skip (then_n (wp_seq (wp_seq (wp_region_lit (mv 34 (.iface 77 (.agg (c89 f.pw f.pn f.toA))) ?_))))))))))))))
  refine nr ?_; intro U h; simp only [z0, z1] at h; subst h
  refine sv 35 (.tuple #[.agg (c97 zF zF 0 0 0 zF 0 zF Sl.nil Sl.nil), .bool false]) (run_ta _ 23 85 true rfl _ _ rfl) (mv 33 (.tuple #[.agg (c97 zF zF 0 0 0 zF 0 zF Sl.nil Sl.nil), .bool false]) (mv 36 (.agg (c97 zF zF 0 0 0 zF 0 zF Sl.nil Sl.nil)) ?_))
  refine nr ?_; intro U h; simp only [z0, z1] at h; subst h
  refine mv 37 (.bool false) ?_
  refine s_alloc 7 rfl rfl 85 rfl _ zv97 _ rfl ?_
  intro w7 g3 G eg3 kg3
  have bg3 := size_base GG eg3
  have dg1g3 := lt_new kg1 eg3
  have dg2g3 := lt_new kg2 eg3
  replace kg1 := G.has kg1
  replace kg2 := G.has kg2
  replace GG := GG.trans G
  clear G eg3
  refine s_store rfl rfl 85 _ _ rfl g3 0 rfl (.agg (c97 zF zF 0 0 0 zF 0 zF Sl.nil Sl.nil)) rfl 85 _ kg3 (c97 zF zF 0 0 0 zF 0 zF Sl.nil Sl.nil) rfl (by kernel_rfl) (Nat.le_of_ble_eq_true rfl) (by kernel_rfl) (c97 zF zF 0 0 0 zF 0 zF Sl.nil Sl.nil) (by kernel_rfl) ?_
  intro w9 S
  replace kg1 := S.has (by omega) kg1
  replace kg2 := S.has (by omega) kg2
  replace GG := GG.store S bg3
  replace kg3 := S.new
  clear S
  refine mv 8 (.bool false) ?_
  refine nr ?_; intro U h; simp only [z0, z1] at h; subst h
  refine wpList_nil (then_n (wp_seq (wp_region_lit (mv 38 (.bool false) (wpList_nil (then_n (wp_cond_false rfl (wp_skip (then_n (wp_seq (wp_region_lit (mv 2 (.bool true) (wpList_nil (then_n (wp_ret ?_)))))))))))))))
  refine bodyPost_ret (results_tmp Try.results20 _ _ _) rfl ?_
  refine ⟨?_, GG⟩
  show Ending.returned (.bool true) = _
  unfold ownB
  first | done | rfl
set_option maxRecDepth 100000 in
set_option maxHeartbeats 4000000 in
theorem ownRight_7 (f : Fr) (w : World) : Calls Try.prog 20 #[.iface 79 (.agg (c91 f.pw f.pn f.toA f.ids))] w fun e w' => e = .returned (.bool (ownB 7 f)) ∧ Gro w w' := by
  refine s_enterR Try.func20 rfl Try.ntmps20 [.iface 79 (.agg (c91 f.pw f.pn f.toA f.ids))] ?_
  intro U h; simp only [List.length_cons, List.length_nil, List.cons_append, List.nil_append, Nat.reduceAdd, Nat.reduceSub, List.reduceReplicate] at h; subst h
  have GG := Gro.refl w
  refine wp_seq (wp_region_lit (mv 2 (.bool false) (wpList_nil (then_n (wp_seq (wp_seq (wp_region_lit (mv 10 (.iface 79 (.agg (c91 f.pw f.pn f.toA f.ids))) (sv 11 (.tuple #[.agg (c81 0 0 0 0 0 Sl.nil), .bool false]) (run_ta _ 23 69 true rfl _ _ rfl) ?_)))))))))
  refine nr ?_; intro U h; simp only [z0, z1] at h; subst h
  refine mv 9 (.tuple #[.agg (c81 0 0 0 0 0 Sl.nil), .bool false]) (mv 12 (.agg (c81 0 0 0 0 0 Sl.nil)) (mv 13 (.bool false) ?_))
  refine nr ?_; intro U h; simp only [z0, z1] at h; subst h
  refine s_alloc 3 rfl rfl 69 rfl _ zv81 _ rfl ?_
  intro w1 g1 G eg1 kg1
  have bg1 := size_base GG eg1
  replace GG := GG.trans G
  clear G eg1
  refine s_store rfl rfl 69 _ _ rfl g1 0 rfl (.agg (c81 0 0 0 0 0 Sl.nil)) rfl 69 _ kg1 (c81 0 0 0 0 0 Sl.nil) rfl (by kernel_rfl) (Nat.le_of_ble_eq_true rfl) (by kernel_rfl) (c81 0 0 0 0 0 Sl.nil) (by kernel_rfl) ?_
  intro w3 S
  replace GG := GG.store S bg1
  replace kg1 := S.new
  clear S
  refine mv 4 (.bool false) (wpList_nil (then_n (wp_seq (wp_region_lit (mv 14 (.bool false) ?_)))))
  refine nr ?_; intro U h; simp only [z0, z1] at h; subst h
  refine wpList_nil (then_n (wp_cond_false rfl (wp_skip (then_n (wp_seq (wp_seq (wp_region_lit (mv 20 (.iface 79 (.agg (c91 f.pw f.pn f.toA f.ids))) (sv 21 (.tuple #[.agg (c93 zF zF 0 zF 0 false Sl.nil), .bool false]) (run_ta _ 23 81 true rfl _ _ rfl) (mv 19 (.tuple #[.agg (c93 zF zF 0 zF 0 false Sl.nil), .bool false]) ?_))))))))))
  refine nr ?_; intro U h; simp only [z0, z1] at h; subst h
  refine mv 22 (.agg (c93 zF zF 0 zF 0 false Sl.nil)) (mv 23 (.bool false) ?_)
  refine s_alloc 5 rfl rfl 81 rfl _ zv93 _ rfl ?_
  intro w4 g2 G eg2 kg2
  have bg2 := size_base GG eg2
  have dg1g2 := lt_new kg1 eg2
  replace kg1 := G.has kg1
  replace GG := GG.trans G
  clear G eg2
  refine nr ?_; intro U h; simp only [z0, z1] at h; subst h
  refine s_store rfl rfl 81 _ _ rfl g2 0 rfl (.agg (c93 zF zF 0 zF 0 false Sl.nil)) rfl 81 _ kg2 (c93 zF zF 0 zF 0 false Sl.nil) rfl (by kernel_rfl) (Nat.le_of_ble_eq_true rfl) (by kernel_rfl) (c93 zF zF 0 zF 0 false Sl.nil) (by kernel_rfl) ?_
  intro w6 S
  replace kg1 := S.has (by omega) kg1
  replace GG := GG.store S bg2
  replace kg2 := S.new
  clear S
  refine mv 6 (.bool false) (wpList_nil (then_n (wp_seq (wp_region_lit (mv 24 (.bool false) (wpList_nil (then_n (wp_cond_false rfl (wp_skip (then_n (wp_seq (wp_seq (wp_region_lit (mv 34 (.iface 79 (.agg (c91 f.pw f.pn f.toA f.ids))) ?_))))))))))))))
  refine nr ?_; intro U h; simp only [z0, z1] at h; subst h
  refine sv 35 (.tuple #[.agg (c97 zF zF 0 0 0 zF 0 zF Sl.nil Sl.nil), .bool false]) (run_ta _ 23 85 true rfl _ _ rfl) (mv 33 (.tuple #[.agg (c97 zF zF 0 0 0 zF 0 zF Sl.nil Sl.nil), .bool false]) (mv 36 (.agg (c97 zF zF 0 0 0 zF 0 zF Sl.nil Sl.nil)) ?_))
  refine nr ?_; intro U h; simp only [z0, z1] at h; subst h
  refine mv 37 (.bool false) ?_
  refine s_alloc 7 rfl rfl 85 rfl _ zv97 _ rfl ?_
  intro w7 g3 G eg3 kg3
  have bg3 := size_base GG eg3
  have dg1g3 := lt_new kg1 eg3
  have dg2g3 := lt_new kg2 eg3
  replace kg1 := G.has kg1
  replace kg2 := G.has kg2
  replace GG := GG.trans G
  clear G eg3
  refine s_store rfl rfl 85 _ _ rfl g3 0 rfl (.agg (c97 zF zF 0 0 0 zF 0 zF Sl.nil Sl.nil)) rfl 85 _ kg3 (c97 zF zF 0 0 0 zF 0 zF Sl.nil Sl.nil) rfl (by kernel_rfl) (Nat.le_of_ble_eq_true rfl) (by kernel_rfl) (c97 zF zF 0 0 0 zF 0 zF Sl.nil Sl.nil) (by kernel_rfl) ?_
  intro w9 S
  replace kg1 := S.has (by omega) kg1
  replace kg2 := S.has (by omega) kg2
  replace GG := GG.store S bg3
  replace kg3 := S.new
  clear S
  refine mv 8 (.bool false) ?_
  refine nr ?_; intro U h; simp only [z0, z1] at h; subst h
  refine wpList_nil (then_n (wp_seq (wp_region_lit (mv 38 (.bool false) (wpList_nil (then_n (wp_cond_false rfl (wp_skip (then_n (wp_seq (wp_region_lit (mv 2 (.bool true) (wpList_nil (then_n (wp_ret ?_)))))))))))))))
  refine bodyPost_ret (results_tmp Try.results20 _ _ _) rfl ?_
  refine ⟨?_, GG⟩
  show Ending.returned (.bool true) = _
  unfold ownB
  first | done | rfl
set_option maxRecDepth 100000 in
set_option maxHeartbeats 4000000 in
theorem ownRight_8 (f : Fr) (w : World) : Calls Try.prog 20 #[.iface 81 (.agg (c93 f.a f.b f.op f.pw f.pn f.toA f.tr))] w fun e w' => e = .returned (.bool (ownB 8 f)) ∧ Gro w w' := by
  refine s_enterR Try.func20 rfl Try.ntmps20 [.iface 81 (.agg (c93 f.a f.b f.op f.pw f.pn f.toA f.tr))] ?_
  intro U h; simp only [List.length_cons, List.length_nil, List.cons_append, List.nil_append, Nat.reduceAdd, Nat.reduceSub, List.reduceReplicate] at h; subst h
  have GG := Gro.refl w
  refine wp_seq (wp_region_lit (mv 2 (.bool false) (wpList_nil (then_n (wp_seq (wp_seq (wp_region_lit (mv 10 (.iface 81 (.agg (c93 f.a f.b f.op f.pw f.pn f.toA f.tr))) (sv 11 (.tuple #[.agg (c81 0 0 0 0 0 Sl.nil), .bool false]) (run_ta _ 23 69 true rfl _ _ rfl) ?_)))))))))
  refine nr ?_; intro U h; simp only [z0, z1] at h; subst h
  refine mv 9 (.tuple #[.agg (c81 0 0 0 0 0 Sl.nil), .bool false]) (mv 12 (.agg (c81 0 0 0 0 0 Sl.nil)) (mv 13 (.bool false) ?_))
  refine nr ?_; intro U h; simp only [z0, z1] at h; subst h
  refine s_alloc 3 rfl rfl 69 rfl _ zv81 _ rfl ?_
  intro w1 g1 G eg1 kg1
  have bg1 := size_base GG eg1
  replace GG := GG.trans G
  clear G eg1
  refine s_store rfl rfl 69 _ _ rfl g1 0 rfl (.agg (c81 0 0 0 0 0 Sl.nil)) rfl 69 _ kg1 (c81 0 0 0 0 0 Sl.nil) rfl (by kernel_rfl) (Nat.le_of_ble_eq_true rfl) (by kernel_rfl) (c81 0 0 0 0 0 Sl.nil) (by kernel_rfl) ?_
  intro w3 S
  replace GG := GG.store S bg1
  replace kg1 := S.new
  clear S
  refine mv 4 (.bool false) (wpList_nil (then_n (wp_seq (wp_region_lit (mv 14 (.bool false) ?_)))))
  refine nr ?_; intro U h; simp only [z0, z1] at h; subst h
  refine wpList_nil (then_n (wp_cond_false rfl (wp_skip (then_n (wp_seq (wp_seq (wp_region_lit (mv 20 (.iface 81 (.agg (c93 f.a f.b f.op f.pw f.pn f.toA f.tr))) (sv 21 (.tuple #[.agg (c93 f.a f.b f.op f.pw f.pn f.toA f.tr), .bool true]) (run_ta _ 23 81 true rfl _ _ rfl) (mv 19 (.tuple #[.agg (c93 f.a f.b f.op f.pw f.pn f.toA f.tr), .bool true]) ?_))))))))))
  refine nr ?_; intro U h; simp only [z0, z1] at h; subst h
  refine mv 22 (.agg (c93 f.a f.b f.op f.pw f.pn f.toA f.tr)) (mv 23 (.bool true) ?_)
  refine s_alloc 5 rfl rfl 81 rfl _ zv93 _ rfl ?_
  intro w4 g2 G eg2 kg2
  have bg2 := size_base GG eg2
  have dg1g2 := lt_new kg1 eg2
  replace kg1 := G.has kg1
  replace GG := GG.trans G
  clear G eg2
  refine nr ?_; intro U h; simp only [z0, z1] at h; subst h
  refine s_store rfl rfl 81 _ _ rfl g2 0 rfl (.agg (c93 f.a f.b f.op f.pw f.pn f.toA f.tr)) rfl 81 _ kg2 (c93 f.a f.b f.op f.pw f.pn f.toA f.tr) rfl (by kernel_rfl) (Nat.le_of_ble_eq_true rfl) (by kernel_rfl) (c93 f.a f.b f.op f.pw f.pn f.toA f.tr) (by kernel_rfl) ?_
  intro w6 S
  replace kg1 := S.has (by omega) kg1
  replace GG := GG.store S bg2
  replace kg2 := S.new
  clear S
  refine mv 6 (.bool true) (wpList_nil (then_n (wp_seq (wp_region_lit (mv 24 (.bool true) (wpList_nil (then_n (wp_cond_true rfl (wp_seq (wp_region_lit (sv 25 (.pointer (some ⟨g2, 32, none⟩)) (run_fld 81 _ 2 rfl _ _ rfl _) ?_)))))))))))
  refine nr ?_; intro U h; simp only [z0, z1] at h; subst h
  refine sv 26 (.int .i64 f.op) (run_ldc 3 _ rfl g2 32 rfl 81 _ kg2 (na3 _) _ rfl) ?_
  refine nr ?_; intro U h; simp only [z0, z1] at h; subst h
  obtain ⟨p1, hp1⟩ : ∃ p, decide (0 ≤ f.op) = p := ⟨_, rfl⟩
  refine sv 27 (.bool p1) (run_leqT 3 _ _ _ rfl 0 f.op rfl rfl p1 hp1 _) ?_
  refine nr ?_; intro U h; simp only [z0, z1] at h; subst h
  cases p1
  refine s_val _ rfl rfl (.bool false) rfl ?_
  refine nr ?_; intro U h; simp only [z0, z1] at h; subst h
  iterate 3 (refine s_skip _ rfl rfl ?_; refine nr ?_; intro U h; simp only [z0, z1] at h; subst h)
  refine s_val _ rfl rfl (.bool false) rfl ?_
  refine s_val _ rfl rfl (.bool false) rfl ?_
  refine wpList_nil (then_n (wp_ret (then_r ?_)))
  refine bodyPost_ret (results_tmp Try.results20 _ _ _) rfl ?_
  refine ⟨?_, GG⟩
  show Ending.returned (.bool false) = _
  unfold ownB
  rw [hp1]
  first | done | rfl
  refine mv 28 (.bool true) ?_
  refine nr ?_; intro U h; simp only [z0, z1] at h; subst h
  refine s_gval 29 rfl rfl (.pointer (some ⟨g2, 32, none⟩)) (run_fld 81 _ 2 rfl _ _ rfl _) (s_gval 30 rfl rfl (.int .i64 f.op) (run_ldc 3 _ rfl g2 32 rfl 81 _ kg2 (na3 _) _ rfl) ?_)
  refine nr ?_; intro U h; simp only [z0, z1] at h; subst h
  obtain ⟨p2, hp2⟩ : ∃ p, decide (f.op ≤ 3) = p := ⟨_, rfl⟩
  refine s_gval 31 rfl rfl (.bool p2) (run_leqT 3 _ _ _ rfl f.op 3 rfl rfl p2 hp2 _) ?_
  refine nr ?_; intro U h; simp only [z0, z1] at h; subst h
  cases p2
  refine s_val _ rfl rfl (.bool false) rfl ?_
  refine s_val _ rfl rfl (.bool false) rfl ?_
  refine wpList_nil (then_n (wp_ret (then_r ?_)))
  refine bodyPost_ret (results_tmp Try.results20 _ _ _) rfl ?_
  refine ⟨?_, GG⟩
  show Ending.returned (.bool false) = _
  unfold ownB
  rw [hp1, hp2]
  first | done | rfl
  refine mv 32 (.bool true) ?_
  refine nr ?_; intro U h; simp only [z0, z1] at h; subst h
  refine mv 2 (.bool true) (wpList_nil (then_n (wp_ret (then_r ?_))))
  refine bodyPost_ret (results_tmp Try.results20 _ _ _) rfl ?_
  refine ⟨?_, GG⟩
  show Ending.returned (.bool true) = _
  unfold ownB
  rw [hp1, hp2]
  first | done | rfl
set_option maxRecDepth 100000 in
set_option maxHeartbeats 4000000 in
theorem ownRight_9 (f : Fr) (w : World) : Calls Try.prog 20 #[.iface 83 (.agg (c95 f.a f.n))] w fun e w' => e = .returned (.bool (ownB 9 f)) ∧ Gro w w' := by
  refine s_enterR Try.func20 rfl Try.ntmps20 [.iface 83 (.agg (c95 f.a f.n))] ?_
  intro U h; simp only [List.length_cons, List.length_nil, List.cons_append, List.nil_append, Nat.reduceAdd, Nat.reduceSub, List.reduceReplicate] at h; subst h
  have GG := Gro.refl w
  refine wp_seq (wp_region_lit (mv 2 (.bool false) (wpList_nil (then_n (wp_seq (wp_seq (wp_region_lit (mv 10 (.iface 83 (.agg (c95 f.a f.n))) (sv 11 (.tuple #[.agg (c81 0 0 0 0 0 Sl.nil), .bool false]) (run_ta _ 23 69 true rfl _ _ rfl) ?_)))))))))
  refine nr ?_; intro U h; simp only [z0, z1] at h; subst h
  refine mv 9 (.tuple #[.agg (c81 0 0 0 0 0 Sl.nil), .bool false]) (mv 12 (.agg (c81 0 0 0 0 0 Sl.nil)) (mv 13 (.bool false) ?_))
  refine nr ?_; intro U h; simp only [z0, z1] at h; subst h
  refine s_alloc 3 rfl rfl 69 rfl _ zv81 _ rfl ?_
  intro w1 g1 G eg1 kg1
  have bg1 := size_base GG eg1
  replace GG := GG.trans G
  clear G eg1
  refine s_store rfl rfl 69 _ _ rfl g1 0 rfl (.agg (c81 0 0 0 0 0 Sl.nil)) rfl 69 _ kg1 (c81 0 0 0 0 0 Sl.nil) rfl (by kernel_rfl) (Nat.le_of_ble_eq_true rfl) (by kernel_rfl) (c81 0 0 0 0 0 Sl.nil) (by kernel_rfl) ?_
  intro w3 S
  replace GG := GG.store S bg1
  replace kg1 := S.new
  clear S
  refine mv 4 (.bool false) (wpList_nil (then_n (wp_seq (wp_region_lit (mv 14 (.bool false) ?_)))))
  refine nr ?_; intro U h; simp only [z0, z1] at h; subst h
  refine wpList_nil (then_n (wp_cond_false rfl (wp_skip (then_n (wp_seq (wp_seq (wp_region_lit (mv 20 (.iface 83 (.agg (c95 f.a f.n))) (sv 21 (.tuple #[.agg (c93 zF zF 0 zF 0 false Sl.nil), .bool false]) (run_ta _ 23 81 true rfl _ _ rfl) (mv 19 (.tuple #[.agg (c93 zF zF 0 zF 0 false Sl.nil), .bool false]) ?_))))))))))
  refine nr ?_; intro U h; simp only [z0, z1] at h; subst h
  refine mv 22 (.agg (c93 zF zF 0 zF 0 false Sl.nil)) (mv 23 (.bool false) ?_)
  refine s_alloc 5 rfl rfl 81 rfl _ zv93 _ rfl ?_
  intro w4 g2 G eg2 kg2
  have bg2 := size_base GG eg2
  have dg1g2 := lt_new kg1 eg2
  replace kg1 := G.has kg1
  replace GG := GG.trans G
  clear G eg2
  refine nr ?_; intro U h; simp only [z0, z1] at h; subst h
  refine s_store rfl rfl 81 _ _ rfl g2 0 rfl (.agg (c93 zF zF 0 zF 0 false Sl.nil)) rfl 81 _ kg2 (c93 zF zF 0 zF 0 false Sl.nil) rfl (by kernel_rfl) (Nat.le_of_ble_eq_true rfl) (by kernel_rfl) (c93 zF zF 0 zF 0 false Sl.nil) (by kernel_rfl) ?_
  intro w6 S
  replace kg1 := S.has (by omega) kg1
  replace GG := GG.store S bg2
  replace kg2 := S.new
  clear S
  refine mv 6 (.bool false) (wpList_nil (then_n (wp_seq (wp_region_lit (mv 24 (.bool false) (wpList_nil (then_n (wp_cond_false rfl (wp_skip (then_n (wp_seq (wp_seq (wp_region_lit (mv 34 (.iface 83 (.agg (c95 f.a f.n))) ?_))))))))))))))
  refine nr ?_; intro U h; simp only [z0, z1] at h; subst h
  refine sv 35 (.tuple #[.agg (c97 zF zF 0 0 0 zF 0 zF Sl.nil Sl.nil), .bool false]) (run_ta _ 23 85 true rfl _ _ rfl) (mv 33 (.tuple #[.agg (c97 zF zF 0 0 0 zF 0 zF Sl.nil Sl.nil), .bool false]) (mv 36 (.agg (c97 zF zF 0 0 0 zF 0 zF Sl.nil Sl.nil)) ?_))
  refine nr ?_; intro U h; simp only [z0, z1] at h; subst h
  refine mv 37 (.bool false) ?_
  refine s_alloc 7 rfl rfl 85 rfl _ zv97 _ rfl ?_
  intro w7 g3 G eg3 kg3
  have bg3 := size_base GG eg3
  have dg1g3 := lt_new kg1 eg3
  have dg2g3 := lt_new kg2 eg3
  replace kg1 := G.has kg1
  replace kg2 := G.has kg2
  replace GG := GG.trans G
  clear G eg3
  refine s_store rfl rfl 85 _ _ rfl g3 0 rfl (.agg (c97 zF zF 0 0 0 zF 0 zF Sl.nil Sl.nil)) rfl 85 _ kg3 (c97 zF zF 0 0 0 zF 0 zF Sl.nil Sl.nil) rfl (by kernel_rfl) (Nat.le_of_ble_eq_true rfl) (by kernel_rfl) (c97 zF zF 0 0 0 zF 0 zF Sl.nil Sl.nil) (by kernel_rfl) ?_
  intro w9 S
  replace kg1 := S.has (by omega) kg1
  replace kg2 := S.has (by omega) kg2
  replace GG := GG.store S bg3
  replace kg3 := S.new
  clear S
  refine mv 8 (.bool false) ?_
  refine nr ?_; intro U h; simp only [z0, z1] at h; subst h
  refine wpList_nil (then_n (wp_seq (wp_region_lit (mv 38 (.bool false) (wpList_nil (then_n (wp_cond_false rfl (wp_skip (then_n (wp_seq (wp_region_lit (mv 2 (.bool true) (wpList_nil (then_n (wp_ret ?_)))))))))))))))
  refine bodyPost_ret (results_tmp Try.results20 _ _ _) rfl ?_
  refine ⟨?_, GG⟩
  show Ending.returned (.bool true) = _
  unfold ownB
  first | done | rfl
set_option maxRecDepth 100000 in
set_option maxHeartbeats 4000000 in
theorem ownRight_10 (f : Fr) (w : World) : Calls Try.prog 20 #[.iface 85 (.agg (c97 f.a f.b f.n f.op f.ttl f.key f.vn f.vw f.val f.tx))] w fun e w' => e = .returned (.bool (ownB 10 f)) ∧ Gro w w' := by
  refine s_enterR Try.func20 rfl Try.ntmps20 [.iface 85 (.agg (c97 f.a f.b f.n f.op f.ttl f.key f.vn f.vw f.val f.tx))] ?_
  intro U h; simp only [List.length_cons, List.length_nil, List.cons_append, List.nil_append, Nat.reduceAdd, Nat.reduceSub, List.reduceReplicate] at h; subst h
  have GG := Gro.refl w
  refine wp_seq (wp_region_lit (mv 2 (.bool false) (wpList_nil (then_n (wp_seq (wp_seq (wp_region_lit (mv 10 (.iface 85 (.agg (c97 f.a f.b f.n f.op f.ttl f.key f.vn f.vw f.val f.tx))) (sv 11 (.tuple #[.agg (c81 0 0 0 0 0 Sl.nil), .bool false]) (run_ta _ 23 69 true rfl _ _ rfl) ?_)))))))))
  refine nr ?_; intro U h; simp only [z0, z1] at h; subst h
  refine mv 9 (.tuple #[.agg (c81 0 0 0 0 0 Sl.nil), .bool false]) (mv 12 (.agg (c81 0 0 0 0 0 Sl.nil)) (mv 13 (.bool false) ?_))
  refine nr ?_; intro U h; simp only [z0, z1] at h; subst h
  refine s_alloc 3 rfl rfl 69 rfl _ zv81 _ rfl ?_
  intro w1 g1 G eg1 kg1
  have bg1 := size_base GG eg1
  replace GG := GG.trans G
  clear G eg1
  refine s_store rfl rfl 69 _ _ rfl g1 0 rfl (.agg (c81 0 0 0 0 0 Sl.nil)) rfl 69 _ kg1 (c81 0 0 0 0 0 Sl.nil) rfl (by kernel_rfl) (Nat.le_of_ble_eq_true rfl) (by kernel_rfl) (c81 0 0 0 0 0 Sl.nil) (by kernel_rfl) ?_
  intro w3 S
  replace GG := GG.store S bg1
  replace kg1 := S.new
  clear S
  refine mv 4 (.bool false) (wpList_nil (then_n (wp_seq (wp_region_lit (mv 14 (.bool false) ?_)))))
  refine nr ?_; intro U h; simp only [z0, z1] at h; subst h
  refine wpList_nil (then_n (wp_cond_false rfl (wp_skip (then_n (wp_seq (wp_seq (wp_region_lit (mv 20 (.iface 85 (.agg (c97 f.a f.b f.n f.op f.ttl f.key f.vn f.vw f.val f.tx))) (sv 21 (.tuple #[.agg (c93 zF zF 0 zF 0 false Sl.nil), .bool false]) (run_ta _ 23 81 true rfl _ _ rfl) (mv 19 (.tuple #[.agg (c93 zF zF 0 zF 0 false Sl.nil), .bool false]) ?_))))))))))
  refine nr ?_; intro U h; simp only [z0, z1] at h; subst h
  refine mv 22 (.agg (c93 zF zF 0 zF 0 false Sl.nil)) (mv 23 (.bool false) ?_)
  refine s_alloc 5 rfl rfl 81 rfl _ zv93 _ rfl ?_
  intro w4 g2 G eg2 kg2
  have bg2 := size_base GG eg2
  have dg1g2 := lt_new kg1 eg2
  replace kg1 := G.has kg1
  replace GG := GG.trans G
  clear G eg2
  refine nr ?_; intro U h; simp only [z0, z1] at h; subst h
  refine s_store rfl rfl 81 _ _ rfl g2 0 rfl (.agg (c93 zF zF 0 zF 0 false Sl.nil)) rfl 81 _ kg2 (c93 zF zF 0 zF 0 false Sl.nil) rfl (by kernel_rfl) (Nat.le_of_ble_eq_true rfl) (by kernel_rfl) (c93 zF zF 0 zF 0 false Sl.nil) (by kernel_rfl) ?_
  intro w6 S
  replace kg1 := S.has (by omega) kg1
  replace GG := GG.store S bg2
  replace kg2 := S.new
  clear S
  refine mv 6 (.bool false) (wpList_nil (then_n (wp_seq (wp_region_lit (mv 24 (.bool false) (wpList_nil (then_n (wp_cond_false rfl (wp_skip (then_n (wp_seq (wp_seq (wp_region_lit (mv 34 (.iface 85 (.agg (c97 f.a f.b f.n f.op f.ttl f.key f.vn f.vw f.val f.tx))) ?_))))))))))))))
  refine nr ?_; intro U h; simp only [z0, z1] at h; subst h
  refine sv 35 (.tuple #[.agg (c97 f.a f.b f.n f.op f.ttl f.key f.vn f.vw f.val f.tx), .bool true]) (run_ta _ 23 85 true rfl _ _ rfl) (mv 33 (.tuple #[.agg (c97 f.a f.b f.n f.op f.ttl f.key f.vn f.vw f.val f.tx), .bool true]) (mv 36 (.agg (c97 f.a f.b f.n f.op f.ttl f.key f.vn f.vw f.val f.tx)) ?_))
  refine nr ?_; intro U h; simp only [z0, z1] at h; subst h
  refine mv 37 (.bool true) ?_
  refine s_alloc 7 rfl rfl 85 rfl _ zv97 _ rfl ?_
  intro w7 g3 G eg3 kg3
  have bg3 := size_base GG eg3
  have dg1g3 := lt_new kg1 eg3
  have dg2g3 := lt_new kg2 eg3
  replace kg1 := G.has kg1
  replace kg2 := G.has kg2
  replace GG := GG.trans G
  clear G eg3
  refine s_store rfl rfl 85 _ _ rfl g3 0 rfl (.agg (c97 f.a f.b f.n f.op f.ttl f.key f.vn f.vw f.val f.tx)) rfl 85 _ kg3 (c97 f.a f.b f.n f.op f.ttl f.key f.vn f.vw f.val f.tx) rfl (by kernel_rfl) (Nat.le_of_ble_eq_true rfl) (by kernel_rfl) (c97 f.a f.b f.n f.op f.ttl f.key f.vn f.vw f.val f.tx) (by kernel_rfl) ?_
  intro w9 S
  replace kg1 := S.has (by omega) kg1
  replace kg2 := S.has (by omega) kg2
  replace GG := GG.store S bg3
  replace kg3 := S.new
  clear S
  refine mv 8 (.bool true) ?_
  refine nr ?_; intro U h; simp only [z0, z1] at h; subst h
  refine wpList_nil (then_n (wp_seq (wp_region_lit (mv 38 (.bool true) (wpList_nil (then_n (wp_cond_true rfl (wp_seq (wp_region_lit (sv 39 (.pointer (some ⟨g3, 33, none⟩)) (run_fld 85 _ 3 rfl _ _ rfl _) (sv 40 (.int .i64 f.op) (run_ldc 3 _ rfl g3 33 rfl 85 _ kg3 (na3 _) _ rfl) ?_)))))))))))
  refine nr ?_; intro U h; simp only [z0, z1] at h; subst h
  obtain ⟨p1, hp1⟩ : ∃ p, decide (1 ≤ f.op) = p := ⟨_, rfl⟩
  refine sv 41 (.bool p1) (run_leqT 3 _ _ _ rfl 1 f.op rfl rfl p1 hp1 _) ?_
  refine nr ?_; intro U h; simp only [z0, z1] at h; subst h
  cases p1
  refine s_val _ rfl rfl (.bool false) rfl ?_
  refine nr ?_; intro U h; simp only [z0, z1] at h; subst h
  iterate 3 (refine s_skip _ rfl rfl ?_; refine nr ?_; intro U h; simp only [z0, z1] at h; subst h)
  refine s_val _ rfl rfl (.bool false) rfl ?_
  refine s_val _ rfl rfl (.bool false) rfl ?_
  refine nr ?_; intro U h; simp only [z0, z1] at h; subst h
  iterate 3 (refine s_skip _ rfl rfl ?_; refine nr ?_; intro U h; simp only [z0, z1] at h; subst h)
  refine s_val _ rfl rfl (.bool false) rfl ?_
  refine s_val _ rfl rfl (.bool false) rfl ?_
  refine nr ?_; intro U h; simp only [z0, z1] at h; subst h
  iterate 3 (refine s_skip _ rfl rfl ?_; refine nr ?_; intro U h; simp only [z0, z1] at h; subst h)
  refine s_val _ rfl rfl (.bool false) rfl ?_
  refine s_val _ rfl rfl (.bool false) rfl ?_
  refine nr ?_; intro U h; simp only [z0, z1] at h; subst h
  iterate 4 (refine s_skip _ rfl rfl ?_; refine nr ?_; intro U h; simp only [z0, z1] at h; subst h)
  refine s_val _ rfl rfl (.bool false) rfl ?_
  refine s_val _ rfl rfl (.bool false) rfl ?_
  refine wpList_nil (then_n (wp_ret (then_r ?_)))
  refine bodyPost_ret (results_tmp Try.results20 _ _ _) rfl ?_
  refine ⟨?_, GG⟩
  show Ending.returned (.bool false) = _
  unfold ownB
  rw [hp1]
  first | done | rfl
  refine mv 42 (.bool true) ?_
  refine nr ?_; intro U h; simp only [z0, z1] at h; subst h
  refine s_gval 43 rfl rfl (.pointer (some ⟨g3, 33, none⟩)) (run_fld 85 _ 3 rfl _ _ rfl _) (s_gval 44 rfl rfl (.int .i64 f.op) (run_ldc 3 _ rfl g3 33 rfl 85 _ kg3 (na3 _) _ rfl) ?_)
  refine nr ?_; intro U h; simp only [z0, z1] at h; subst h
  obtain ⟨p2, hp2⟩ : ∃ p, decide (f.op ≤ 4) = p := ⟨_, rfl⟩
  refine s_gval 45 rfl rfl (.bool p2) (run_leqT 3 _ _ _ rfl f.op 4 rfl rfl p2 hp2 _) ?_
  refine nr ?_; intro U h; simp only [z0, z1] at h; subst h
  cases p2
  refine s_val _ rfl rfl (.bool false) rfl ?_
  refine s_val _ rfl rfl (.bool false) rfl ?_
  refine nr ?_; intro U h; simp only [z0, z1] at h; subst h
  iterate 3 (refine s_skip _ rfl rfl ?_; refine nr ?_; intro U h; simp only [z0, z1] at h; subst h)
  refine s_val _ rfl rfl (.bool false) rfl ?_
  refine s_val _ rfl rfl (.bool false) rfl ?_
  refine nr ?_; intro U h; simp only [z0, z1] at h; subst h
  iterate 3 (refine s_skip _ rfl rfl ?_; refine nr ?_; intro U h; simp only [z0, z1] at h; subst h)
  refine s_val _ rfl rfl (.bool false) rfl ?_
  refine s_val _ rfl rfl (.bool false) rfl ?_
  refine nr ?_; intro U h; simp only [z0, z1] at h; subst h
  iterate 4 (refine s_skip _ rfl rfl ?_; refine nr ?_; intro U h; simp only [z0, z1] at h; subst h)
  refine s_val _ rfl rfl (.bool false) rfl ?_
  refine s_val _ rfl rfl (.bool false) rfl ?_
  refine wpList_nil (then_n (wp_ret (then_r ?_)))
  refine bodyPost_ret (results_tmp Try.results20 _ _ _) rfl ?_
  refine ⟨?_, GG⟩
  show Ending.returned (.bool false) = _
  unfold ownB
  rw [hp1, hp2]
  first | done | rfl
  refine mv 46 (.bool true) ?_
  refine nr ?_; intro U h; simp only [z0, z1] at h; subst h
  refine mv 47 (.bool true) (s_gval 48 rfl rfl (.pointer (some ⟨g3, 34, none⟩)) (run_fld 85 _ 4 rfl _ _ rfl _) (s_gval 49 rfl rfl (.int .i64 f.ttl) (run_ldc 3 _ rfl g3 34 rfl 85 _ kg3 (na3 _) _ rfl) ?_))
  refine nr ?_; intro U h; simp only [z0, z1] at h; subst h
  obtain ⟨p3, hp3⟩ : ∃ p, decide (0 ≤ f.ttl) = p := ⟨_, rfl⟩
  refine s_gval 50 rfl rfl (.bool p3) (run_leqT 3 _ _ _ rfl 0 f.ttl rfl rfl p3 hp3 _) ?_
  refine nr ?_; intro U h; simp only [z0, z1] at h; subst h
  cases p3
  refine s_val _ rfl rfl (.bool false) rfl ?_
  refine s_val _ rfl rfl (.bool false) rfl ?_
  refine nr ?_; intro U h; simp only [z0, z1] at h; subst h
  iterate 3 (refine s_skip _ rfl rfl ?_; refine nr ?_; intro U h; simp only [z0, z1] at h; subst h)
  refine s_val _ rfl rfl (.bool false) rfl ?_
  refine s_val _ rfl rfl (.bool false) rfl ?_
  refine nr ?_; intro U h; simp only [z0, z1] at h; subst h
  iterate 4 (refine s_skip _ rfl rfl ?_; refine nr ?_; intro U h; simp only [z0, z1] at h; subst h)
  refine s_val _ rfl rfl (.bool false) rfl ?_
  refine s_val _ rfl rfl (.bool false) rfl ?_
  refine wpList_nil (then_n (wp_ret (then_r ?_)))
  refine bodyPost_ret (results_tmp Try.results20 _ _ _) rfl ?_
  refine ⟨?_, GG⟩
  show Ending.returned (.bool false) = _
  unfold ownB
  rw [hp1, hp2, hp3]
  first | done | rfl
  refine mv 51 (.bool true) ?_
  refine nr ?_; intro U h; simp only [z0, z1] at h; subst h
  refine mv 52 (.bool true) (s_gval 53 rfl rfl (.pointer (some ⟨g3, 34, none⟩)) (run_fld 85 _ 4 rfl _ _ rfl _) (s_gval 54 rfl rfl (.int .i64 f.ttl) (run_ldc 3 _ rfl g3 34 rfl 85 _ kg3 (na3 _) _ rfl) ?_))
  refine nr ?_; intro U h; simp only [z0, z1] at h; subst h
  obtain ⟨p4, hp4⟩ : ∃ p, decide (f.ttl ≤ 64) = p := ⟨_, rfl⟩
  refine s_gval 55 rfl rfl (.bool p4) (run_leqT 3 _ _ _ rfl f.ttl 64 rfl rfl p4 hp4 _) ?_
  refine nr ?_; intro U h; simp only [z0, z1] at h; subst h
  cases p4
  refine s_val _ rfl rfl (.bool false) rfl ?_
  refine s_val _ rfl rfl (.bool false) rfl ?_
  refine nr ?_; intro U h; simp only [z0, z1] at h; subst h
  iterate 4 (refine s_skip _ rfl rfl ?_; refine nr ?_; intro U h; simp only [z0, z1] at h; subst h)
  refine s_val _ rfl rfl (.bool false) rfl ?_
  refine s_val _ rfl rfl (.bool false) rfl ?_
  refine wpList_nil (then_n (wp_ret (then_r ?_)))
  refine bodyPost_ret (results_tmp Try.results20 _ _ _) rfl ?_
  refine ⟨?_, GG⟩
  show Ending.returned (.bool false) = _
  unfold ownB
  rw [hp1, hp2, hp3, hp4]
  first | done | rfl
  refine mv 56 (.bool true) ?_
  refine nr ?_; intro U h; simp only [z0, z1] at h; subst h
  refine mv 57 (.bool true) (s_gval 58 rfl rfl (.pointer (some ⟨g3, 69, none⟩)) (run_fld 85 _ 6 rfl _ _ rfl _) (s_gval 59 rfl rfl (.slice f.tx.ao f.tx.n f.tx.cap) (run_ldc 36 _ rfl g3 69 rfl 85 _ kg3 (na32 _) _ rfl) ?_))
  refine nr ?_; intro U h; simp only [z0, z1] at h; subst h
  refine s_gval 60 rfl rfl (.int .i64 ((f.tx.n : Nat) : Int)) (run_len Try.underlying36 _ rfl _ _ _ rfl _) ?_
  refine nr ?_; intro U h; simp only [z0, z1] at h; subst h
  obtain ⟨p5, hp5⟩ : ∃ p, decide (((f.tx.n : Nat) : Int) ≤ 64) = p := ⟨_, rfl⟩
  refine s_gval 61 rfl rfl (.bool p5) (run_leqT 3 _ _ _ rfl ((f.tx.n : Nat) : Int) 64 rfl rfl p5 hp5 _) ?_
  refine nr ?_; intro U h; simp only [z0, z1] at h; subst h
  cases p5
  refine s_val _ rfl rfl (.bool false) rfl ?_
  refine s_val _ rfl rfl (.bool false) rfl ?_
  refine wpList_nil (then_n (wp_ret (then_r ?_)))
  refine bodyPost_ret (results_tmp Try.results20 _ _ _) rfl ?_
  refine ⟨?_, GG⟩
  show Ending.returned (.bool false) = _
  unfold ownB
  rw [hp1, hp2, hp3, hp4, hp5]
  first | done | rfl
  refine mv 62 (.bool true) ?_
  refine nr ?_; intro U h; simp only [z0, z1] at h; subst h
  refine mv 2 (.bool true) (wpList_nil (then_n (wp_ret (then_r ?_))))
  refine bodyPost_ret (results_tmp Try.results20 _ _ _) rfl ?_
  refine ⟨?_, GG⟩
  show Ending.returned (.bool true) = _
  unfold ownB
  rw [hp1, hp2, hp3, hp4, hp5]
  first | done | rfl
set_option maxRecDepth 100000 in
set_option maxHeartbeats 4000000 in
theorem ownRight_11 (f : Fr) (w : World) : Calls Try.prog 20 #[.iface 87 (.agg (c99 f.pw f.pn f.toA f.key f.vn f.vw f.val))] w fun e w' => e = .returned (.bool (ownB 11 f)) ∧ Gro w w' := by
  refine s_enterR Try.func20 rfl Try.ntmps20 [.iface 87 (.agg (c99 f.pw f.pn f.toA f.key f.vn f.vw f.val))] ?_
  intro U h; simp only [List.length_cons, List.length_nil, List.cons_append, List.nil_append, Nat.reduceAdd, Nat.reduceSub, List.reduceReplicate] at h; subst h
  have GG := Gro.refl w
  refine wp_seq (wp_region_lit (mv 2 (.bool false) (wpList_nil (then_n (wp_seq (wp_seq (wp_region_lit (mv 10 (.iface 87 (.agg (c99 f.pw f.pn f.toA f.key f.vn f.vw f.val))) (sv 11 (.tuple #[.agg (c81 0 0 0 0 0 Sl.nil), .bool false]) (run_ta _ 23 69 true rfl _ _ rfl) ?_)))))))))
  refine nr ?_; intro U h; simp only [z0, z1] at h; subst h
  refine mv 9 (.tuple #[.agg (c81 0 0 0 0 0 Sl.nil), .bool false]) (mv 12 (.agg (c81 0 0 0 0 0 Sl.nil)) (mv 13 (.bool false) ?_))
  refine nr ?_; intro U h; simp only [z0, z1] at h; subst h
  refine s_alloc 3 rfl rfl 69 rfl _ zv81 _ rfl ?_
  intro w1 g1 G eg1 kg1
  have bg1 := size_base GG eg1
  replace GG := GG.trans G
  clear G eg1
  refine s_store rfl rfl 69 _ _ rfl g1 0 rfl (.agg (c81 0 0 0 0 0 Sl.nil)) rfl 69 _ kg1 (c81 0 0 0 0 0 Sl.nil) rfl (by kernel_rfl) (Nat.le_of_ble_eq_true rfl) (by kernel_rfl) (c81 0 0 0 0 0 Sl.nil) (by kernel_rfl) ?_
  intro w3 S
  replace GG := GG.store S bg1
  replace kg1 := S.new
  clear S
  refine mv 4 (.bool false) (wpList_nil (then_n (wp_seq (wp_region_lit (mv 14 (.bool false) ?_)))))
  refine nr ?_; intro U h; simp only [z0, z1] at h; subst h
  refine wpList_nil (then_n (wp_cond_false rfl (wp_skip (then_n (wp_seq (wp_seq (wp_region_lit (mv 20 (.iface 87 (.agg (c99 f.pw f.pn f.toA f.key f.vn f.vw f.val))) (sv 21 (.tuple #[.agg (c93 zF zF 0 zF 0 false Sl.nil), .bool false]) (run_ta _ 23 81 true rfl _ _ rfl) (mv 19 (.tuple #[.agg (c93 zF zF 0 zF 0 false Sl.nil), .bool false]) ?_))))))))))
  refine nr ?_; intro U h; simp only [z0, z1] at h; subst h
  refine mv 22 (.agg (c93 zF zF 0 zF 0 false Sl.nil)) (mv 23 (.bool false) ?_)
  refine s_alloc 5 rfl rfl 81 rfl _ zv93 _ rfl ?_
  intro w4 g2 G eg2 kg2
  have bg2 := size_base GG eg2
  have dg1g2 := lt_new kg1 eg2
  replace kg1 := G.has kg1
  replace GG := GG.trans G
  clear G eg2
  refine nr ?_; intro U h; simp only [z0, z1] at h; subst h
  refine s_store rfl rfl 81 _ _ rfl g2 0 rfl (.agg (c93 zF zF 0 zF 0 false Sl.nil)) rfl 81 _ kg2 (c93 zF zF 0 zF 0 false Sl.nil) rfl (by kernel_rfl) (Nat.le_of_ble_eq_true rfl) (by kernel_rfl) (c93 zF zF 0 zF 0 false Sl.nil) (by kernel_rfl) ?_
  intro w6 S
  replace kg1 := S.has (by omega) kg1
  replace GG := GG.store S bg2
  replace kg2 := S.new
  clear S
  refine mv 6 (.bool false) (wpList_nil (then_n (wp_seq (wp_region_lit (mv 24 (.bool false) (wpList_nil (then_n (wp_cond_false rfl (wp_skip (then_n (wp_seq (wp_seq (wp_region_lit (mv 34 (.iface 87 (.agg (c99 f.pw f.pn f.toA f.key f.vn f.vw f.val))) ?_))))))))))))))
  refine nr ?_; intro U h; simp only [z0, z1] at h; subst h
  refine sv 35 (.tuple #[.agg (c97 zF zF 0 0 0 zF 0 zF Sl.nil Sl.nil), .bool false]) (run_ta _ 23 85 true rfl _ _ rfl) (mv 33 (.tuple #[.agg (c97 zF zF 0 0 0 zF 0 zF Sl.nil Sl.nil), .bool false]) (mv 36 (.agg (c97 zF zF 0 0 0 zF 0 zF Sl.nil Sl.nil)) ?_))
  refine nr ?_; intro U h; simp only [z0, z1] at h; subst h
  refine mv 37 (.bool false) ?_
  refine s_alloc 7 rfl rfl 85 rfl _ zv97 _ rfl ?_
  intro w7 g3 G eg3 kg3
  have bg3 := size_base GG eg3
  have dg1g3 := lt_new kg1 eg3
  have dg2g3 := lt_new kg2 eg3
  replace kg1 := G.has kg1
  replace kg2 := G.has kg2
  replace GG := GG.trans G
  clear G eg3
  refine s_store rfl rfl 85 _ _ rfl g3 0 rfl (.agg (c97 zF zF 0 0 0 zF 0 zF Sl.nil Sl.nil)) rfl 85 _ kg3 (c97 zF zF 0 0 0 zF 0 zF Sl.nil Sl.nil) rfl (by kernel_rfl) (Nat.le_of_ble_eq_true rfl) (by kernel_rfl) (c97 zF zF 0 0 0 zF 0 zF Sl.nil Sl.nil) (by kernel_rfl) ?_
  intro w9 S
  replace kg1 := S.has (by omega) kg1
  replace kg2 := S.has (by omega) kg2
  replace GG := GG.store S bg3
  replace kg3 := S.new
  clear S
  refine mv 8 (.bool false) ?_
  refine nr ?_; intro U h; simp only [z0, z1] at h; subst h
  refine wpList_nil (then_n (wp_seq (wp_region_lit (mv 38 (.bool false) (wpList_nil (then_n (wp_cond_false rfl (wp_skip (then_n (wp_seq (wp_region_lit (mv 2 (.bool true) (wpList_nil (then_n (wp_ret ?_)))))))))))))))
  refine bodyPost_ret (results_tmp Try.results20 _ _ _) rfl ?_
  refine ⟨?_, GG⟩
  show Ending.returned (.bool true) = _
  unfold ownB
  first | done | rfl
set_option maxRecDepth 100000 in
set_option maxHeartbeats 4000000 in
theorem ownRight_12 (f : Fr) (w : World) : Calls Try.prog 20 #[.iface 89 (.agg (c101 f.pw f.pn f.toA f.key f.vn f.vw))] w fun e w' => e = .returned (.bool (ownB 12 f)) ∧ Gro w w' := by
  refine s_enterR Try.func20 rfl Try.ntmps20 [.iface 89 (.agg (c101 f.pw f.pn f.toA f.key f.vn f.vw))] ?_
  intro U h; simp only [List.length_cons, List.length_nil, List.cons_append, List.nil_append, Nat.reduceAdd, Nat.reduceSub, List.reduceReplicate] at h; subst h
  have GG := Gro.refl w
  refine wp_seq (wp_region_lit (mv 2 (.bool false) (wpList_nil (then_n (wp_seq (wp_seq (wp_region_lit (mv 10 (.iface 89 (.agg (c101 f.pw f.pn f.toA f.key f.vn f.vw))) (sv 11 (.tuple #[.agg (c81 0 0 0 0 0 Sl.nil), .bool false]) (run_ta _ 23 69 true rfl _ _ rfl) ?_)))))))))
  refine nr ?_; intro U h; simp only [z0, z1] at h; subst h
  refine mv 9 (.tuple #[.agg (c81 0 0 0 0 0 Sl.nil), .bool false]) (mv 12 (.agg (c81 0 0 0 0 0 Sl.nil)) (mv 13 (.bool false) ?_))
  refine nr ?_; intro U h; simp only [z0, z1] at h; subst h
  refine s_alloc 3 rfl rfl 69 rfl _ zv81 _ rfl ?_
  intro w1 g1 G eg1 kg1
  have bg1 := size_base GG eg1
  replace GG := GG.trans G
  clear G eg1
  refine s_store rfl rfl 69 _ _ rfl g1 0 rfl (.agg (c81 0 0 0 0 0 Sl.nil)) rfl 69 _ kg1 (c81 0 0 0 0 0 Sl.nil) rfl (by kernel_rfl) (Nat.le_of_ble_eq_true rfl) (by kernel_rfl) (c81 0 0 0 0 0 Sl.nil) (by kernel_rfl) ?_
  intro w3 S
  replace GG := GG.store S bg1
  replace kg1 := S.new
  clear S
  refine mv 4 (.bool false) (wpList_nil (then_n (wp_seq (wp_region_lit (mv 14 (.bool false) ?_)))))
  refine nr ?_; intro U h; simp only [z0, z1] at h; subst h
  refine wpList_nil (then_n (wp_cond_false rfl (wp_skip (then_n (wp_seq (wp_seq (wp_region_lit (mv 20 (.iface 89 (.agg (c101 f.pw f.pn f.toA f.key f.vn f.vw))) (sv 21 (.tuple #[.agg (c93 zF zF 0 zF 0 false Sl.nil), .bool false]) (run_ta _ 23 81 true rfl _ _ rfl) (mv 19 (.tuple #[.agg (c93 zF zF 0 zF 0 false Sl.nil), .bool false]) ?_))))))))))
  refine nr ?_; intro U h; simp only [z0, z1] at h; subst h
  refine mv 22 (.agg (c93 zF zF 0 zF 0 false Sl.nil)) (mv 23 (.bool false) ?_)
  refine s_alloc 5 rfl rfl 81 rfl _ zv93 _ rfl ?_
  intro w4 g2 G eg2 kg2
  have bg2 := size_base GG eg2
  have dg1g2 := lt_new kg1 eg2
  replace kg1 := G.has kg1
  replace GG := GG.trans G
  clear G eg2
  refine nr ?_; intro U h; simp only [z0, z1] at h; subst h
  refine s_store rfl rfl 81 _ _ rfl g2 0 rfl (.agg (c93 zF zF 0 zF 0 false Sl.nil)) rfl 81 _ kg2 (c93 zF zF 0 zF 0 false Sl.nil) rfl (by kernel_rfl) (Nat.le_of_ble_eq_true rfl) (by kernel_rfl) (c93 zF zF 0 zF 0 false Sl.nil) (by kernel_rfl) ?_
  intro w6 S
  replace kg1 := S.has (by omega) kg1
  replace GG := GG.store S bg2
  replace kg2 := S.new
  clear S
  refine mv 6 (.bool false) (wpList_nil (then_n (wp_seq (wp_region_lit (mv 24 (.bool false) (wpList_nil (then_n (wp_cond_false rfl (wp_skip (then_n (wp_seq (wp_seq (wp_region_lit (mv 34 (.iface 89 (.agg (c101 f.pw f.pn f.toA f.key f.vn f.vw))) ?_))))))))))))))
  refine nr ?_; intro U h; simp only [z0, z1] at h; subst h
  refine sv 35 (.tuple #[.agg (c97 zF zF 0 0 0 zF 0 zF Sl.nil Sl.nil), .bool false]) (run_ta _ 23 85 true rfl _ _ rfl) (mv 33 (.tuple #[.agg (c97 zF zF 0 0 0 zF 0 zF Sl.nil Sl.nil), .bool false]) (mv 36 (.agg (c97 zF zF 0 0 0 zF 0 zF Sl.nil Sl.nil)) ?_))
  refine nr ?_; intro U h; simp only [z0, z1] at h; subst h
  refine mv 37 (.bool false) ?_
  refine s_alloc 7 rfl rfl 85 rfl _ zv97 _ rfl ?_
  intro w7 g3 G eg3 kg3
  have bg3 := size_base GG eg3
  have dg1g3 := lt_new kg1 eg3
  have dg2g3 := lt_new kg2 eg3
  replace kg1 := G.has kg1
  replace kg2 := G.has kg2
  replace GG := GG.trans G
  clear G eg3
  refine s_store rfl rfl 85 _ _ rfl g3 0 rfl (.agg (c97 zF zF 0 0 0 zF 0 zF Sl.nil Sl.nil)) rfl 85 _ kg3 (c97 zF zF 0 0 0 zF 0 zF Sl.nil Sl.nil) rfl (by kernel_rfl) (Nat.le_of_ble_eq_true rfl) (by kernel_rfl) (c97 zF zF 0 0 0 zF 0 zF Sl.nil Sl.nil) (by kernel_rfl) ?_
  intro w9 S
  replace kg1 := S.has (by omega) kg1
  replace kg2 := S.has (by omega) kg2
  replace GG := GG.store S bg3
  replace kg3 := S.new
  clear S
  refine mv 8 (.bool false) ?_
  refine nr ?_; intro U h; simp only [z0, z1] at h; subst h
  refine wpList_nil (then_n (wp_seq (wp_region_lit (mv 38 (.bool false) (wpList_nil (then_n (wp_cond_false rfl (wp_skip (then_n (wp_seq (wp_region_lit (mv 2 (.bool true) (wpList_nil (then_n (wp_ret ?_)))))))))))))))
  refine bodyPost_ret (results_tmp Try.results20 _ _ _) rfl ?_
  refine ⟨?_, GG⟩
  show Ending.returned (.bool true) = _
  unfold ownB
  first | done | rfl
theorem ownRight_any (k : Nat) (h1 : 1 ≤ k) (h2 : k ≤ 12) (f : Fr) (w : World) : Calls Try.prog 20 #[bodyV k f] w fun e w' => e = .returned (.bool (ownB k f)) ∧ Gro w w' := by
  rcases is12 h1 h2 with rfl | rfl | rfl | rfl | rfl | rfl | rfl | rfl | rfl | rfl | rfl | rfl
  · exact ownRight_1 f w
  · exact ownRight_2 f w
  · exact ownRight_3 f w
  · exact ownRight_4 f w
  · exact ownRight_5 f w
  · exact ownRight_6 f w
  · exact ownRight_7 f w
  · exact ownRight_8 f w
  · exact ownRight_9 f w
  · exact ownRight_10 f w
  · exact ownRight_11 f w
  · exact ownRight_12 f w
end Go.Proofs.Ythmcnlmphikicab
