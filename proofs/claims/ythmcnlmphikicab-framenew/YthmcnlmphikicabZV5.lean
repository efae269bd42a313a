/- What is handed in or on may be written over (FrameNew). -/
import Derived.Test.YthmcnlmphikicabZV4
import Derived.Test.YthmcnlmphikicabZH1
namespace Go.Proofs.Ythmcnlmphikicab
open Go.RowKit
theorem run_bodyne (k : Nat) (h1 : 1 ≤ k) (h2 : k ≤ 12) (h : Fr) {o : Oper} {A : Act} (x y : Operand) (t2 : TypeId) (ho : o.op = .binOp .eql 23 x y t2) (hx : A.eval x = bodyV k h) (hy : A.eval y = .nilIface) (w : World) : (execOp A.eval o).run Try.prog w = .ok (.value (.bool false)) w := by
  rcases is12 h1 h2 with rfl | rfl | rfl | rfl | rfl | rfl | rfl | rfl | rfl | rfl | rfl | rfl <;>
    exact run_binop .eql 23 x y t2 ho _ _ _ hx hy (by kernel_rfl) (by kernel_rfl)
def xr (z : Int) : Int := IntKind.u8.wrap ((BitVec.ofInt IntKind.u8.bits z ^^^ BitVec.ofInt IntKind.u8.bits 255).toNat : Int)
theorem run_xor8 {P : Program} {o : Oper} {A : Act} (t t2 : TypeId) (x y : Operand) (ho : o.op = .binOp .xor t x y t2) (z : Int) (hx : A.eval x = .int .u8 z) (hy : A.eval y = .int .u8 255) (w : World) : (execOp A.eval o).run P w = .ok (.value (.int .u8 (xr z))) w :=
  run_binop .xor t x y t2 ho _ _ _ hx hy (by simp [eqGuard]) rfl
theorem OB.gros {S : List Nat} {w w' : World} {e : TypeId} {k : IntKind} {B : Nat} {ao : Option Addr} {cap : Nat} {l : List Nat} (h : OB w e k B ao cap l) (G : GroS S w w') (hs : ∀ ad, ao = some ad → ad.block ∉ S) : OB w' e k B ao cap l := by
  refine ⟨⟨h.own.1, ?_⟩, h.wf⟩
  rcases h.own.2 with h1 | ⟨g, c, cur, h1, h2, h3, h4⟩
  · exact .inl h1
  · refine .inr ⟨g, c, cur, h1, h2, G.has h3 ?_, h4⟩
    injection h1 with h1
    exact hs _ h1
theorem bat {o : Oper} {A : Act} (x y : Operand) (ho : o.op = .indexAddr 36 x y) (g n cap j : Nat) (hx : A.eval x = .slice (some ⟨g, 0, none⟩) n cap) (hy : A.eval y = .int .i64 (j : Int)) (hj : j < n) (w : World) :
    (execOp A.eval o).run Try.prog w = .ok (.value (.pointer (some ⟨g, j, none⟩))) w := by
  rw [run_idx bT x y ho ⟨g, 0, none⟩ n cap j hx hy hj w, add_at, Nat.zero_add]
theorem one1 (y : Int) : (#[Value.int .u8 y]).all (·.oneCell') = true := by
  rw [Array.all_eq_true_iff_forall_mem]
  intro x hx
  simp at hx
  subst hx
  rfl
theorem int_u8 (l : List Nat) : ∀ v ∈ (l.map fun r : Nat => Value.int .u8 (r : Int)), ∃ x, v = .int .u8 x := fun v hv => by
  obtain ⟨x, _, rfl⟩ := List.mem_map.1 hv
  exact ⟨_, rfl⟩
theorem lower_eq {n m : Nat} {f : Fr} (h : Lower n f) (e : n = m) : Lower m f := e ▸ h
structure SZ (n : Nat) (w : World) : Prop where
  le : n ≤ w.heap.size
theorem SZ.gro {n : Nat} {w w' : World} (h : SZ n w) (G : Gro w w') : SZ n w' := ⟨Nat.le_trans h.le G.size⟩
theorem SZ.st {n g : Nat} {w w' : World} {x : Obj} (h : SZ n w) (S : Stored w w' g x) : SZ n w' := ⟨Nat.le_trans h.le (Nat.le_of_eq S.size.symm)⟩
theorem OB.stT {w w' : World} {B g : Nat} {ao : Option Addr} {cap : Nat} {l : List Nat} {x : Obj} {c : Array Value} (h : OB w 5 .u8 B ao cap l) (S : Stored w w' g x) (hg : w.heap[g]? = some (.cells c 40 (0, 0))) : OB w' 5 .u8 B ao cap l :=
  h.apart S (fun ad ha => by obtain ⟨cur, hc⟩ := h.ox.ty ha; exact neT hc hg (by decide))
def alE (k : Nat) (h : Fr) (d : FD) : PostE := PostE.ex (fun v x => ∃ p : Fr, v = .agg (frA p) ∧ EqF p (bare k h) ∧ p.kind = (k : Int) ∧ ∃ M, FrO x M p d) (fun _ _ _ G ⟨p, h1, h2, h3, M, h4⟩ => ⟨p, h1, h2, h3, M, h4.gro G⟩)
theorem fill_alE (k : Nat) (h : Fr) (d : FD) (v : Value) : (alE k h d).fill v = v := rfl
set_option maxRecDepth 100000 in
set_option maxHeartbeats 4000000 in
theorem frameNew_any (f : Fr) (d : FD) (w : World) (HF : FrW w f d) (HS : FrS f) (hl : Lens d) (HR : FrR f) : Calls Try.prog 4 #[.agg (c36 f.kind f.pw f.pn f.toA f.a f.b f.n f.fi f.fn f.ti f.tn f.tr f.ids f.key f.vn f.vw f.val f.op f.ttl f.tx)] w fun e w' => e = .returned (.bool true) ∧ Gro w w' := by
  refine s_enterR Try.func4 rfl Try.ntmps4 [.agg (c36 f.kind f.pw f.pn f.toA f.a f.b f.n f.fi f.fn f.ti f.tn f.tr f.ids f.key f.vn f.vw f.val f.op f.ttl f.tx)] ?_
  intro U h; simp only [List.length_cons, List.length_nil, List.cons_append, List.nil_append, Nat.reduceAdd, Nat.reduceSub, List.reduceReplicate] at h; subst h
  have GG := Gro.refl w
  have hd := ds_of HF HS
  refine wp_seq (wp_region_lit ?_)
  refine s_box 1 rfl rfl 40 _ rfl _ rfl (c36 f.kind f.pw f.pn f.toA f.a f.b f.n f.fi f.fn f.ti f.tn f.tr f.ids f.key f.vn f.vw f.val f.op f.ttl f.tx) rfl ?_
  intro w1 g1 G eg1 kg1
  have bg1 := size_base GG eg1
  replace GG := GG.trans G
  clear G eg1
  refine mv 2 (.bool false) (wpList_nil (then_n (wp_seq (wp_region_lit (sv 13 (.agg (c36 f.kind f.pw f.pn f.toA f.a f.b f.n f.fi f.fn f.ti f.tn f.tr f.ids f.key f.vn f.vw f.val f.op f.ttl f.tx)) (run_lda 40 _ rfl g1 0 95 rfl 40 _ kg1 _ Try.underlying40 rfl si36 _) ?_)))))
  refine nr ?_; intro U h; simp only [z0, z1] at h; subst h
  have hb0 := GG.size
  refine s_callx 14 rfl rfl _ 10 Try.call10 rfl rfl _ rfl [.agg (c36 f.kind f.pw f.pn f.toA f.a f.b f.n f.fi f.fn f.ti f.tn f.tr f.ids f.key f.vn f.vw f.val f.op f.ttl f.tx)] rfl (copy_v f d _ (HF.gro GG) HS HR) (fun _ _ ⟨_, he, _⟩ => ⟨_, he⟩) ?_
  rintro v w2 ⟨c, he, hcE, hck, hcR, HC, G⟩
  cases he
  obtain ⟨nC, hnC⟩ : ∃ n, w2.heap.size = n := ⟨_, rfl⟩
  have lC : Lower nC c := lower_eq HC.lower hnC
  have bC : ∀ x ∈ spB c, w.heap.size ≤ x := fun x hx => Nat.le_trans hb0 (HC.sp x hx)
  replace kg1 := G.has kg1
  replace GG := GG.trans G
  clear G
  have GC : SZ nC w2 := ⟨Nat.le_of_eq hnC.symm⟩
  refine s_alloc 3 rfl rfl 40 rfl _ zv36 _ rfl ?_
  intro w3 g2 G eg2 kg2
  have bg2 := size_base GG eg2
  have dg1g2 := lt_new kg1 eg2
  replace kg1 := G.has kg1
  replace HC := HC.gro G
  replace GC := GC.gro G
  replace GG := GG.trans G
  clear G eg2
  refine s_store rfl rfl 40 _ _ rfl g2 0 rfl (.agg (c36 c.kind c.pw c.pn c.toA c.a c.b c.n c.fi c.fn c.ti c.tn c.tr c.ids c.key c.vn c.vw c.val c.op c.ttl c.tx)) rfl 40 _ kg2 (c36 c.kind c.pw c.pn c.toA c.a c.b c.n c.fi c.fn c.ti c.tn c.tr c.ids c.key c.vn c.vw c.val c.op c.ttl c.tx) rfl (by kernel_rfl) (Nat.le_of_ble_eq_true rfl) (by kernel_rfl) (c36 c.kind c.pw c.pn c.toA c.a c.b c.n c.fi c.fn c.ti c.tn c.tr c.ids c.key c.vn c.vw c.val c.op c.ttl c.tx) (by kernel_rfl) ?_
  intro w5 St
  replace kg1 := St.has (by omega) kg1
  replace HC := HC.stT St kg2
  replace GC := GC.st St
  replace GG := GG.store St bg2
  replace kg2 := St.new
  clear St
  refine wpList_nil (then_n (wp_seq (wp_region_lit (sv 16 (.agg (c36 c.kind c.pw c.pn c.toA c.a c.b c.n c.fi c.fn c.ti c.tn c.tr c.ids c.key c.vn c.vw c.val c.op c.ttl c.tx)) (run_lda 40 _ rfl g2 0 95 rfl 40 _ kg2 _ Try.underlying40 rfl si36 _) ?_))))
  refine nr ?_; intro U h; simp only [z0, z1] at h; subst h
  rcases enc_way _ c d HC.frw hl hcR with HE | HL
  refine s_callv 17 rfl rfl _ 11 Try.call11 rfl rfl _ rfl [.agg (c36 c.kind c.pw c.pn c.toA c.a c.b c.n c.fi c.fn c.ti c.tn c.tr c.ids c.key c.vn c.vw c.val c.op c.ttl c.tx)] rfl (HE _ (Gro.refl _)) ?_
  intro w6 G
  replace kg1 := G.has kg1
  replace kg2 := G.has kg2
  replace HC := HC.gro G
  replace GC := GC.gro G
  replace GG := GG.trans G
  clear G
  refine mv 15 (.tuple #[.slice none 0 0, .int .i64 1]) (mv 18 (.slice none 0 0) ?_)
  refine nr ?_; intro U h; simp only [z0, z1] at h; subst h
  refine mv 19 (.int .i64 1) (mv 4 (.slice none 0 0) (mv 5 (.int .i64 1) ?_))
  refine nr ?_; intro U h; simp only [z0, z1] at h; subst h
  refine wpList_nil (then_n (wp_seq (wp_seq (wp_region_lit (mv 20 (.int .i64 1) (sv 21 (.bool true) (run_neq_k 47 .i64 _ _ _ rfl Try.underlying47 _ _ rfl rfl true rfl _) (wpList_nil (then_n (wp_cond_true rfl (wp_seq (wp_region_lit ?_)))))))))))
  refine s_callv 22 rfl rfl _ 6 Try.call6 rfl rfl _ rfl [] rfl (fixed_any _) ?_
  intro w7 G
  replace kg1 := G.has kg1
  replace kg2 := G.has kg2
  replace HC := HC.gro G
  replace GC := GC.gro G
  replace GG := GG.trans G
  clear G
  refine nr ?_; intro U h; simp only [z0, z1] at h; subst h
  refine mv 2 (.bool true) (wpList_nil (then_n (wp_ret (then_r ?_))))
  refine bodyPost_ret (results_tmp Try.results4 _ _ _) rfl ?_
  exact ⟨rfl, GG⟩
  obtain ⟨k, h1, h2, hk, hs, hL, htx, hfl, hf0, HE⟩ := HL
  obtain ⟨hcS, hbd⟩ := eqf_same hs
  have zE := GC.le
  obtain ⟨nE, hnE⟩ : ∃ n, w5.heap.size = n := ⟨_, rfl⟩
  refine s_callx 17 rfl rfl _ 11 Try.call11 rfl rfl _ rfl [.agg (c36 c.kind c.pw c.pn c.toA c.a c.b c.n c.fi c.fn c.ti c.tn c.tr c.ids c.key c.vn c.vw c.val c.op c.ttl c.tx)] rfl (HE _ (Gro.refl _)) (fun _ _ ⟨_, _, he, _⟩ => ⟨_, he⟩) ?_
  rintro v w6 ⟨ao, cap, he, HB, G⟩
  cases he
  rw [hnE] at HB
  rw [hnE] at zE
  obtain ⟨nB, hnB⟩ : ∃ n, w6.heap.size = n := ⟨_, rfl⟩
  have lB : ∀ ad, ao = some ad → nE ≤ ad.block ∧ ad.block < nB := fun ad ha => by have h := HB.ge ad ha; rw [hnB] at h; exact h
  have ynB : nE ≤ nB := by rw [← hnE, ← hnB]; exact G.size
  have bE : w.heap.size ≤ nE := by rw [← hnE]; exact GG.size
  replace kg1 := G.has kg1
  replace kg2 := G.has kg2
  replace HC := HC.gro G
  replace GC := GC.gro G
  replace GG := GG.trans G
  clear G
  clear GC
  have GC : SZ nB w6 := ⟨Nat.le_of_eq hnB.symm⟩
  refine mv 15 (.tuple #[.slice ao ((frameL k c d).length) cap, .int .i64 0]) ?_
  refine nr ?_; intro U h; simp only [z0, z1] at h; subst h
  refine mv 18 (.slice ao ((frameL k c d).length) cap) (mv 19 (.int .i64 0) (mv 4 (.slice ao ((frameL k c d).length) cap) ?_))
  refine nr ?_; intro U h; simp only [z0, z1] at h; subst h
  refine mv 5 (.int .i64 0) (wpList_nil (then_n (wp_seq (wp_seq (wp_region_lit (mv 20 (.int .i64 0) (sv 21 (.bool false) (run_neq_k 47 .i64 _ _ _ rfl Try.underlying47 _ _ rfl rfl false rfl _) ?_)))))))
  refine nr ?_; intro U h; simp only [z0, z1] at h; subst h
  refine wpList_nil (then_n (wp_cond_false rfl (wp_skip (then_n (wp_seq (wp_region_lit (sv 24 (.agg (c36 c.kind c.pw c.pn c.toA c.a c.b c.n c.fi c.fn c.ti c.tn c.tr c.ids c.key c.vn c.vw c.val c.op c.ttl c.tx)) (run_lda 40 _ rfl g2 0 95 rfl 40 _ kg2 _ Try.underlying40 rfl si36 _) ?_)))))))
  refine nr ?_; intro U h; simp only [z0, z1] at h; subst h
  obtain ⟨nO, hnO⟩ : ∃ n, w6.heap.size = n := ⟨_, rfl⟩
  have znO := GC.le
  rw [hnO] at znO
  refine s_callx 25 rfl rfl _ 5 Try.call5 rfl rfl _ rfl [.agg (c36 c.kind c.pw c.pn c.toA c.a c.b c.n c.fi c.fn c.ti c.tn c.tr c.ids c.key c.vn c.vw c.val c.op c.ttl c.tx)] rfl (of_v k h1 h2 c hk d _ HC.frw hd) (fun _ _ ⟨_, he, _⟩ => ⟨_, he⟩) ?_
  rintro v w7 ⟨h, he, hhE, HH, G⟩
  cases he
  rw [hnO] at HH
  obtain ⟨nH, hnH⟩ : ∃ n, w7.heap.size = n := ⟨_, rfl⟩
  have lHH : Lower nH h := lower_eq HH.lower hnH
  have ynH : nO ≤ nH := by rw [← hnO, ← hnH]; exact G.size
  replace kg1 := G.has kg1
  replace kg2 := G.has kg2
  replace HC := HC.gro G
  replace HB := HB.gro G
  replace GC := GC.gro G
  replace GG := GG.trans G
  clear G
  clear GC
  have GC : SZ nH w7 := ⟨Nat.le_of_eq hnH.symm⟩
  refine mv 23 (.tuple #[bodyV k h, .bool true]) (mv 26 (bodyV k h) ?_)
  refine nr ?_; intro U h; simp only [z0, z1] at h; subst h
  refine mv 27 (.bool true) (mv 6 (bodyV k h) (mv 7 (.bool true) ?_))
  refine nr ?_; intro U h; simp only [z0, z1] at h; subst h
  refine wpList_nil (then_n (wp_seq (wp_seq ?_)))
  refine wp_region_opq ?_
  intro OPS hY
  have y2 := hY 2 30 rfl
  clear hY
  refine mv 28 (.bool true) (sv 29 (.bool false) (run_nt _ _ rfl true rfl) (mv 30 (.bool false) ?_))
  refine nr ?_; intro U h; simp only [z0, z1] at h; subst h
  refine s_gvalY 31 rfl rfl y2 rfl (bodyV k h) (rfl) (s_gvalY 32 rfl rfl y2 rfl (.bool false) (run_bodyne k h1 h2 h _ _ _ rfl rfl rfl _) (mv 33 (.bool false) ?_))
  refine nr ?_; intro U h; simp only [z0, z1] at h; subst h
  refine wpList_nil (then_n (wp_cond_false rfl (wp_skip (then_n (wp_seq (wp_region_lit (mv 34 (bodyV k h) ?_)))))))
  refine nr ?_; intro U h; simp only [z0, z1] at h; subst h
  obtain ⟨nP, hnP⟩ : ∃ n, w7.heap.size = n := ⟨_, rfl⟩
  have znP := GC.le
  rw [hnP] at znP
  refine s_callx 35 rfl rfl _ 8 Try.call8 rfl rfl _ rfl [bodyV k h] rfl (plain_v k h1 h2 h d _ HH.frw hd hbd) (fun _ _ ⟨_, he, _⟩ => ⟨_, he⟩) ?_
  rintro v w8 ⟨p, he, hpE, hpk, HP, G⟩
  cases he
  rw [hnP] at HP
  obtain ⟨nQ, hnQ⟩ : ∃ n, w8.heap.size = n := ⟨_, rfl⟩
  have lHP : Lower nQ p := lower_eq HP.lower hnQ
  have ynQ : nP ≤ nQ := by rw [← hnP, ← hnQ]; exact G.size
  replace kg1 := G.has kg1
  replace kg2 := G.has kg2
  replace HC := HC.gro G
  replace HB := HB.gro G
  replace HH := HH.gro G
  replace GC := GC.gro G
  replace GG := GG.trans G
  clear G
  clear GC
  have GC : SZ nQ w8 := ⟨Nat.le_of_eq hnQ.symm⟩
  refine nr ?_; intro U h; simp only [z0, z1] at h; subst h
  have bP : ∀ x ∈ spB p, nP ≤ x := fun x hx => HP.sp x hx
  refine mv 36 (bodyV k h) ?_
  refine nr ?_; intro U h; simp only [z0, z1] at h; subst h
  obtain ⟨nR, hnR⟩ : ∃ n, w8.heap.size = n := ⟨_, rfl⟩
  have znR := GC.le
  rw [hnR] at znR
  refine s_callx 37 rfl rfl _ 8 Try.call8 rfl rfl _ rfl [bodyV k h] rfl (plain_v k h1 h2 h d _ HH.frw hd hbd) (fun _ _ ⟨_, he, _⟩ => ⟨_, he⟩) ?_
  rintro v w9 ⟨q, he, hqE, hqk, HQ, G⟩
  cases he
  rw [hnR] at HQ
  obtain ⟨nS, hnS⟩ : ∃ n, w9.heap.size = n := ⟨_, rfl⟩
  have lHQ : Lower nS q := lower_eq HQ.lower hnS
  have ynS : nR ≤ nS := by rw [← hnR, ← hnS]; exact G.size
  replace kg1 := G.has kg1
  replace kg2 := G.has kg2
  replace HC := HC.gro G
  replace HB := HB.gro G
  replace HH := HH.gro G
  replace HP := HP.gro G
  replace GC := GC.gro G
  replace GG := GG.trans G
  clear G
  clear GC
  have GC : SZ nS w9 := ⟨Nat.le_of_eq hnS.symm⟩
  refine s_alloc 8 rfl rfl 40 rfl _ zv36 _ rfl ?_
  intro w10 g3 G eg3 kg3
  have bg3 := size_base GG eg3
  have dg1g3 := lt_new kg1 eg3
  have dg2g3 := lt_new kg2 eg3
  replace kg1 := G.has kg1
  replace kg2 := G.has kg2
  replace HC := HC.gro G
  replace HB := HB.gro G
  replace HH := HH.gro G
  replace HP := HP.gro G
  replace HQ := HQ.gro G
  replace GC := GC.gro G
  replace GG := GG.trans G
  clear G eg3
  refine s_alloc 9 rfl rfl 40 rfl _ zv36 _ rfl ?_
  intro w11 g4 G eg4 kg4
  have bg4 := size_base GG eg4
  have dg1g4 := lt_new kg1 eg4
  have dg2g4 := lt_new kg2 eg4
  have dg3g4 := lt_new kg3 eg4
  replace kg1 := G.has kg1
  replace kg2 := G.has kg2
  replace kg3 := G.has kg3
  replace HC := HC.gro G
  replace HB := HB.gro G
  replace HH := HH.gro G
  replace HP := HP.gro G
  replace HQ := HQ.gro G
  replace GC := GC.gro G
  replace GG := GG.trans G
  clear G eg4
  refine nr ?_; intro U h; simp only [z0, z1] at h; subst h
  refine s_store rfl rfl 40 _ _ rfl g3 0 rfl (.agg (c36 p.kind p.pw p.pn p.toA p.a p.b p.n p.fi p.fn p.ti p.tn p.tr p.ids p.key p.vn p.vw p.val p.op p.ttl p.tx)) rfl 40 _ kg3 (c36 p.kind p.pw p.pn p.toA p.a p.b p.n p.fi p.fn p.ti p.tn p.tr p.ids p.key p.vn p.vw p.val p.op p.ttl p.tx) rfl (by kernel_rfl) (Nat.le_of_ble_eq_true rfl) (by kernel_rfl) (c36 p.kind p.pw p.pn p.toA p.a p.b p.n p.fi p.fn p.ti p.tn p.tr p.ids p.key p.vn p.vw p.val p.op p.ttl p.tx) (by kernel_rfl) ?_
  intro w13 St
  replace kg1 := St.has (by omega) kg1
  replace kg2 := St.has (by omega) kg2
  replace kg4 := St.has (by omega) kg4
  replace HC := HC.stT St kg3
  replace HB := HB.stT St kg3
  replace HH := HH.stT St kg3
  replace HP := HP.stT St kg3
  replace HQ := HQ.stT St kg3
  replace GC := GC.st St
  replace GG := GG.store St bg3
  replace kg3 := St.new
  clear St
  refine s_store rfl rfl 40 _ _ rfl g4 0 rfl (.agg (c36 q.kind q.pw q.pn q.toA q.a q.b q.n q.fi q.fn q.ti q.tn q.tr q.ids q.key q.vn q.vw q.val q.op q.ttl q.tx)) rfl 40 _ kg4 (c36 q.kind q.pw q.pn q.toA q.a q.b q.n q.fi q.fn q.ti q.tn q.tr q.ids q.key q.vn q.vw q.val q.op q.ttl q.tx) rfl (by kernel_rfl) (Nat.le_of_ble_eq_true rfl) (by kernel_rfl) (c36 q.kind q.pw q.pn q.toA q.a q.b q.n q.fi q.fn q.ti q.tn q.tr q.ids q.key q.vn q.vw q.val q.op q.ttl q.tx) (by kernel_rfl) ?_
  intro w15 St
  replace kg1 := St.has (by omega) kg1
  replace kg2 := St.has (by omega) kg2
  replace kg3 := St.has (by omega) kg3
  replace HC := HC.stT St kg4
  replace HB := HB.stT St kg4
  replace HH := HH.stT St kg4
  replace HP := HP.stT St kg4
  replace HQ := HQ.stT St kg4
  replace GC := GC.st St
  replace GG := GG.store St bg4
  replace kg4 := St.new
  clear St
  refine wpList_nil (then_n (wp_seq (wp_region_lit (mv 39 (.slice ao ((frameL k c d).length) cap) ?_))))
  refine nr ?_; intro U h; simp only [z0, z1] at h; subst h
  obtain ⟨nT, hnT⟩ : ∃ n, w15.heap.size = n := ⟨_, rfl⟩
  have znT := GC.le
  rw [hnT] at znT
  refine s_callx 40 rfl rfl _ 12 Try.call12 rfl rfl _ rfl [.slice ao ((frameL k c d).length) cap] rfl (dec_v k h1 h2 c d ao cap _ HB.nc (by omega) hL hd hbd) (fun _ _ ⟨_, he, _⟩ => ⟨_, he⟩) ?_
  rintro v w16 ⟨g, he, hgE, hgk, HG, G⟩
  cases he
  rw [hnT] at HG
  obtain ⟨nU, hnU⟩ : ∃ n, w16.heap.size = n := ⟨_, rfl⟩
  have lHG : Lower nU g := lower_eq HG.lower hnU
  have ynU : nT ≤ nU := by rw [← hnT, ← hnU]; exact G.size
  replace kg1 := G.has kg1
  replace kg2 := G.has kg2
  replace kg3 := G.has kg3
  replace kg4 := G.has kg4
  replace HC := HC.gro G
  replace HB := HB.gro G
  replace HH := HH.gro G
  replace HP := HP.gro G
  replace HQ := HQ.gro G
  replace GC := GC.gro G
  replace GG := GG.trans G
  clear G
  clear GC
  have GC : SZ nU w16 := ⟨Nat.le_of_eq hnU.symm⟩
  refine mv 38 (.tuple #[.agg (c36 g.kind g.pw g.pn g.toA g.a g.b g.n g.fi g.fn g.ti g.tn g.tr g.ids g.key g.vn g.vw g.val g.op g.ttl g.tx), .int .i64 0]) (mv 41 (.agg (c36 g.kind g.pw g.pn g.toA g.a g.b g.n g.fi g.fn g.ti g.tn g.tr g.ids g.key g.vn g.vw g.val g.op g.ttl g.tx)) ?_)
  refine nr ?_; intro U h; simp only [z0, z1] at h; subst h
  refine mv 42 (.int .i64 0) ?_
  refine s_alloc 10 rfl rfl 40 rfl _ zv36 _ rfl ?_
  intro w17 g5 G eg5 kg5
  have bg5 := size_base GG eg5
  have dg1g5 := lt_new kg1 eg5
  have dg2g5 := lt_new kg2 eg5
  have dg3g5 := lt_new kg3 eg5
  have dg4g5 := lt_new kg4 eg5
  replace kg1 := G.has kg1
  replace kg2 := G.has kg2
  replace kg3 := G.has kg3
  replace kg4 := G.has kg4
  replace HC := HC.gro G
  replace HB := HB.gro G
  replace HH := HH.gro G
  replace HP := HP.gro G
  replace HQ := HQ.gro G
  replace HG := HG.gro G
  replace GC := GC.gro G
  replace GG := GG.trans G
  clear G eg5
  refine s_store rfl rfl 40 _ _ rfl g5 0 rfl (.agg (c36 g.kind g.pw g.pn g.toA g.a g.b g.n g.fi g.fn g.ti g.tn g.tr g.ids g.key g.vn g.vw g.val g.op g.ttl g.tx)) rfl 40 _ kg5 (c36 g.kind g.pw g.pn g.toA g.a g.b g.n g.fi g.fn g.ti g.tn g.tr g.ids g.key g.vn g.vw g.val g.op g.ttl g.tx) rfl (by kernel_rfl) (Nat.le_of_ble_eq_true rfl) (by kernel_rfl) (c36 g.kind g.pw g.pn g.toA g.a g.b g.n g.fi g.fn g.ti g.tn g.tr g.ids g.key g.vn g.vw g.val g.op g.ttl g.tx) (by kernel_rfl) ?_
  intro w19 St
  replace kg1 := St.has (by omega) kg1
  replace kg2 := St.has (by omega) kg2
  replace kg3 := St.has (by omega) kg3
  replace kg4 := St.has (by omega) kg4
  replace HC := HC.stT St kg5
  replace HB := HB.stT St kg5
  replace HH := HH.stT St kg5
  replace HP := HP.stT St kg5
  replace HQ := HQ.stT St kg5
  replace HG := HG.stT St kg5
  replace GC := GC.st St
  replace GG := GG.store St bg5
  replace kg5 := St.new
  clear St
  refine mv 11 (.int .i64 0) ?_
  refine nr ?_; intro U h; simp only [z0, z1] at h; subst h
  refine wpList_nil (then_n (wp_seq (wp_region_lit (sv 43 (.agg (c36 c.kind c.pw c.pn c.toA c.a c.b c.n c.fi c.fn c.ti c.tn c.tr c.ids c.key c.vn c.vw c.val c.op c.ttl c.tx)) (run_lda 40 _ rfl g2 0 95 rfl 40 _ kg2 _ Try.underlying40 rfl si36 _) ?_))))
  refine s_callv 44 rfl rfl _ 13 Try.call13 rfl rfl _ rfl [.agg (c36 c.kind c.pw c.pn c.toA c.a c.b c.n c.fi c.fn c.ti c.tn c.tr c.ids c.key c.vn c.vw c.val c.op c.ttl c.tx)] rfl (spoil_v c d _ _ HC hd) ?_
  intro w20 GS
  replace kg1 := GS.has kg1 (HC.apartB kg1)
  replace kg2 := GS.has kg2 (HC.apartB kg2)
  replace kg3 := GS.has kg3 (HC.apartB kg3)
  replace kg4 := GS.has kg4 (HC.apartB kg4)
  replace kg5 := GS.has kg5 (HC.apartB kg5)
  replace HB := HB.gros GS (fun ad ha hm => by have h3 := lC.sp _ hm; have h4 := (lB ad ha).1; omega)
  replace HH := HH.above GS (fun x hx => by have h3 := lC.sp x hx; omega)
  replace HP := HP.above GS (fun x hx => by have h3 := lC.sp x hx; omega)
  replace HQ := HQ.above GS (fun x hx => by have h3 := lC.sp x hx; omega)
  replace HG := HG.above GS (fun x hx => by have h3 := lC.sp x hx; omega)
  replace GG := GS.gro GG bC
  clear GS HC GC
  refine wpList_nil (then_n (wp_seq (wp_region_lit (sv 45 (.agg (c36 p.kind p.pw p.pn p.toA p.a p.b p.n p.fi p.fn p.ti p.tn p.tr p.ids p.key p.vn p.vw p.val p.op p.ttl p.tx)) (run_lda 40 _ rfl g3 0 95 rfl 40 _ kg3 _ Try.underlying40 rfl si36 _) ?_))))
  refine nr ?_; intro U h; simp only [z0, z1] at h; subst h
  refine s_callv 46 rfl rfl _ 13 Try.call13 rfl rfl _ rfl [.agg (c36 p.kind p.pw p.pn p.toA p.a p.b p.n p.fi p.fn p.ti p.tn p.tr p.ids p.key p.vn p.vw p.val p.op p.ttl p.tx)] rfl (spoil_v p d _ _ HP hd) ?_
  intro w21 GS
  replace kg1 := GS.has kg1 (HP.apartB kg1)
  replace kg2 := GS.has kg2 (HP.apartB kg2)
  replace kg3 := GS.has kg3 (HP.apartB kg3)
  replace kg4 := GS.has kg4 (HP.apartB kg4)
  replace kg5 := GS.has kg5 (HP.apartB kg5)
  replace HB := HB.gros GS (fun ad ha hm => by have h3 := bP _ hm; have h4 := (lB ad ha).2; omega)
  replace HH := HH.under lHH GS (fun x hx => by have h3 := bP x hx; omega)
  replace HQ := HQ.above GS (fun x hx => by have h3 := lHP.sp x hx; omega)
  replace HG := HG.above GS (fun x hx => by have h3 := lHP.sp x hx; omega)
  replace GG := GS.gro GG (fun x hx => by have h3 := bP x hx; omega)
  clear GS HP
  refine wpList_nil (then_n (wp_seq (wp_seq (wp_region_lit (mv 47 (.slice ao ((frameL k c d).length) cap) (sv 48 (.int .i64 (((frameL k c d).length : Nat) : Int)) (run_len Try.underlying36 _ rfl _ _ _ rfl _) ?_))))))
  refine nr ?_; intro U h; simp only [z0, z1] at h; subst h
  refine mv 49 (.int .i64 0) (wpList_nil (then_n (wp_block ?_)))
  refine wp_loopN (fun mz az wv => ∃ (j : Nat) (us1 : Nat → Value), mz = (frameL k c d).length - j ∧ az = ⟨[.agg (c36 f.kind f.pw f.pn f.toA f.a f.b f.n f.fi f.fn f.ti f.tn f.tr f.ids f.key f.vn f.vw f.val f.op f.ttl f.tx), .pointer (some ⟨g1, 0, none⟩), .bool false, .pointer (some ⟨g2, 0, none⟩), .slice ao ((frameL k c d).length) cap, .int .i64 0, bodyV k h, .bool true, .pointer (some ⟨g3, 0, none⟩), .pointer (some ⟨g4, 0, none⟩), .pointer (some ⟨g5, 0, none⟩), .int .i64 0, us1 0, .agg (c36 f.kind f.pw f.pn f.toA f.a f.b f.n f.fi f.fn f.ti f.tn f.tr f.ids f.key f.vn f.vw f.val f.op f.ttl f.tx), .agg (c36 c.kind c.pw c.pn c.toA c.a c.b c.n c.fi c.fn c.ti c.tn c.tr c.ids c.key c.vn c.vw c.val c.op c.ttl c.tx), .tuple #[.slice ao ((frameL k c d).length) cap, .int .i64 0], .agg (c36 c.kind c.pw c.pn c.toA c.a c.b c.n c.fi c.fn c.ti c.tn c.tr c.ids c.key c.vn c.vw c.val c.op c.ttl c.tx), .tuple #[.slice ao ((frameL k c d).length) cap, .int .i64 0], .slice ao ((frameL k c d).length) cap, .int .i64 0, .int .i64 0, .bool false, undef, .tuple #[bodyV k h, .bool true], .agg (c36 c.kind c.pw c.pn c.toA c.a c.b c.n c.fi c.fn c.ti c.tn c.tr c.ids c.key c.vn c.vw c.val c.op c.ttl c.tx), .tuple #[bodyV k h, .bool true], bodyV k h, .bool true, .bool true, .bool false, .bool false, bodyV k h, .bool false, .bool false, bodyV k h, .agg (c36 p.kind p.pw p.pn p.toA p.a p.b p.n p.fi p.fn p.ti p.tn p.tr p.ids p.key p.vn p.vw p.val p.op p.ttl p.tx), bodyV k h, .agg (c36 q.kind q.pw q.pn q.toA q.a q.b q.n q.fi q.fn q.ti q.tn q.tr q.ids q.key q.vn q.vw q.val q.op q.ttl q.tx), .tuple #[.agg (c36 g.kind g.pw g.pn g.toA g.a g.b g.n g.fi g.fn g.ti g.tn g.tr g.ids g.key g.vn g.vw g.val g.op g.ttl g.tx), .int .i64 0], .slice ao ((frameL k c d).length) cap, .tuple #[.agg (c36 g.kind g.pw g.pn g.toA g.a g.b g.n g.fi g.fn g.ti g.tn g.tr g.ids g.key g.vn g.vw g.val g.op g.ttl g.tx), .int .i64 0], .agg (c36 g.kind g.pw g.pn g.toA g.a g.b g.n g.fi g.fn g.ti g.tn g.tr g.ids g.key g.vn g.vw g.val g.op g.ttl g.tx), .int .i64 0, .agg (c36 c.kind c.pw c.pn c.toA c.a c.b c.n c.fi c.fn c.ti c.tn c.tr c.ids c.key c.vn c.vw c.val c.op c.ttl c.tx), .tuple #[], .agg (c36 p.kind p.pw p.pn p.toA p.a p.b p.n p.fi p.fn p.ti p.tn p.tr p.ids p.key p.vn p.vw p.val p.op p.ttl p.tx), .tuple #[], .slice ao ((frameL k c d).length) cap, .int .i64 (((frameL k c d).length : Nat) : Int), .int .i64 ((j : Nat) : Int), us1 1, us1 2, us1 3, us1 4, us1 5, us1 6, us1 7, us1 8, us1 9, undef, undef, undef, undef, undef, undef, undef, undef, undef, undef, undef, undef, undef, undef, undef, undef, undef].toArray, []⟩ ∧ j ≤ (frameL k c d).length ∧ Gro w wv ∧ RI wv 5 .u8 1 ao (frameL k c d).length ∧ wv.heap[g1]? = some (.cells (c36 f.kind f.pw f.pn f.toA f.a f.b f.n f.fi f.fn f.ti f.tn f.tr f.ids f.key f.vn f.vw f.val f.op f.ttl f.tx) 40 (0, 0)) ∧ wv.heap[g4]? = some (.cells (c36 q.kind q.pw q.pn q.toA q.a q.b q.n q.fi q.fn q.ti q.tn q.tr q.ids q.key q.vn q.vw q.val q.op q.ttl q.tx) 40 (0, 0)) ∧ wv.heap[g5]? = some (.cells (c36 g.kind g.pw g.pn g.toA g.a g.b g.n g.fi g.fn g.ti g.tn g.tr g.ids g.key g.vn g.vw g.val g.op g.ttl g.tx) 40 (0, 0)) ∧ FrO wv nO h d ∧ FrO wv nR q d ∧ FrO wv nT g d) ?_ _ ⟨0, usB [12, 50, 51, 52, 53, 54, 55, 56, 57, 58] rfl rfl ⟨Nat.zero_le _, GG, RI.of HB.ox (int_u8 _), kg1, kg4, kg5, HH, HQ, HG⟩⟩
  clear kg1 kg4 kg5 GG HH HQ HG
  rintro mz az wv ⟨j, us1, rfl, rfl, hj, GG, RB, kg1, kg4, kg5, HH, HQ, HG⟩
  refine wp_seq (wp_region_lit ?_)
  obtain ⟨p1, hp1⟩ : ∃ p, decide (((j : Nat) : Int) < (((frameL k c d).length : Nat) : Int)) = p := ⟨_, rfl⟩
  refine sv 50 (.bool p1) (run_lssT 3 _ _ _ rfl ((j : Nat) : Int) (((frameL k c d).length : Nat) : Int) rfl rfl p1 hp1 _) ?_
  refine nr ?_; intro U h; simp only [z0, z1] at h; subst h
  cases p1
  refine wpList_nil (then_n (wp_seq (wp_cond_false rfl (wp_exit (then_x (then_x (blk_x (then_n (wp_seq ?_)))))))))
  refine wp_region_exA (A := ?Ax1) 15 [(0, 59), (1, 60), (2, 61), (3, 62), (4, 63), (5, 64), (6, 65), (7, 66), (8, 67), (9, 68), (10, 69), (11, 70), (12, 71), (13, 72), (14, 73)] [.val (.bool true), .val (.bool true), .val (.agg (c36 q.kind q.pw q.pn q.toA q.a q.b q.n q.fi q.fn q.ti q.tn q.tr q.ids q.key q.vn q.vw q.val q.op q.ttl q.tx)), .val (.agg (c36 f.kind f.pw f.pn f.toA f.a f.b f.n f.fi f.fn f.ti f.tn f.tr f.ids f.key f.vn f.vw f.val f.op f.ttl f.tx)), .val (.bool true), .val (.bool true), .val (.bool true), .val (.agg (c36 g.kind g.pw g.pn g.toA g.a g.b g.n g.fi g.fn g.ti g.tn g.tr g.ids g.key g.vn g.vw g.val g.op g.ttl g.tx)), .val (.agg (c36 f.kind f.pw f.pn f.toA f.a f.b f.n f.fi f.fn f.ti f.tn f.tr f.ids f.key f.vn f.vw f.val f.op f.ttl f.tx)), .val (.bool true), .val (.bool true), .val (.bool true), .val (bodyV k h), alE k h d, .val (.agg (c36 f.kind f.pw f.pn f.toA f.a f.b f.n f.fi f.fn f.ti f.tn f.tr f.ids f.key f.vn f.vw f.val f.op f.ttl f.tx))] follows (by kernel_rfl) rfl ?hAx1 (opsA_cons ?o0x1 (opsA_cons ?o1x1 (opsA_cons ?o2x1 (opsA_cons ?o3x1 (opsA_cons ?o4x1 (opsA_cons ?o5x1 (opsA_cons ?o6x1 (opsA_cons ?o7x1 (opsA_cons ?o8x1 (opsA_cons ?o9x1 (opsA_cons ?o10x1 (opsA_cons ?o11x1 (opsA_cons ?o12x1 (opsA_cons ?o13x1 (opsA_cons ?o14x1 opsA_nil))))))))))))))) ?restx1
  case hAx1 =>
    intro ptrs
    simp only [full, foldSlots, filledE, postE, List.foldl_cons, List.foldl_nil, List.getD_cons_zero, List.getD_cons_succ, fill_val, fill_alE, List.set_cons_zero, List.set_cons_succ]
    exact rfl
  case o0x1 => exact fun _ _ hw _ => opE_call (.val (.bool true)) rfl _ 6 Try.call6 rfl rfl _ rfl [] rfl ((fixed_any _).mono fun e w' ⟨he, hg⟩ => ⟨_, he, hg, rfl⟩)
  case o1x1 => exact fun _ _ _ _ => opE_move (v := .bool true) _ rfl rfl rfl
  case o2x1 => exact fun _ _ hw _ => opE_value (v := .agg (c36 q.kind q.pw q.pn q.toA q.a q.b q.n q.fi q.fn q.ti q.tn q.tr q.ids q.key q.vn q.vw q.val q.op q.ttl q.tx)) rfl (run_lda 40 _ rfl g4 0 95 rfl 40 _ (hw.has kg4) _ Try.underlying40 rfl si36 _)
  case o3x1 => exact fun _ _ hw _ => opE_value (v := .agg (c36 f.kind f.pw f.pn f.toA f.a f.b f.n f.fi f.fn f.ti f.tn f.tr f.ids f.key f.vn f.vw f.val f.op f.ttl f.tx)) rfl (run_lda 40 _ rfl g1 0 95 rfl 40 _ (hw.has kg1) _ Try.underlying40 rfl si36 _)
  case o4x1 => exact fun _ _ hw _ => opE_call (.val (.bool true)) rfl _ 7 Try.call7 rfl rfl _ rfl [.agg (c36 q.kind q.pw q.pn q.toA q.a q.b q.n q.fi q.fn q.ti q.tn q.tr q.ids q.key q.vn q.vw q.val q.op q.ttl q.tx), .agg (c36 f.kind f.pw f.pn f.toA f.a f.b f.n f.fi f.fn f.ti f.tn f.tr f.ids f.key f.vn f.vw f.val f.op f.ttl f.tx)] rfl ((same_t q f d _ (HQ.gro ((Gro.refl _).drew.trans hw)).frw (HF.gro (GG.trans ((Gro.refl _).drew.trans hw))) (hqE.trans ((eqf_bare2 h1 h2 hhE).trans (hcS.sym.trans hcE))) (hqk.trans (hk.symm.trans hck)) hl).mono fun e w' ⟨he, hg⟩ => ⟨_, he, hg, rfl⟩)
  case o5x1 => exact fun _ _ _ _ => opE_pick (v := .bool true) _ _ _ rfl rfl true rfl rfl
  case o6x1 => exact fun _ _ _ _ => opE_move (v := .bool true) _ rfl rfl rfl
  case o7x1 => exact fun _ _ hw _ => opE_value (v := .agg (c36 g.kind g.pw g.pn g.toA g.a g.b g.n g.fi g.fn g.ti g.tn g.tr g.ids g.key g.vn g.vw g.val g.op g.ttl g.tx)) rfl (run_lda 40 _ rfl g5 0 95 rfl 40 _ (hw.has kg5) _ Try.underlying40 rfl si36 _)
  case o8x1 => exact fun _ _ hw _ => opE_value (v := .agg (c36 f.kind f.pw f.pn f.toA f.a f.b f.n f.fi f.fn f.ti f.tn f.tr f.ids f.key f.vn f.vw f.val f.op f.ttl f.tx)) rfl (run_lda 40 _ rfl g1 0 95 rfl 40 _ (hw.has kg1) _ Try.underlying40 rfl si36 _)
  case o9x1 => exact fun _ _ hw _ => opE_call (.val (.bool true)) rfl _ 7 Try.call7 rfl rfl _ rfl [.agg (c36 g.kind g.pw g.pn g.toA g.a g.b g.n g.fi g.fn g.ti g.tn g.tr g.ids g.key g.vn g.vw g.val g.op g.ttl g.tx), .agg (c36 f.kind f.pw f.pn f.toA f.a f.b f.n f.fi f.fn f.ti f.tn f.tr f.ids f.key f.vn f.vw f.val f.op f.ttl f.tx)] rfl ((same_t g f d _ (HG.gro ((Gro.refl _).drew.trans hw)).frw (HF.gro (GG.trans ((Gro.refl _).drew.trans hw))) (hgE.trans (hcS.sym.trans hcE)) (hgk.trans (hk.symm.trans hck)) hl).mono fun e w' ⟨he, hg⟩ => ⟨_, he, hg, rfl⟩)
  case o10x1 => exact fun _ _ _ _ => opE_pick (v := .bool true) _ _ _ rfl rfl true rfl rfl
  case o11x1 => exact fun _ _ _ _ => opE_move (v := .bool true) _ rfl rfl rfl
  case o12x1 => exact fun _ _ _ _ => opE_move (v := bodyV k h) _ rfl rfl rfl
  case o13x1 => exact fun _ x hw _ => opE_call (alE k h d) rfl _ 8 Try.call8 rfl rfl _ rfl [bodyV k h] rfl ((plain_v k h1 h2 h d _ (HH.gro ((Gro.refl _).drew.trans hw)).frw hd hbd).mono fun e w' ⟨p, he, hE, hk2, HO, G⟩ => ⟨_, he, G, p, rfl, hE, hk2, _, HO⟩)
  case o14x1 => exact fun _ _ hw _ => opE_value (v := .agg (c36 f.kind f.pw f.pn f.toA f.a f.b f.n f.fi f.fn f.ti f.tn f.tr f.ids f.key f.vn f.vw f.val f.op f.ttl f.tx)) rfl (run_lda 40 _ rfl g1 0 95 rfl 40 _ (hw.has kg1) _ Try.underlying40 rfl si36 _)
  intro ptrs w22 GD hxE
  simp only [List.drop_succ_cons, List.drop_zero]
  replace kg1 := GD.has kg1
  replace kg4 := GD.has kg4
  replace kg5 := GD.has kg5
  replace HH := HH.gro ((Gro.refl _).drew.trans GD)
  replace HQ := HQ.gro ((Gro.refl _).drew.trans GD)
  replace HG := HG.gro ((Gro.refl _).drew.trans GD)
  replace GG := GG.drew.trans GD
  obtain ⟨⟨p3, hv, h3E, h3k, M3, H3⟩, _⟩ := hxE
  simp only [hv]
  clear hv
  clear GD
  refine s_gcallv 74 rfl rfl _ 7 Try.call7 rfl rfl _ rfl [.agg (c36 p3.kind p3.pw p3.pn p3.toA p3.a p3.b p3.n p3.fi p3.fn p3.ti p3.tn p3.tr p3.ids p3.key p3.vn p3.vw p3.val p3.op p3.ttl p3.tx), .agg (c36 f.kind f.pw f.pn f.toA f.a f.b f.n f.fi f.fn f.ti f.tn f.tr f.ids f.key f.vn f.vw f.val f.op f.ttl f.tx)] rfl (same_t p3 f d _ H3.frw (HF.gro GG) (h3E.trans ((eqf_bare2 h1 h2 hhE).trans (hcS.sym.trans hcE))) (h3k.trans (hk.symm.trans hck)) hl) ?_
  intro w23 G
  replace kg1 := G.has kg1
  replace kg4 := G.has kg4
  replace kg5 := G.has kg5
  replace H3 := H3.gro G
  replace GG := GG.trans G
  clear G
  refine mv 75 (.bool true) (mv 2 (.bool true) ?_)
  refine nr ?_; intro U h; simp only [z0, z1] at h; subst h
  refine wpList_nil (then_n (wp_ret ?_))
  refine bodyPost_ret (results_tmp Try.results4 _ _ _) rfl ?_
  exact ⟨rfl, GG⟩
  have hjn : j < (frameL k c d).length := by have := of_decide_eq_true hp1; omega
  obtain ⟨gb, cur, hao, kgb, hcs, hcur⟩ := RB.row (by omega)
  obtain ⟨x, hx⟩ := hcur j (by omega)
  have hgb : nE ≤ gb ∧ gb < nB := lB _ hao
  refine wpList_nil (then_n (wp_seq (wp_cond_true rfl (wp_skip (then_n (wp_seq (wp_block (wp_seq (wp_region_lit (mv 51 (.int .i64 ((j : Nat) : Int)) (mv 12 (.int .i64 ((j : Nat) : Int)) (wpList_nil (then_n (wp_region_lit (mv 52 (.slice ao ((frameL k c d).length) cap) ?_)))))))))))))))
  refine nr ?_; intro U h; simp only [z0, z1] at h; subst h
  refine mv 53 (.int .i64 ((j : Nat) : Int)) (sv 54 (.pointer (some ⟨gb, j, none⟩)) (bat _ _ rfl gb (frameL k c d).length cap j (by exact congrArg (fun a => Value.slice a (frameL k c d).length cap) hao) rfl hjn _) (sv 55 (.int .u8 x) (run_ld bT _ rfl ⟨gb, j, none⟩ rfl _ _ ((cell_of_row _ gb j _ 5 _ kgb).trans hx)) ?_))
  refine nr ?_; intro U h; simp only [z0, z1] at h; subst h
  refine sv 56 (.int .u8 (xr x)) (run_xor8 5 _ _ _ rfl x rfl rfl _) (sv 57 (.pointer (some ⟨gb, j, none⟩)) (bat _ _ rfl gb (frameL k c d).length cap j (by exact congrArg (fun a => Value.slice a (frameL k c d).length cap) hao) rfl hjn _) ?_)
  refine s_store rfl rfl 5 _ _ rfl gb j rfl (.int .u8 (xr x)) rfl 5 _ kgb #[.int .u8 (xr x)] rfl si5 (by simp only [List.size_toArray, List.length_cons, List.length_nil]; omega) (one1 _) _ rfl ?_
  intro w22 St
  have GS := (GroS.refl [gb] _).st St (.inr (by simp))
  replace kg1 := St.has (neT kg1 kgb (by decide)) kg1
  replace kg4 := St.has (neT kg4 kgb (by decide)) kg4
  replace kg5 := St.has (neT kg5 kgb (by decide)) kg5
  replace RB := RB.st kgb (by omega) St (fun _ => rfl)
  replace HH := HH.above GS (fun x hx => by cases List.mem_singleton.1 hx; omega)
  replace HQ := HQ.above GS (fun x hx => by cases List.mem_singleton.1 hx; omega)
  replace HG := HG.above GS (fun x hx => by cases List.mem_singleton.1 hx; omega)
  replace GG := GG.store St (by omega)
  clear St GS kgb
  refine wpList_nil (blk_n (then_n (wp_region_lit (sv 58 (.int .i64 ((j + 1 : Nat) : Int)) (run_add64 _ _ _ rfl ((j : Nat) : Int) 1 _ rfl rfl (by omega) (by omega) (by omega) _) ?_))))
  refine nr ?_; intro U h; simp only [z0, z1] at h; subst h
  refine mv 49 (.int .i64 ((j + 1 : Nat) : Int)) (wpList_nil (then_n ?_))
  exact ⟨_, (by omega : (frameL k c d).length - (j + 1) < (frameL k c d).length - j), j + 1, usB [12, 50, 51, 52, 53, 54, 55, 56, 57, 58] rfl rfl ⟨hjn, GG, RB, kg1, kg4, kg5, HH, HQ, HG⟩⟩
end Go.Proofs.Ythmcnlmphikicab
