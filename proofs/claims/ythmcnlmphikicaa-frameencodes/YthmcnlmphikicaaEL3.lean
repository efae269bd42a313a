/- A frame with what counts alone (the document's Bare). -/
import Derived.Test.YthmcnlmphikicaaEL1
import Derived.Test.YthmcnlmphikicaaELaw6
namespace Go.Proofs.Ythmcnlmphikicaa
open Go.RowKit
def stepF (f o : Fr) (c : Nat) : Fr :=
  bif decide (((c : Nat) : Int) = 102) then { o with fi := f.fi, fn := f.fn }
  else bif decide (((c : Nat) : Int) = 116) then { o with ti := f.ti, tn := f.tn }
  else bif decide (((c : Nat) : Int) = 110) then { o with n := f.n }
  else bif decide (((c : Nat) : Int) = 112) then { o with pw := f.pw, pn := f.pn }
  else bif decide (((c : Nat) : Int) = 97) then { o with a := f.a }
  else bif decide (((c : Nat) : Int) = 98) then { o with b := f.b }
  else bif decide (((c : Nat) : Int) = 100) then { o with toA := f.toA }
  else bif decide (((c : Nat) : Int) = 114) then o
  else bif decide (((c : Nat) : Int) = 115) then o
  else bif decide (((c : Nat) : Int) = 105) then { o with key := f.key, vn := f.vn, vw := f.vw }
  else bif decide (((c : Nat) : Int) = 107) then { o with key := f.key, vn := f.vn, vw := f.vw }
  else bif decide (((c : Nat) : Int) = 108) then { o with op := f.op }
  else bif decide (((c : Nat) : Int) = 111) then { o with op := f.op }
  else bif decide (((c : Nat) : Int) = 119) then { o with ttl := f.ttl }
  else bif decide (((c : Nat) : Int) = 120) then o
  else bif decide (((c : Nat) : Int) = 121) then o
  else o
def stepD (d e : FD) (c : Nat) : FD :=
  bif decide (((c : Nat) : Int) = 102) then e
  else bif decide (((c : Nat) : Int) = 116) then e
  else bif decide (((c : Nat) : Int) = 110) then e
  else bif decide (((c : Nat) : Int) = 112) then e
  else bif decide (((c : Nat) : Int) = 97) then e
  else bif decide (((c : Nat) : Int) = 98) then e
  else bif decide (((c : Nat) : Int) = 100) then e
  else bif decide (((c : Nat) : Int) = 114) then { e with tr := d.tr }
  else bif decide (((c : Nat) : Int) = 115) then { e with ids := d.ids }
  else bif decide (((c : Nat) : Int) = 105) then { e with val := d.val }
  else bif decide (((c : Nat) : Int) = 107) then e
  else bif decide (((c : Nat) : Int) = 108) then e
  else bif decide (((c : Nat) : Int) = 111) then e
  else bif decide (((c : Nat) : Int) = 119) then e
  else bif decide (((c : Nat) : Int) = 120) then { e with tx := d.tx }
  else bif decide (((c : Nat) : Int) = 121) then { e with tx := d.tx }
  else e
def partF (f : Fr) (F : List Nat) : Nat → Fr
  | 0 => { kind := f.kind, pw := zF, pn := 0, toA := false, a := zF, b := zF, n := 0, fi := 0, fn := 0, ti := 0, tn := 0, tr := Sl.nil, ids := Sl.nil, key := zF, vn := 0, vw := zF, val := Sl.nil, op := 0, ttl := 0, tx := Sl.nil }
  | i + 1 => stepF f (partF f F i) (F.getD i 0)
def partD (d : FD) (F : List Nat) : Nat → FD
  | 0 => ⟨[], [], [], []⟩
  | i + 1 => stepD d (partD d F i) (F.getD i 0)
def BareP (w : World) (f : Fr) (d : FD) (F : List Nat) (e : Ending) (w' : World) : Prop :=
  (F = [63] → e = .returned (.tuple #[.agg (c36 0 zF 0 false zF zF 0 0 0 0 0 Sl.nil Sl.nil zF 0 zF Sl.nil 0 0 Sl.nil), .bool false]) ∧ Gro w w') ∧
  (F ≠ [63] → ∃ g : Fr, e = .returned (.tuple #[.agg (frA g), .bool true]) ∧ Gro w w' ∧ EqF g (partF f F F.length) ∧ g.kind = f.kind ∧ FrO w' w.heap.size g (partD d F F.length))
structure PB (w x : World) (g1 g2 g3 : Nat) (f o r : Fr) (e : FD) : Prop where
  gg : Gro w x
  k1 : x.heap[g1]? = some (.cells (c36 f.kind f.pw f.pn f.toA f.a f.b f.n f.fi f.fn f.ti f.tn f.tr f.ids f.key f.vn f.vw f.val f.op f.ttl f.tx) 36 (0, 0))
  k2 : x.heap[g2]? = some (.cells (c36 0 zF 0 false zF zF 0 0 0 0 0 Sl.nil Sl.nil zF 0 zF Sl.nil 0 0 Sl.nil) 36 (0, 0))
  k3 : x.heap[g3]? = some (.cells (c36 o.kind o.pw o.pn o.toA o.a o.b o.n o.fi o.fn o.ti o.tn o.tr o.ids o.key o.vn o.vw o.val o.op o.ttl o.tx) 36 (0, 0))
  ro : FrO x w.heap.size r e
theorem PB.gro {w x y : World} {g1 g2 g3 : Nat} {f o r : Fr} {e : FD} (h : PB w x g1 g2 g3 f o r e) (G : Gro x y) : PB w y g1 g2 g3 f o r e := ⟨h.gg.trans G, G.has h.k1, G.has h.k2, G.has h.k3, h.ro.gro G⟩
theorem wp_region_phG {P : Program} {id : Nat} {l : List Oper} {Q : Exit → Act → World → Prop} {a0 : Act} {w : World} {A : (Nat → Value) → Act} (R1 : World → Prop) (n : Nat) (D : List (Nat × Nat)) (posts : List PostE) (e0 : Nat) (hm : P.follows .mixedOrders = true)
    (hB : growB l.toArray n D = true) (hsz : (D.all fun p => decide (p.2 < a0.tmps.size)) = true) (he0 : e0 < n) (hav : ∀ j, j < e0 → ∃ v, postE posts j = .val v) (hdep : ((List.range n).all fun i => !decide (e0 < i) || reach l.toArray l.toArray.size i e0) = true)
    (hr1 : ∀ a b, R1 a → Gro a b → R1 b) (hA : ∀ ptrs, full a0 D (filledE posts ptrs) = A ptrs) (hop : opsP P l.toArray posts A (fun x => Gro w.drew x) R1 e0 0 (l.take n))
    (hrest : ∀ ptrs w', R1 w' → exHold posts ptrs w' (List.range n) → wpList P l.toArray Q (l.drop n) (A ptrs) w') : (Code.region id l.toArray true).wp P Q a0 w :=
  wp_region_ph n D posts e0 hm hB hsz he0 hav hdep (Gro.refl _) (fun _ _ h g => h.trans g) hr1 hA hop hrest
theorem av8 {a b c d e f g h : Value} {r : List PostE} : ∀ j, j < 8 → ∃ v, postE (.val a :: .val b :: .val c :: .val d :: .val e :: .val f :: .val g :: .val h :: r) j = .val v
  | 0, _ => ⟨a, rfl⟩ | 1, _ => ⟨b, rfl⟩ | 2, _ => ⟨c, rfl⟩ | 3, _ => ⟨d, rfl⟩ | 4, _ => ⟨e, rfl⟩ | 5, _ => ⟨f, rfl⟩ | 6, _ => ⟨g, rfl⟩ | 7, _ => ⟨h, rfl⟩
  | n + 8, h => absurd h (by omega)
set_option maxRecDepth 100000 in
set_option maxHeartbeats 4000000 in
theorem bare_d (f : Fr) (d : FD) (w : World) (HF : FrW w f d) (HS : FrS f) : Calls Try.prog 17 #[.agg (c36 f.kind f.pw f.pn f.toA f.a f.b f.n f.fi f.fn f.ti f.tn f.tr f.ids f.key f.vn f.vw f.val f.op f.ttl f.tx)] w (BareP w f d (formL f.kind)) := by
  refine s_enterR Try.func17 rfl Try.ntmps17 [.agg (c36 f.kind f.pw f.pn f.toA f.a f.b f.n f.fi f.fn f.ti f.tn f.tr f.ids f.key f.vn f.vw f.val f.op f.ttl f.tx)] ?_
  intro U h; simp only [List.length_cons, List.length_nil, List.cons_append, List.nil_append, Nat.reduceAdd, Nat.reduceSub, List.reduceReplicate] at h; subst h
  have GG := Gro.refl w
  obtain ⟨F, hF⟩ : ∃ F, formL f.kind = F := ⟨_, rfl⟩
  have hF7 := formL_ok f.kind
  rw [hF] at hF7 ⊢
  obtain ⟨hF7, hFb⟩ := hF7
  obtain ⟨p0, hp0⟩ : ∃ p, decide (F = [63]) = p := ⟨_, rfl⟩
  have h63 := (formL_63 f.kind F hF).trans hp0
  refine wp_seq (wp_region_lit ?_)
  refine s_box 1 rfl rfl 36 _ rfl _ rfl (c36 f.kind f.pw f.pn f.toA f.a f.b f.n f.fi f.fn f.ti f.tn f.tr f.ids f.key f.vn f.vw f.val f.op f.ttl f.tx) rfl ?_
  intro w1 g1 G eg1 kg1
  have bg1 := size_base GG eg1
  replace GG := GG.trans G
  clear G eg1
  refine s_alloc 2 rfl rfl 36 rfl _ zv36 _ rfl ?_
  intro w2 g2 G eg2 kg2
  have bg2 := size_base GG eg2
  have dg1g2 := lt_new kg1 eg2
  replace kg1 := G.has kg1
  replace GG := GG.trans G
  clear G eg2
  refine mv 3 (.bool false) (wpList_nil (then_n (wp_seq (wp_region_lit (sv 7 (.pointer (some ⟨g1, 0, none⟩)) (run_fld 36 _ 0 rfl _ _ rfl _) (sv 8 (.int .i64 f.kind) (run_ldc 3 _ rfl g1 0 rfl 36 _ kg1 (na3 _) _ rfl) ?_))))))
  refine nr ?_; intro U h; simp only [z0, z1] at h; subst h
  refine s_callv 9 rfl rfl _ 27 Try.call27 rfl rfl _ rfl [.int .i64 f.kind] rfl (form_any f.kind F hF _) ?_
  intro w3 G
  replace kg1 := G.has kg1
  replace kg2 := G.has kg2
  replace GG := GG.trans G
  clear G
  refine mv 4 (.string (bas F)) (wpList_nil (then_n (wp_seq (wp_seq (wp_region_lit (mv 10 (.string (bas F)) (sv 11 (.bool p0) (run_eqs_op _ _ _ rfl _ _ rfl rfl p0 h63 _) ?_)))))))
  refine nr ?_; intro U h; simp only [z0, z1] at h; subst h
  cases p0
  have h6 : F ≠ [63] := of_decide_eq_false hp0
  refine wpList_nil (then_n (wp_cond_false rfl (wp_skip (then_n (wp_seq (wp_region_lit (sv 13 (.pointer (some ⟨g1, 0, none⟩)) (run_fld 36 _ 0 rfl _ _ rfl _) (sv 14 (.int .i64 f.kind) (run_ldc 3 _ rfl g1 0 rfl 36 _ kg1 (na3 _) _ rfl) (sv 15 (.agg (c36 f.kind zF 0 false zF zF 0 0 0 0 0 Sl.nil Sl.nil zF 0 zF Sl.nil 0 0 Sl.nil)) (run_bd 36 _ rfl [(0, .int .i64 f.kind)] rfl _ (by kernel_rfl)) ?_)))))))))
  refine s_alloc 5 rfl rfl 36 rfl _ zv36 _ rfl ?_
  intro w4 g3 G eg3 kg3
  have bg3 := size_base GG eg3
  have dg1g3 := lt_new kg1 eg3
  have dg2g3 := lt_new kg2 eg3
  replace kg1 := G.has kg1
  replace kg2 := G.has kg2
  replace GG := GG.trans G
  clear G eg3
  refine s_store rfl rfl 36 _ _ rfl g3 0 rfl (.agg (c36 f.kind zF 0 false zF zF 0 0 0 0 0 Sl.nil Sl.nil zF 0 zF Sl.nil 0 0 Sl.nil)) rfl 36 _ kg3 (c36 f.kind zF 0 false zF zF 0 0 0 0 0 Sl.nil Sl.nil zF 0 zF Sl.nil 0 0 Sl.nil) rfl (by kernel_rfl) (Nat.le_of_ble_eq_true rfl) (by kernel_rfl) (c36 f.kind zF 0 false zF zF 0 0 0 0 0 Sl.nil Sl.nil zF 0 zF Sl.nil 0 0 Sl.nil) (by kernel_rfl) ?_
  intro w6 St
  replace kg1 := St.has (by omega) kg1
  replace kg2 := St.has (by omega) kg2
  replace GG := GG.store St bg3
  replace kg3 := St.new
  clear St
  refine wpList_nil (then_n (wp_seq (wp_seq (wp_region_lit (mv 6 (.int .i64 0) ?_)))))
  refine nr ?_; intro U h; simp only [z0, z1] at h; subst h
  refine wpList_nil (then_n (wp_block ?_))
  refine wp_loopN (fun mz az wv => ∃ (i : Nat) (o : Fr) (us1 : Nat → Value), mz = F.length - i ∧ az = ⟨[.agg (c36 f.kind f.pw f.pn f.toA f.a f.b f.n f.fi f.fn f.ti f.tn f.tr f.ids f.key f.vn f.vw f.val f.op f.ttl f.tx), .pointer (some ⟨g1, 0, none⟩), .pointer (some ⟨g2, 0, none⟩), .bool false, .string (bas F), .pointer (some ⟨g3, 0, none⟩), .int .i64 ((i : Nat) : Int), .pointer (some ⟨g1, 0, none⟩), .int .i64 f.kind, .string (bas F), .string (bas F), .bool false, undef, .pointer (some ⟨g1, 0, none⟩), .int .i64 f.kind, .agg (c36 f.kind zF 0 false zF zF 0 0 0 0 0 Sl.nil Sl.nil zF 0 zF Sl.nil 0 0 Sl.nil), us1 0, us1 1, us1 2, us1 3, us1 4, us1 5, us1 6, us1 7, us1 8, us1 9, us1 10, us1 11, us1 12, us1 13, us1 14, us1 15, us1 16, us1 17, us1 18, us1 19, us1 20, us1 21, us1 22, us1 23, us1 24, us1 25, us1 26, us1 27, us1 28, us1 29, us1 30, us1 31, us1 32, us1 33, us1 34, us1 35, us1 36, us1 37, us1 38, us1 39, us1 40, us1 41, us1 42, us1 43, us1 44, us1 45, us1 46, us1 47, us1 48, us1 49, us1 50, us1 51, us1 52, us1 53, us1 54, us1 55, us1 56, us1 57, us1 58, us1 59, us1 60, us1 61, us1 62, us1 63, us1 64, us1 65, us1 66, us1 67, us1 68, us1 69, us1 70, us1 71, us1 72, us1 73, us1 74, us1 75, us1 76, us1 77, us1 78, us1 79, us1 80, us1 81, us1 82, us1 83, us1 84, us1 85, us1 86, us1 87, us1 88, us1 89, us1 90, us1 91, us1 92, us1 93, us1 94, us1 95, us1 96, us1 97, us1 98, us1 99, us1 100, undef].toArray, []⟩ ∧ i ≤ F.length ∧ EqF o (partF f F i) ∧ o.kind = f.kind ∧ Gro w wv ∧ wv.heap[g1]? = some (.cells (c36 f.kind f.pw f.pn f.toA f.a f.b f.n f.fi f.fn f.ti f.tn f.tr f.ids f.key f.vn f.vw f.val f.op f.ttl f.tx) 36 (0, 0)) ∧ wv.heap[g2]? = some (.cells (c36 0 zF 0 false zF zF 0 0 0 0 0 Sl.nil Sl.nil zF 0 zF Sl.nil 0 0 Sl.nil) 36 (0, 0)) ∧ wv.heap[g3]? = some (.cells (c36 o.kind o.pw o.pn o.toA o.a o.b o.n o.fi o.fn o.ti o.tn o.tr o.ids o.key o.vn o.vw o.val o.op o.ttl o.tx) 36 (0, 0)) ∧ FrO wv w.heap.size o (partD d F i)) ?_ _ ⟨0, { kind := f.kind, pw := zF, pn := 0, toA := false, a := zF, b := zF, n := 0, fi := 0, fn := 0, ti := 0, tn := 0, tr := Sl.nil, ids := Sl.nil, key := zF, vn := 0, vw := zF, val := Sl.nil, op := 0, ttl := 0, tx := Sl.nil }, usB [16, 17, 18, 19, 20, 21, 22, 23, 24, 25, 26, 27, 28, 29, 30, 31, 32, 33, 34, 35, 36, 37, 38, 39, 40, 41, 42, 43, 44, 45, 46, 47, 48, 49, 50, 51, 52, 53, 54, 55, 56, 57, 58, 59, 60, 61, 62, 63, 64, 65, 66, 67, 68, 69, 70, 71, 72, 73, 74, 75, 76, 77, 78, 79, 80, 81, 82, 83, 84, 85, 86, 87, 88, 89, 90, 91, 92, 93, 94, 95, 96, 97, 98, 99, 100, 101, 102, 103, 104, 105, 106, 107, 108, 109, 110, 111, 112, 113, 114, 115, 116] rfl rfl ⟨Nat.zero_le _, ⟨rfl, rfl, rfl, rfl, rfl, rfl, rfl, rfl, rfl, rfl, rfl, rfl, rfl, rfl, rfl⟩, rfl, GG, kg1, kg2, kg3, ⟨OX.nil _ _ _ _, OX.nil _ _ _ _, OX.nil _ _ _ _, OX.nil _ _ _ _, (fun _ h => nomatch h), (fun _ h => nomatch h), (fun _ h => nomatch h)⟩⟩⟩
  clear kg1 kg2 kg3 GG
  rintro mz az wv ⟨i, o, us1, rfl, rfl, hi, hE, hkd, GG, kg1, kg2, kg3, HO⟩
  refine wp_seq (wp_seq (wp_region_lit (mv 16 (.int .i64 ((i : Nat) : Int)) (mv 17 (.string (bas F)) (sv 18 (.int .i64 ((F.length : Nat) : Int)) (run_slen _ rfl Try.underlying9 F rfl _) ?_)))))
  refine nr ?_; intro U h; simp only [z0, z1] at h; subst h
  obtain ⟨p1, hp1⟩ : ∃ p, decide (((i : Nat) : Int) < ((F.length : Nat) : Int)) = p := ⟨_, rfl⟩
  refine sv 19 (.bool p1) (run_lssT 3 _ _ _ rfl ((i : Nat) : Int) ((F.length : Nat) : Int) rfl rfl p1 hp1 _) ?_
  refine nr ?_; intro U h; simp only [z0, z1] at h; subst h
  cases p1
  have hie : i = F.length := by have := of_decide_eq_false hp1; omega
  refine wpList_nil (then_n (wp_cond_false rfl (wp_exit (then_x (then_x (blk_x (then_n (wp_seq (wp_region_lit (sv 117 (.agg (c36 o.kind o.pw o.pn o.toA o.a o.b o.n o.fi o.fn o.ti o.tn o.tr o.ids o.key o.vn o.vw o.val o.op o.ttl o.tx)) (run_lda 36 _ rfl g3 0 95 rfl 36 _ kg3 _ Try.underlying36 rfl si36 _) ?_))))))))))
  refine s_store rfl rfl 36 _ _ rfl g2 0 rfl (.agg (c36 o.kind o.pw o.pn o.toA o.a o.b o.n o.fi o.fn o.ti o.tn o.tr o.ids o.key o.vn o.vw o.val o.op o.ttl o.tx)) rfl 36 _ kg2 (c36 o.kind o.pw o.pn o.toA o.a o.b o.n o.fi o.fn o.ti o.tn o.tr o.ids o.key o.vn o.vw o.val o.op o.ttl o.tx) rfl (by kernel_rfl) (Nat.le_of_ble_eq_true rfl) (by kernel_rfl) (c36 o.kind o.pw o.pn o.toA o.a o.b o.n o.fi o.fn o.ti o.tn o.tr o.ids o.key o.vn o.vw o.val o.op o.ttl o.tx) (by kernel_rfl) ?_
  intro w8 St
  replace kg1 := St.has (by omega) kg1
  replace kg3 := St.has (by omega) kg3
  replace HO := HO.stT St kg2
  replace GG := GG.store St bg2
  replace kg2 := St.new
  clear St
  refine mv 3 (.bool true) (wpList_nil (then_n (wp_ret ?_)))
  refine bodyPost_ret (results_cell_tmp Try.results17 _ _ g2 36 _ (0, 0) _ rfl (.bool true) rfl kg2 Try.underlying36 rfl (by kernel_rfl)) rfl ?_
  subst hie
  exact ⟨fun h => absurd h h6, fun _ => ⟨o, rfl, GG, hE, hkd, HO⟩⟩
  have hin : i < F.length := by have := of_decide_eq_true hp1; omega
  obtain ⟨c, hc⟩ : ∃ c, F.getD i 0 = c := ⟨_, rfl⟩
  refine wpList_nil (then_n (wp_cond_true rfl (wp_skip (then_n (wp_seq (wp_block (wp_seq (wp_region_lit (mv 22 (.string (bas F)) (mv 23 (.int .i64 ((i : Nat) : Int)) (sv 24 (.int .u8 ((c : Nat) : Int)) ((run_sidx _ _ rfl F hFb rfl i hin rfl _).trans (by rw [hc])) ?_)))))))))))
  refine nr ?_; intro U h; simp only [z0, z1] at h; subst h
  refine wpList_nil (then_n (wp_block (wp_seq (wp_region_lit ?_))))
  obtain ⟨p2, hp2⟩ : ∃ p, decide (((c : Nat) : Int) = 102) = p := ⟨_, rfl⟩
  refine sv 26 (.bool p2) (run_eq_k 5 .u8 _ _ _ rfl Try.underlying5 ((c : Nat) : Int) 102 rfl rfl p2 hp2 _) ?_
  refine nr ?_; intro U h; simp only [z0, z1] at h; subst h
  cases p2
  refine s_val _ rfl rfl (.bool false) rfl ?_
  refine wpList_nil (then_n (wp_cond_false rfl (wp_seq (wp_region_lit ?_))))
  obtain ⟨p3, hp3⟩ : ∃ p, decide (((c : Nat) : Int) = 116) = p := ⟨_, rfl⟩
  refine sv 31 (.bool p3) (run_eq_k 5 .u8 _ _ _ rfl Try.underlying5 ((c : Nat) : Int) 116 rfl rfl p3 hp3 _) ?_
  refine nr ?_; intro U h; simp only [z0, z1] at h; subst h
  cases p3
  refine s_val _ rfl rfl (.bool false) rfl ?_
  refine wpList_nil (then_n (wp_cond_false rfl (wp_seq (wp_region_lit ?_))))
  obtain ⟨p4, hp4⟩ : ∃ p, decide (((c : Nat) : Int) = 110) = p := ⟨_, rfl⟩
  refine sv 36 (.bool p4) (run_eq_k 5 .u8 _ _ _ rfl Try.underlying5 ((c : Nat) : Int) 110 rfl rfl p4 hp4 _) ?_
  refine nr ?_; intro U h; simp only [z0, z1] at h; subst h
  cases p4
  refine s_val _ rfl rfl (.bool false) rfl ?_
  refine wpList_nil (then_n (wp_cond_false rfl (wp_seq (wp_region_lit ?_))))
  obtain ⟨p5, hp5⟩ : ∃ p, decide (((c : Nat) : Int) = 112) = p := ⟨_, rfl⟩
  refine sv 41 (.bool p5) (run_eq_k 5 .u8 _ _ _ rfl Try.underlying5 ((c : Nat) : Int) 112 rfl rfl p5 hp5 _) ?_
  refine nr ?_; intro U h; simp only [z0, z1] at h; subst h
  cases p5
  refine s_val _ rfl rfl (.bool false) rfl ?_
  refine wpList_nil (then_n (wp_cond_false rfl (wp_seq (wp_region_lit ?_))))
  obtain ⟨p6, hp6⟩ : ∃ p, decide (((c : Nat) : Int) = 97) = p := ⟨_, rfl⟩
  refine sv 46 (.bool p6) (run_eq_k 5 .u8 _ _ _ rfl Try.underlying5 ((c : Nat) : Int) 97 rfl rfl p6 hp6 _) ?_
  refine nr ?_; intro U h; simp only [z0, z1] at h; subst h
  cases p6
  refine s_val _ rfl rfl (.bool false) rfl ?_
  refine wpList_nil (then_n (wp_cond_false rfl (wp_seq (wp_region_lit ?_))))
  obtain ⟨p7, hp7⟩ : ∃ p, decide (((c : Nat) : Int) = 98) = p := ⟨_, rfl⟩
  refine sv 51 (.bool p7) (run_eq_k 5 .u8 _ _ _ rfl Try.underlying5 ((c : Nat) : Int) 98 rfl rfl p7 hp7 _) ?_
  refine nr ?_; intro U h; simp only [z0, z1] at h; subst h
  cases p7
  refine s_val _ rfl rfl (.bool false) rfl ?_
  refine wpList_nil (then_n (wp_cond_false rfl (wp_seq (wp_region_lit ?_))))
  obtain ⟨p8, hp8⟩ : ∃ p, decide (((c : Nat) : Int) = 100) = p := ⟨_, rfl⟩
  refine sv 56 (.bool p8) (run_eq_k 5 .u8 _ _ _ rfl Try.underlying5 ((c : Nat) : Int) 100 rfl rfl p8 hp8 _) ?_
  refine nr ?_; intro U h; simp only [z0, z1] at h; subst h
  cases p8
  refine s_val _ rfl rfl (.bool false) rfl ?_
  refine wpList_nil (then_n (wp_cond_false rfl (wp_seq (wp_region_lit ?_))))
  obtain ⟨p9, hp9⟩ : ∃ p, decide (((c : Nat) : Int) = 114) = p := ⟨_, rfl⟩
  refine sv 61 (.bool p9) (run_eq_k 5 .u8 _ _ _ rfl Try.underlying5 ((c : Nat) : Int) 114 rfl rfl p9 hp9 _) ?_
  refine nr ?_; intro U h; simp only [z0, z1] at h; subst h
  cases p9
  refine s_val _ rfl rfl (.bool false) rfl ?_
  refine wpList_nil (then_n (wp_cond_false rfl (wp_seq (wp_region_lit ?_))))
  obtain ⟨p10, hp10⟩ : ∃ p, decide (((c : Nat) : Int) = 115) = p := ⟨_, rfl⟩
  refine sv 68 (.bool p10) (run_eq_k 5 .u8 _ _ _ rfl Try.underlying5 ((c : Nat) : Int) 115 rfl rfl p10 hp10 _) ?_
  refine nr ?_; intro U h; simp only [z0, z1] at h; subst h
  cases p10
  refine s_val _ rfl rfl (.bool false) rfl ?_
  refine wpList_nil (then_n (wp_cond_false rfl (wp_seq (wp_region_lit ?_))))
  obtain ⟨p11, hp11⟩ : ∃ p, decide (((c : Nat) : Int) = 105) = p := ⟨_, rfl⟩
  refine sv 75 (.bool p11) (run_eq_k 5 .u8 _ _ _ rfl Try.underlying5 ((c : Nat) : Int) 105 rfl rfl p11 hp11 _) ?_
  refine nr ?_; intro U h; simp only [z0, z1] at h; subst h
  cases p11
  refine s_val _ rfl rfl (.bool false) rfl ?_
  refine wpList_nil (then_n (wp_cond_false rfl (wp_seq (wp_region_lit ?_))))
  obtain ⟨p12, hp12⟩ : ∃ p, decide (((c : Nat) : Int) = 107) = p := ⟨_, rfl⟩
  refine sv 87 (.bool p12) (run_eq_k 5 .u8 _ _ _ rfl Try.underlying5 ((c : Nat) : Int) 107 rfl rfl p12 hp12 _) ?_
  refine nr ?_; intro U h; simp only [z0, z1] at h; subst h
  cases p12
  refine s_val _ rfl rfl (.bool false) rfl ?_
  refine wpList_nil (then_n (wp_cond_false rfl (wp_seq (wp_seq (wp_region_lit ?_)))))
  obtain ⟨p13, hp13⟩ : ∃ p, decide (((c : Nat) : Int) = 108) = p := ⟨_, rfl⟩
  refine sv 99 (.bool p13) (run_eq_k 5 .u8 _ _ _ rfl Try.underlying5 ((c : Nat) : Int) 108 rfl rfl p13 hp13 _) ?_
  refine nr ?_; intro U h; simp only [z0, z1] at h; subst h
  cases p13
  refine s_val _ rfl rfl (.bool false) rfl ?_
  refine wpList_nil (then_n (wp_cond_false rfl (wp_region_lit ?_)))
  obtain ⟨p14, hp14⟩ : ∃ p, decide (((c : Nat) : Int) = 111) = p := ⟨_, rfl⟩
  refine sv 100 (.bool p14) (run_eq_k 5 .u8 _ _ _ rfl Try.underlying5 ((c : Nat) : Int) 111 rfl rfl p14 hp14 _) ?_
  refine nr ?_; intro U h; simp only [z0, z1] at h; subst h
  cases p14
  refine s_val _ rfl rfl (.bool false) rfl ?_
  refine wpList_nil (then_n (wp_cond_false rfl (wp_seq (wp_region_lit ?_))))
  obtain ⟨p15, hp15⟩ : ∃ p, decide (((c : Nat) : Int) = 119) = p := ⟨_, rfl⟩
  refine sv 105 (.bool p15) (run_eq_k 5 .u8 _ _ _ rfl Try.underlying5 ((c : Nat) : Int) 119 rfl rfl p15 hp15 _) ?_
  refine nr ?_; intro U h; simp only [z0, z1] at h; subst h
  cases p15
  refine s_val _ rfl rfl (.bool false) rfl ?_
  refine wpList_nil (then_n (wp_cond_false rfl (wp_seq (wp_seq (wp_region_lit ?_)))))
  obtain ⟨p16, hp16⟩ : ∃ p, decide (((c : Nat) : Int) = 120) = p := ⟨_, rfl⟩
  refine sv 110 (.bool p16) (run_eq_k 5 .u8 _ _ _ rfl Try.underlying5 ((c : Nat) : Int) 120 rfl rfl p16 hp16 _) ?_
  refine nr ?_; intro U h; simp only [z0, z1] at h; subst h
  cases p16
  refine s_val _ rfl rfl (.bool false) rfl ?_
  refine wpList_nil (then_n (wp_cond_false rfl (wp_region_lit ?_)))
  obtain ⟨p17, hp17⟩ : ∃ p, decide (((c : Nat) : Int) = 121) = p := ⟨_, rfl⟩
  refine sv 111 (.bool p17) (run_eq_k 5 .u8 _ _ _ rfl Try.underlying5 ((c : Nat) : Int) 121 rfl rfl p17 hp17 _) ?_
  refine nr ?_; intro U h; simp only [z0, z1] at h; subst h
  cases p17
  refine s_val _ rfl rfl (.bool false) rfl ?_
  refine wpList_nil (then_n (wp_cond_false rfl (wp_skip (blk_n (blk_n (then_n (wp_region_lit (mv 20 (.int .i64 ((i : Nat) : Int)) (sv 21 (.int .i64 ((i + 1 : Nat) : Int)) (run_add64 _ _ _ rfl ((i : Nat) : Int) 1 _ rfl rfl (by omega) (by omega) (by omega) _) (mv 6 (.int .i64 ((i + 1 : Nat) : Int)) (wpList_nil (then_n ?_))))))))))))
  exact ⟨_, (by omega : F.length - (i + 1) < F.length - i), i + 1, o, usB [16, 17, 18, 19, 20, 21, 22, 23, 24, 25, 26, 27, 28, 29, 30, 31, 32, 33, 34, 35, 36, 37, 38, 39, 40, 41, 42, 43, 44, 45, 46, 47, 48, 49, 50, 51, 52, 53, 54, 55, 56, 57, 58, 59, 60, 61, 62, 63, 64, 65, 66, 67, 68, 69, 70, 71, 72, 73, 74, 75, 76, 77, 78, 79, 80, 81, 82, 83, 84, 85, 86, 87, 88, 89, 90, 91, 92, 93, 94, 95, 96, 97, 98, 99, 100, 101, 102, 103, 104, 105, 106, 107, 108, 109, 110, 111, 112, 113, 114, 115, 116] rfl rfl ⟨hin, (by simp only [partF, hc, stepF, hp2, hp3, hp4, hp5, hp6, hp7, hp8, hp9, hp10, hp11, hp12, hp13, hp14, hp15, hp16, hp17, cond_false]; exact ⟨by first | exact hE.pw | rfl, by first | exact hE.pn | rfl, by first | exact hE.toA | rfl, by first | exact hE.a | rfl, by first | exact hE.b | rfl, by first | exact hE.n | rfl, by first | exact hE.fi | rfl, by first | exact hE.fn | rfl, by first | exact hE.ti | rfl, by first | exact hE.tn | rfl, by first | exact hE.key | rfl, by first | exact hE.vn | rfl, by first | exact hE.vw | rfl, by first | exact hE.op | rfl, by first | exact hE.ttl | rfl⟩), hkd, GG, kg1, kg2, kg3, (by simp only [partD, hc, stepD, hp2, hp3, hp4, hp5, hp6, hp7, hp8, hp9, hp10, hp11, hp12, hp13, hp14, hp15, hp16, hp17, cond_false]; exact ⟨HO.tr, HO.ids, HO.val, HO.tx, HO.oids, HO.oval, HO.otx⟩)⟩⟩
  refine mv 109 (.bool true) ?_
  refine nr ?_; intro U h; simp only [z0, z1] at h; subst h
  refine wpList_nil (then_n (wp_cond_true rfl (wp_region_lit ?_)))
  have zg1 := kg1
  have zg2 := kg2
  have zg3 := kg3
  have zO := HO
  have zG := GG
  refine wpList_none 32 5 1 (fun _ => by kernel_rfl) 112 rfl rfl rfl ?_
  intro w7 gN G1 e1 HN
  simp only [Act.put, List.setIfInBounds_toArray, List.set_cons_zero, List.set_cons_succ]
  replace kg1 := G1.has kg1
  replace kg2 := G1.has kg2
  replace kg3 := G1.has kg3
  refine sv 113 (.pointer (some ⟨g1, 94, none⟩)) (run_fld 36 _ 13 rfl _ _ rfl _) (sv 114 (.slice f.tx.ao f.tx.n f.tx.cap) (run_ldc 32 _ rfl g1 94 rfl 36 _ kg1 (na32 _) _ rfl) ?_)
  refine nr ?_; intro U h; simp only [z0, z1] at h; subst h
  refine wpList_appX bX 115 rfl rfl _ _ rfl rfl HN rfl ((HF.tx.gro zG).gro G1) (by rw [Nat.zero_add]; exact HS.tx.out) (by decide) (by rw [← e1]; exact G1.size) ?_
  intro sN cN w8 HM B2
  rw [Nat.zero_add] at HM ⊢
  rw [List.nil_append] at HM
  simp only [Act.put, List.setIfInBounds_toArray, List.set_cons_zero, List.set_cons_succ]
  have G : Gro _ _ := below_trans G1 (B2.mono (by rw [← e1]; exact Nat.le_refl _))
  replace kg1 := G.has zg1
  replace kg2 := G.has zg2
  replace kg3 := G.has zg3
  replace HO := zO.gro G
  replace GG := zG.trans G
  replace HM := HM.mono (by rw [← e1]; exact zG.size)
  clear G zG zO HN e1 G1 B2 zg1 zg2 zg3
  refine sv 116 (.pointer (some ⟨g3, 94, none⟩)) (run_fld 36 _ 13 rfl _ _ rfl _) ?_
  refine s_store rfl rfl 32 _ _ rfl g3 94 rfl (.slice sN f.tx.n cN) rfl 36 _ kg3 #[.slice sN f.tx.n cN] rfl (by kernel_rfl) (Nat.le_of_ble_eq_true rfl) (by kernel_rfl) (c36 o.kind o.pw o.pn o.toA o.a o.b o.n o.fi o.fn o.ti o.tn o.tr o.ids o.key o.vn o.vw o.val o.op o.ttl ⟨sN, f.tx.n, cN⟩) (by kernel_rfl) ?_
  intro w10 St
  replace kg1 := St.has (by omega) kg1
  replace kg2 := St.has (by omega) kg2
  replace HO := HO.stT St kg3
  replace HM := HM.apart St (fun ad ha => by obtain ⟨cur, hc9⟩ := HM.ty ha; exact ne_type hc9 kg3 (by decide))
  replace GG := GG.store St bg3
  replace kg3 := St.new
  clear St
  refine wpList_nil (blk_n (blk_n (then_n (wp_region_lit (mv 20 (.int .i64 ((i : Nat) : Int)) (sv 21 (.int .i64 ((i + 1 : Nat) : Int)) (run_add64 _ _ _ rfl ((i : Nat) : Int) 1 _ rfl rfl (by omega) (by omega) (by omega) _) (mv 6 (.int .i64 ((i + 1 : Nat) : Int)) (wpList_nil (then_n ?_)))))))))
  exact ⟨_, (by omega : F.length - (i + 1) < F.length - i), i + 1, { kind := o.kind, pw := o.pw, pn := o.pn, toA := o.toA, a := o.a, b := o.b, n := o.n, fi := o.fi, fn := o.fn, ti := o.ti, tn := o.tn, tr := o.tr, ids := o.ids, key := o.key, vn := o.vn, vw := o.vw, val := o.val, op := o.op, ttl := o.ttl, tx := ⟨sN, f.tx.n, cN⟩ }, usB [16, 17, 18, 19, 20, 21, 22, 23, 24, 25, 26, 27, 28, 29, 30, 31, 32, 33, 34, 35, 36, 37, 38, 39, 40, 41, 42, 43, 44, 45, 46, 47, 48, 49, 50, 51, 52, 53, 54, 55, 56, 57, 58, 59, 60, 61, 62, 63, 64, 65, 66, 67, 68, 69, 70, 71, 72, 73, 74, 75, 76, 77, 78, 79, 80, 81, 82, 83, 84, 85, 86, 87, 88, 89, 90, 91, 92, 93, 94, 95, 96, 97, 98, 99, 100, 101, 102, 103, 104, 105, 106, 107, 108, 109, 110, 111, 112, 113, 114, 115, 116] rfl rfl ⟨hin, (by simp only [partF, hc, stepF, hp2, hp3, hp4, hp5, hp6, hp7, hp8, hp9, hp10, hp11, hp12, hp13, hp14, hp15, hp16, hp17, cond_true, cond_false]; exact ⟨by first | exact hE.pw | rfl, by first | exact hE.pn | rfl, by first | exact hE.toA | rfl, by first | exact hE.a | rfl, by first | exact hE.b | rfl, by first | exact hE.n | rfl, by first | exact hE.fi | rfl, by first | exact hE.fn | rfl, by first | exact hE.ti | rfl, by first | exact hE.tn | rfl, by first | exact hE.key | rfl, by first | exact hE.vn | rfl, by first | exact hE.vw | rfl, by first | exact hE.op | rfl, by first | exact hE.ttl | rfl⟩), hkd, GG, kg1, kg2, kg3, (by simp only [partD, hc, stepD, hp2, hp3, hp4, hp5, hp6, hp7, hp8, hp9, hp10, hp11, hp12, hp13, hp14, hp15, hp16, hp17, cond_true, cond_false]; exact ⟨HO.tr, HO.ids, HO.val, HM, HO.oids, HO.oval, HF.otx⟩)⟩⟩
  refine mv 109 (.bool true) ?_
  refine nr ?_; intro U h; simp only [z0, z1] at h; subst h
  refine wpList_nil (then_n (wp_cond_true rfl (wp_skip (then_n (wp_cond_true rfl (wp_region_lit ?_))))))
  have zg1 := kg1
  have zg2 := kg2
  have zg3 := kg3
  have zO := HO
  have zG := GG
  refine wpList_none 32 5 1 (fun _ => by kernel_rfl) 112 rfl rfl rfl ?_
  intro w7 gN G1 e1 HN
  simp only [Act.put, List.setIfInBounds_toArray, List.set_cons_zero, List.set_cons_succ]
  replace kg1 := G1.has kg1
  replace kg2 := G1.has kg2
  replace kg3 := G1.has kg3
  refine sv 113 (.pointer (some ⟨g1, 94, none⟩)) (run_fld 36 _ 13 rfl _ _ rfl _) (sv 114 (.slice f.tx.ao f.tx.n f.tx.cap) (run_ldc 32 _ rfl g1 94 rfl 36 _ kg1 (na32 _) _ rfl) ?_)
  refine nr ?_; intro U h; simp only [z0, z1] at h; subst h
  refine wpList_appX bX 115 rfl rfl _ _ rfl rfl HN rfl ((HF.tx.gro zG).gro G1) (by rw [Nat.zero_add]; exact HS.tx.out) (by decide) (by rw [← e1]; exact G1.size) ?_
  intro sN cN w8 HM B2
  rw [Nat.zero_add] at HM ⊢
  rw [List.nil_append] at HM
  simp only [Act.put, List.setIfInBounds_toArray, List.set_cons_zero, List.set_cons_succ]
  have G : Gro _ _ := below_trans G1 (B2.mono (by rw [← e1]; exact Nat.le_refl _))
  replace kg1 := G.has zg1
  replace kg2 := G.has zg2
  replace kg3 := G.has zg3
  replace HO := zO.gro G
  replace GG := zG.trans G
  replace HM := HM.mono (by rw [← e1]; exact zG.size)
  clear G zG zO HN e1 G1 B2 zg1 zg2 zg3
  refine sv 116 (.pointer (some ⟨g3, 94, none⟩)) (run_fld 36 _ 13 rfl _ _ rfl _) ?_
  refine s_store rfl rfl 32 _ _ rfl g3 94 rfl (.slice sN f.tx.n cN) rfl 36 _ kg3 #[.slice sN f.tx.n cN] rfl (by kernel_rfl) (Nat.le_of_ble_eq_true rfl) (by kernel_rfl) (c36 o.kind o.pw o.pn o.toA o.a o.b o.n o.fi o.fn o.ti o.tn o.tr o.ids o.key o.vn o.vw o.val o.op o.ttl ⟨sN, f.tx.n, cN⟩) (by kernel_rfl) ?_
  intro w10 St
  replace kg1 := St.has (by omega) kg1
  replace kg2 := St.has (by omega) kg2
  replace HO := HO.stT St kg3
  replace HM := HM.apart St (fun ad ha => by obtain ⟨cur, hc9⟩ := HM.ty ha; exact ne_type hc9 kg3 (by decide))
  replace GG := GG.store St bg3
  replace kg3 := St.new
  clear St
  refine wpList_nil (blk_n (blk_n (then_n (wp_region_lit (mv 20 (.int .i64 ((i : Nat) : Int)) (sv 21 (.int .i64 ((i + 1 : Nat) : Int)) (run_add64 _ _ _ rfl ((i : Nat) : Int) 1 _ rfl rfl (by omega) (by omega) (by omega) _) (mv 6 (.int .i64 ((i + 1 : Nat) : Int)) (wpList_nil (then_n ?_)))))))))
  exact ⟨_, (by omega : F.length - (i + 1) < F.length - i), i + 1, { kind := o.kind, pw := o.pw, pn := o.pn, toA := o.toA, a := o.a, b := o.b, n := o.n, fi := o.fi, fn := o.fn, ti := o.ti, tn := o.tn, tr := o.tr, ids := o.ids, key := o.key, vn := o.vn, vw := o.vw, val := o.val, op := o.op, ttl := o.ttl, tx := ⟨sN, f.tx.n, cN⟩ }, usB [16, 17, 18, 19, 20, 21, 22, 23, 24, 25, 26, 27, 28, 29, 30, 31, 32, 33, 34, 35, 36, 37, 38, 39, 40, 41, 42, 43, 44, 45, 46, 47, 48, 49, 50, 51, 52, 53, 54, 55, 56, 57, 58, 59, 60, 61, 62, 63, 64, 65, 66, 67, 68, 69, 70, 71, 72, 73, 74, 75, 76, 77, 78, 79, 80, 81, 82, 83, 84, 85, 86, 87, 88, 89, 90, 91, 92, 93, 94, 95, 96, 97, 98, 99, 100, 101, 102, 103, 104, 105, 106, 107, 108, 109, 110, 111, 112, 113, 114, 115, 116] rfl rfl ⟨hin, (by simp only [partF, hc, stepF, hp2, hp3, hp4, hp5, hp6, hp7, hp8, hp9, hp10, hp11, hp12, hp13, hp14, hp15, hp16, cond_true, cond_false]; exact ⟨by first | exact hE.pw | rfl, by first | exact hE.pn | rfl, by first | exact hE.toA | rfl, by first | exact hE.a | rfl, by first | exact hE.b | rfl, by first | exact hE.n | rfl, by first | exact hE.fi | rfl, by first | exact hE.fn | rfl, by first | exact hE.ti | rfl, by first | exact hE.tn | rfl, by first | exact hE.key | rfl, by first | exact hE.vn | rfl, by first | exact hE.vw | rfl, by first | exact hE.op | rfl, by first | exact hE.ttl | rfl⟩), hkd, GG, kg1, kg2, kg3, (by simp only [partD, hc, stepD, hp2, hp3, hp4, hp5, hp6, hp7, hp8, hp9, hp10, hp11, hp12, hp13, hp14, hp15, hp16, cond_true, cond_false]; exact ⟨HO.tr, HO.ids, HO.val, HM, HO.oids, HO.oval, HF.otx⟩)⟩⟩
  refine mv 104 (.bool true) ?_
  refine nr ?_; intro U h; simp only [z0, z1] at h; subst h
  refine wpList_nil (then_n (wp_cond_true rfl (wp_region_lit (sv 106 (.pointer (some ⟨g1, 93, none⟩)) (run_fld 36 _ 12 rfl _ _ rfl _) (sv 107 (.int .i64 f.ttl) (run_ldc 3 _ rfl g1 93 rfl 36 _ kg1 (na3 _) _ rfl) (sv 108 (.pointer (some ⟨g3, 93, none⟩)) (run_fld 36 _ 12 rfl _ _ rfl _) ?_))))))
  refine s_store rfl rfl 3 _ _ rfl g3 93 rfl (.int .i64 f.ttl) rfl 36 _ kg3 #[.int .i64 f.ttl] rfl (by kernel_rfl) (Nat.le_of_ble_eq_true rfl) (by kernel_rfl) (c36 o.kind o.pw o.pn o.toA o.a o.b o.n o.fi o.fn o.ti o.tn o.tr o.ids o.key o.vn o.vw o.val o.op f.ttl o.tx) (by kernel_rfl) ?_
  intro w8 St
  replace kg1 := St.has (by omega) kg1
  replace kg2 := St.has (by omega) kg2
  replace HO := HO.stT St kg3
  replace GG := GG.store St bg3
  replace kg3 := St.new
  clear St
  refine wpList_nil (blk_n (blk_n (then_n (wp_region_lit (mv 20 (.int .i64 ((i : Nat) : Int)) (sv 21 (.int .i64 ((i + 1 : Nat) : Int)) (run_add64 _ _ _ rfl ((i : Nat) : Int) 1 _ rfl rfl (by omega) (by omega) (by omega) _) ?_))))))
  refine nr ?_; intro U h; simp only [z0, z1] at h; subst h
  refine mv 6 (.int .i64 ((i + 1 : Nat) : Int)) (wpList_nil (then_n ?_))
  exact ⟨_, (by omega : F.length - (i + 1) < F.length - i), i + 1, { kind := o.kind, pw := o.pw, pn := o.pn, toA := o.toA, a := o.a, b := o.b, n := o.n, fi := o.fi, fn := o.fn, ti := o.ti, tn := o.tn, tr := o.tr, ids := o.ids, key := o.key, vn := o.vn, vw := o.vw, val := o.val, op := o.op, ttl := f.ttl, tx := o.tx }, usB [16, 17, 18, 19, 20, 21, 22, 23, 24, 25, 26, 27, 28, 29, 30, 31, 32, 33, 34, 35, 36, 37, 38, 39, 40, 41, 42, 43, 44, 45, 46, 47, 48, 49, 50, 51, 52, 53, 54, 55, 56, 57, 58, 59, 60, 61, 62, 63, 64, 65, 66, 67, 68, 69, 70, 71, 72, 73, 74, 75, 76, 77, 78, 79, 80, 81, 82, 83, 84, 85, 86, 87, 88, 89, 90, 91, 92, 93, 94, 95, 96, 97, 98, 99, 100, 101, 102, 103, 104, 105, 106, 107, 108, 109, 110, 111, 112, 113, 114, 115, 116] rfl rfl ⟨hin, (by simp only [partF, hc, stepF, hp2, hp3, hp4, hp5, hp6, hp7, hp8, hp9, hp10, hp11, hp12, hp13, hp14, hp15, cond_true, cond_false]; exact ⟨by first | exact hE.pw | rfl, by first | exact hE.pn | rfl, by first | exact hE.toA | rfl, by first | exact hE.a | rfl, by first | exact hE.b | rfl, by first | exact hE.n | rfl, by first | exact hE.fi | rfl, by first | exact hE.fn | rfl, by first | exact hE.ti | rfl, by first | exact hE.tn | rfl, by first | exact hE.key | rfl, by first | exact hE.vn | rfl, by first | exact hE.vw | rfl, by first | exact hE.op | rfl, by first | exact hE.ttl | rfl⟩), hkd, GG, kg1, kg2, kg3, (by simp only [partD, hc, stepD, hp2, hp3, hp4, hp5, hp6, hp7, hp8, hp9, hp10, hp11, hp12, hp13, hp14, hp15, cond_true, cond_false]; exact ⟨HO.tr, HO.ids, HO.val, HO.tx, HO.oids, HO.oval, HO.otx⟩)⟩⟩
  refine mv 98 (.bool true) (wpList_nil (then_n (wp_cond_true rfl (wp_region_lit (sv 101 (.pointer (some ⟨g1, 92, none⟩)) (run_fld 36 _ 11 rfl _ _ rfl _) (sv 102 (.int .i64 f.op) (run_ldc 3 _ rfl g1 92 rfl 36 _ kg1 (na3 _) _ rfl) (sv 103 (.pointer (some ⟨g3, 92, none⟩)) (run_fld 36 _ 11 rfl _ _ rfl _) ?_)))))))
  refine nr ?_; intro U h; simp only [z0, z1] at h; subst h
  refine s_store rfl rfl 3 _ _ rfl g3 92 rfl (.int .i64 f.op) rfl 36 _ kg3 #[.int .i64 f.op] rfl (by kernel_rfl) (Nat.le_of_ble_eq_true rfl) (by kernel_rfl) (c36 o.kind o.pw o.pn o.toA o.a o.b o.n o.fi o.fn o.ti o.tn o.tr o.ids o.key o.vn o.vw o.val f.op o.ttl o.tx) (by kernel_rfl) ?_
  intro w8 St
  replace kg1 := St.has (by omega) kg1
  replace kg2 := St.has (by omega) kg2
  replace HO := HO.stT St kg3
  replace GG := GG.store St bg3
  replace kg3 := St.new
  clear St
  refine wpList_nil (blk_n (blk_n (then_n (wp_region_lit (mv 20 (.int .i64 ((i : Nat) : Int)) (sv 21 (.int .i64 ((i + 1 : Nat) : Int)) (run_add64 _ _ _ rfl ((i : Nat) : Int) 1 _ rfl rfl (by omega) (by omega) (by omega) _) (mv 6 (.int .i64 ((i + 1 : Nat) : Int)) (wpList_nil (then_n ?_)))))))))
  exact ⟨_, (by omega : F.length - (i + 1) < F.length - i), i + 1, { kind := o.kind, pw := o.pw, pn := o.pn, toA := o.toA, a := o.a, b := o.b, n := o.n, fi := o.fi, fn := o.fn, ti := o.ti, tn := o.tn, tr := o.tr, ids := o.ids, key := o.key, vn := o.vn, vw := o.vw, val := o.val, op := f.op, ttl := o.ttl, tx := o.tx }, usB [16, 17, 18, 19, 20, 21, 22, 23, 24, 25, 26, 27, 28, 29, 30, 31, 32, 33, 34, 35, 36, 37, 38, 39, 40, 41, 42, 43, 44, 45, 46, 47, 48, 49, 50, 51, 52, 53, 54, 55, 56, 57, 58, 59, 60, 61, 62, 63, 64, 65, 66, 67, 68, 69, 70, 71, 72, 73, 74, 75, 76, 77, 78, 79, 80, 81, 82, 83, 84, 85, 86, 87, 88, 89, 90, 91, 92, 93, 94, 95, 96, 97, 98, 99, 100, 101, 102, 103, 104, 105, 106, 107, 108, 109, 110, 111, 112, 113, 114, 115, 116] rfl rfl ⟨hin, (by simp only [partF, hc, stepF, hp2, hp3, hp4, hp5, hp6, hp7, hp8, hp9, hp10, hp11, hp12, hp13, hp14, cond_true, cond_false]; exact ⟨by first | exact hE.pw | rfl, by first | exact hE.pn | rfl, by first | exact hE.toA | rfl, by first | exact hE.a | rfl, by first | exact hE.b | rfl, by first | exact hE.n | rfl, by first | exact hE.fi | rfl, by first | exact hE.fn | rfl, by first | exact hE.ti | rfl, by first | exact hE.tn | rfl, by first | exact hE.key | rfl, by first | exact hE.vn | rfl, by first | exact hE.vw | rfl, by first | exact hE.op | rfl, by first | exact hE.ttl | rfl⟩), hkd, GG, kg1, kg2, kg3, (by simp only [partD, hc, stepD, hp2, hp3, hp4, hp5, hp6, hp7, hp8, hp9, hp10, hp11, hp12, hp13, hp14, cond_true, cond_false]; exact ⟨HO.tr, HO.ids, HO.val, HO.tx, HO.oids, HO.oval, HO.otx⟩)⟩⟩
  refine mv 98 (.bool true) (wpList_nil (then_n (wp_cond_true rfl (wp_skip (then_n (wp_cond_true rfl (wp_region_lit (sv 101 (.pointer (some ⟨g1, 92, none⟩)) (run_fld 36 _ 11 rfl _ _ rfl _) ?_))))))))
  refine nr ?_; intro U h; simp only [z0, z1] at h; subst h
  refine sv 102 (.int .i64 f.op) (run_ldc 3 _ rfl g1 92 rfl 36 _ kg1 (na3 _) _ rfl) (sv 103 (.pointer (some ⟨g3, 92, none⟩)) (run_fld 36 _ 11 rfl _ _ rfl _) ?_)
  refine s_store rfl rfl 3 _ _ rfl g3 92 rfl (.int .i64 f.op) rfl 36 _ kg3 #[.int .i64 f.op] rfl (by kernel_rfl) (Nat.le_of_ble_eq_true rfl) (by kernel_rfl) (c36 o.kind o.pw o.pn o.toA o.a o.b o.n o.fi o.fn o.ti o.tn o.tr o.ids o.key o.vn o.vw o.val f.op o.ttl o.tx) (by kernel_rfl) ?_
  intro w8 St
  replace kg1 := St.has (by omega) kg1
  replace kg2 := St.has (by omega) kg2
  replace HO := HO.stT St kg3
  replace GG := GG.store St bg3
  replace kg3 := St.new
  clear St
  refine wpList_nil (blk_n (blk_n (then_n (wp_region_lit (mv 20 (.int .i64 ((i : Nat) : Int)) (sv 21 (.int .i64 ((i + 1 : Nat) : Int)) (run_add64 _ _ _ rfl ((i : Nat) : Int) 1 _ rfl rfl (by omega) (by omega) (by omega) _) (mv 6 (.int .i64 ((i + 1 : Nat) : Int)) ?_)))))))
  refine nr ?_; intro U h; simp only [z0, z1] at h; subst h
  refine wpList_nil (then_n ?_)
  exact ⟨_, (by omega : F.length - (i + 1) < F.length - i), i + 1, { kind := o.kind, pw := o.pw, pn := o.pn, toA := o.toA, a := o.a, b := o.b, n := o.n, fi := o.fi, fn := o.fn, ti := o.ti, tn := o.tn, tr := o.tr, ids := o.ids, key := o.key, vn := o.vn, vw := o.vw, val := o.val, op := f.op, ttl := o.ttl, tx := o.tx }, usB [16, 17, 18, 19, 20, 21, 22, 23, 24, 25, 26, 27, 28, 29, 30, 31, 32, 33, 34, 35, 36, 37, 38, 39, 40, 41, 42, 43, 44, 45, 46, 47, 48, 49, 50, 51, 52, 53, 54, 55, 56, 57, 58, 59, 60, 61, 62, 63, 64, 65, 66, 67, 68, 69, 70, 71, 72, 73, 74, 75, 76, 77, 78, 79, 80, 81, 82, 83, 84, 85, 86, 87, 88, 89, 90, 91, 92, 93, 94, 95, 96, 97, 98, 99, 100, 101, 102, 103, 104, 105, 106, 107, 108, 109, 110, 111, 112, 113, 114, 115, 116] rfl rfl ⟨hin, (by simp only [partF, hc, stepF, hp2, hp3, hp4, hp5, hp6, hp7, hp8, hp9, hp10, hp11, hp12, hp13, cond_true, cond_false]; exact ⟨by first | exact hE.pw | rfl, by first | exact hE.pn | rfl, by first | exact hE.toA | rfl, by first | exact hE.a | rfl, by first | exact hE.b | rfl, by first | exact hE.n | rfl, by first | exact hE.fi | rfl, by first | exact hE.fn | rfl, by first | exact hE.ti | rfl, by first | exact hE.tn | rfl, by first | exact hE.key | rfl, by first | exact hE.vn | rfl, by first | exact hE.vw | rfl, by first | exact hE.op | rfl, by first | exact hE.ttl | rfl⟩), hkd, GG, kg1, kg2, kg3, (by simp only [partD, hc, stepD, hp2, hp3, hp4, hp5, hp6, hp7, hp8, hp9, hp10, hp11, hp12, hp13, cond_true, cond_false]; exact ⟨HO.tr, HO.ids, HO.val, HO.tx, HO.oids, HO.oval, HO.otx⟩)⟩⟩
  refine mv 86 (.bool true) (wpList_nil (then_n (wp_cond_true rfl ?_)))
  have QG := GG.drew
  have qg1 := kg1
  have qg2 := kg2
  have qg3 := kg3
  have qO := HO
  refine wp_region_phG (A := ?Ay) (fun x => PB w x g1 g2 g3 f ({ kind := o.kind, pw := o.pw, pn := o.pn, toA := o.toA, a := o.a, b := o.b, n := o.n, fi := o.fi, fn := o.fn, ti := o.ti, tn := o.tn, tr := o.tr, ids := o.ids, key := f.key, vn := o.vn, vw := o.vw, val := o.val, op := o.op, ttl := o.ttl, tx := o.tx } : Fr) o (partD d F i)) 9 [(0, 88), (1, 89), (2, 90), (3, 91), (4, 92), (5, 93), (6, 94), (7, 95)] [.val (.pointer (some ⟨g1, 58, none⟩)), .val (.pointer (some ⟨g1, 58, none⟩)), .val (.agg (c23 f.key)), .val (.pointer (some ⟨g1, 58, none⟩)), .val (.pointer (some ⟨g1, 74, none⟩)), .val (.agg (c31 f.vn f.vw)), .val (.pointer (some ⟨g3, 58, none⟩)), .val (.pointer (some ⟨g3, 58, none⟩)), .val undef] 8 follows (by kernel_rfl) rfl (by decide) av8 (by kernel_rfl) (fun _ _ h g => h.gro g) ?hAy (opsP_a (by decide) ?o0y (opsP_a (by decide) ?o1y (opsP_a (by decide) ?o2y (opsP_a (by decide) ?o3y (opsP_a (by decide) ?o4y (opsP_a (by decide) ?o5y (opsP_a (by decide) ?o6y (opsP_a (by decide) ?o7y (opsP_e ?o8y opsP_nil))))))))) ?resty
  case hAy =>
    intro ptrs
    simp only [full, foldSlots, filledE, postE, List.foldl_cons, List.foldl_nil, List.getD_cons_zero, List.getD_cons_succ, fill_val, List.set_cons_zero, List.set_cons_succ]
    exact rfl
  case o0y => exact fun _ _ _ _ => opE_value (v := .pointer (some ⟨g1, 58, none⟩)) rfl (run_fld 36 _ 10 rfl _ _ rfl _)
  case o1y => exact fun _ _ _ _ => opE_value (v := .pointer (some ⟨g1, 58, none⟩)) rfl (run_fld 34 _ 0 rfl _ _ rfl _)
  case o2y =>
    intro ptrs w' hw hE
    have hK1 := hw.elim (fun hw => hw.has kg1) (fun hw => hw.k1)
    exact opE_value (v := .agg (c23 f.key)) rfl (run_lda 23 _ rfl g1 58 16 rfl 36 _ hK1 _ Try.underlying23 rfl si23 _)
  case o3y => exact fun _ _ _ _ => opE_value (v := .pointer (some ⟨g1, 58, none⟩)) rfl (run_fld 36 _ 10 rfl _ _ rfl _)
  case o4y => exact fun _ _ _ _ => opE_value (v := .pointer (some ⟨g1, 74, none⟩)) rfl (run_fld 34 _ 1 rfl _ _ rfl _)
  case o5y =>
    intro ptrs w' hw hE
    have hK1 := hw.elim (fun hw => hw.has kg1) (fun hw => hw.k1)
    exact opE_value (v := .agg (c31 f.vn f.vw)) rfl (run_lda 31 _ rfl g1 74 17 rfl 36 _ hK1 _ Try.underlying31 rfl si31 _)
  case o6y => exact fun _ _ _ _ => opE_value (v := .pointer (some ⟨g3, 58, none⟩)) rfl (run_fld 36 _ 10 rfl _ _ rfl _)
  case o7y => exact fun _ _ _ _ => opE_value (v := .pointer (some ⟨g3, 58, none⟩)) rfl (run_fld 34 _ 0 rfl _ _ rfl _)
  case o8y =>
    intro ptrs w' hw hE
    refine opX_store _ rfl 23 _ _ rfl g3 58 rfl (.agg (c23 f.key)) rfl 36 _ (hw.has kg3) (c23 f.key) rfl (by kernel_rfl) (Nat.le_of_ble_eq_true rfl) (by kernel_rfl) (c36 o.kind o.pw o.pn o.toA o.a o.b o.n o.fi o.fn o.ti o.tn o.tr o.ids f.key o.vn o.vw o.val o.op o.ttl o.tx) (by kernel_rfl) ?_
    intro w9 St
    exact ⟨⟨(QG.trans hw).store St bg3, St.has (by omega) (hw.has kg1), St.has (by omega) (hw.has kg2), St.new, (HO.gro ((Gro.refl _).drew.trans hw)).stT St (hw.has kg3)⟩, rfl⟩
  intro ptrs w7 PBh hxE
  simp only [List.drop_succ_cons, List.drop_zero]
  clear GG HO QG qO kg1 qg1 kg2 qg2 kg3 qg3
  have GG := PBh.gg
  have kg1 := PBh.k1
  have kg2 := PBh.k2
  have kg3 := PBh.k3
  have HO := PBh.ro
  clear PBh hxE
  refine sv 96 (.pointer (some ⟨g3, 58, none⟩)) (run_fld 36 _ 10 rfl _ _ rfl _) (sv 97 (.pointer (some ⟨g3, 74, none⟩)) (run_fld 34 _ 1 rfl _ _ rfl _) ?_)
  refine s_store rfl rfl 31 _ _ rfl g3 74 rfl (.agg (c31 f.vn f.vw)) rfl 36 _ kg3 (c31 f.vn f.vw) rfl (by kernel_rfl) (Nat.le_of_ble_eq_true rfl) (by kernel_rfl) (c36 o.kind o.pw o.pn o.toA o.a o.b o.n o.fi o.fn o.ti o.tn o.tr o.ids f.key f.vn f.vw o.val o.op o.ttl o.tx) (by kernel_rfl) ?_
  intro w9 St
  replace kg1 := St.has (by omega) kg1
  replace kg2 := St.has (by omega) kg2
  replace HO := HO.stT St kg3
  replace GG := GG.store St bg3
  replace kg3 := St.new
  clear St
  refine wpList_nil (blk_n (blk_n (then_n (wp_region_lit (mv 20 (.int .i64 ((i : Nat) : Int)) (sv 21 (.int .i64 ((i + 1 : Nat) : Int)) (run_add64 _ _ _ rfl ((i : Nat) : Int) 1 _ rfl rfl (by omega) (by omega) (by omega) _) ?_))))))
  refine nr ?_; intro U h; simp only [z0, z1] at h; subst h
  refine mv 6 (.int .i64 ((i + 1 : Nat) : Int)) (wpList_nil (then_n ?_))
  exact ⟨_, (by omega : F.length - (i + 1) < F.length - i), i + 1, { kind := o.kind, pw := o.pw, pn := o.pn, toA := o.toA, a := o.a, b := o.b, n := o.n, fi := o.fi, fn := o.fn, ti := o.ti, tn := o.tn, tr := o.tr, ids := o.ids, key := f.key, vn := f.vn, vw := f.vw, val := o.val, op := o.op, ttl := o.ttl, tx := o.tx }, usB [16, 17, 18, 19, 20, 21, 22, 23, 24, 25, 26, 27, 28, 29, 30, 31, 32, 33, 34, 35, 36, 37, 38, 39, 40, 41, 42, 43, 44, 45, 46, 47, 48, 49, 50, 51, 52, 53, 54, 55, 56, 57, 58, 59, 60, 61, 62, 63, 64, 65, 66, 67, 68, 69, 70, 71, 72, 73, 74, 75, 76, 77, 78, 79, 80, 81, 82, 83, 84, 85, 86, 87, 88, 89, 90, 91, 92, 93, 94, 95, 96, 97, 98, 99, 100, 101, 102, 103, 104, 105, 106, 107, 108, 109, 110, 111, 112, 113, 114, 115, 116] rfl rfl ⟨hin, (by simp only [partF, hc, stepF, hp2, hp3, hp4, hp5, hp6, hp7, hp8, hp9, hp10, hp11, hp12, cond_true, cond_false]; exact ⟨by first | exact hE.pw | rfl, by first | exact hE.pn | rfl, by first | exact hE.toA | rfl, by first | exact hE.a | rfl, by first | exact hE.b | rfl, by first | exact hE.n | rfl, by first | exact hE.fi | rfl, by first | exact hE.fn | rfl, by first | exact hE.ti | rfl, by first | exact hE.tn | rfl, by first | exact hE.key | rfl, by first | exact hE.vn | rfl, by first | exact hE.vw | rfl, by first | exact hE.op | rfl, by first | exact hE.ttl | rfl⟩), hkd, GG, kg1, kg2, kg3, (by simp only [partD, hc, stepD, hp2, hp3, hp4, hp5, hp6, hp7, hp8, hp9, hp10, hp11, hp12, cond_true, cond_false]; exact ⟨HO.tr, HO.ids, HO.val, HO.tx, HO.oids, HO.oval, HO.otx⟩)⟩⟩
  refine mv 74 (.bool true) (wpList_nil (then_n (wp_cond_true rfl (wp_seq (wp_region_lit (sv 76 (.pointer (some ⟨g1, 58, none⟩)) (run_fld 36 _ 10 rfl _ _ rfl _) (sv 77 (.agg (c34 f.key f.vn f.vw f.val)) (run_lda 34 _ rfl g1 58 34 rfl 36 _ kg1 _ Try.underlying34 rfl si34 _) (sv 78 (.pointer (some ⟨g3, 58, none⟩)) (run_fld 36 _ 10 rfl _ _ rfl _) ?_))))))))
  refine nr ?_; intro U h; simp only [z0, z1] at h; subst h
  refine s_store rfl rfl 34 _ _ rfl g3 58 rfl (.agg (c34 f.key f.vn f.vw f.val)) rfl 36 _ kg3 (c34 f.key f.vn f.vw f.val) rfl (by kernel_rfl) (Nat.le_of_ble_eq_true rfl) (by kernel_rfl) (c36 o.kind o.pw o.pn o.toA o.a o.b o.n o.fi o.fn o.ti o.tn o.tr o.ids f.key f.vn f.vw f.val o.op o.ttl o.tx) (by kernel_rfl) ?_
  intro w8 St
  replace kg1 := St.has (by omega) kg1
  replace kg2 := St.has (by omega) kg2
  replace HO := HO.stT St kg3
  replace GG := GG.store St bg3
  replace kg3 := St.new
  clear St
  refine wpList_nil (then_n (wp_region_lit ?_))
  have zg1 := kg1
  have zg2 := kg2
  have zg3 := kg3
  have zO := HO
  have zG := GG
  refine wpList_none 32 5 1 (fun _ => by kernel_rfl) 79 rfl rfl rfl ?_
  intro w9 gN G1 e1 HN
  simp only [Act.put, List.setIfInBounds_toArray, List.set_cons_zero, List.set_cons_succ]
  replace kg1 := G1.has kg1
  replace kg2 := G1.has kg2
  replace kg3 := G1.has kg3
  refine sv 80 (.pointer (some ⟨g1, 58, none⟩)) (run_fld 36 _ 10 rfl _ _ rfl _) (sv 81 (.pointer (some ⟨g1, 91, none⟩)) (run_fld 34 _ 2 rfl _ _ rfl _) (sv 82 (.slice f.val.ao f.val.n f.val.cap) (run_ldc 32 _ rfl g1 91 rfl 36 _ kg1 (na32 _) _ rfl) ?_))
  refine nr ?_; intro U h; simp only [z0, z1] at h; subst h
  refine wpList_appX bX 83 rfl rfl _ _ rfl rfl HN rfl ((HF.val.gro zG).gro G1) (by rw [Nat.zero_add]; exact HS.val.out) (by decide) (by rw [← e1]; exact G1.size) ?_
  intro sN cN w10 HM B2
  rw [Nat.zero_add] at HM ⊢
  rw [List.nil_append] at HM
  simp only [Act.put, List.setIfInBounds_toArray, List.set_cons_zero, List.set_cons_succ]
  have G : Gro _ _ := below_trans G1 (B2.mono (by rw [← e1]; exact Nat.le_refl _))
  replace kg1 := G.has zg1
  replace kg2 := G.has zg2
  replace kg3 := G.has zg3
  replace HO := zO.gro G
  replace GG := zG.trans G
  replace HM := HM.mono (by rw [← e1]; exact zG.size)
  clear G zG zO HN e1 G1 B2 zg1 zg2 zg3
  refine sv 84 (.pointer (some ⟨g3, 58, none⟩)) (run_fld 36 _ 10 rfl _ _ rfl _) (sv 85 (.pointer (some ⟨g3, 91, none⟩)) (run_fld 34 _ 2 rfl _ _ rfl _) ?_)
  refine s_store rfl rfl 32 _ _ rfl g3 91 rfl (.slice sN f.val.n cN) rfl 36 _ kg3 #[.slice sN f.val.n cN] rfl (by kernel_rfl) (Nat.le_of_ble_eq_true rfl) (by kernel_rfl) (c36 o.kind o.pw o.pn o.toA o.a o.b o.n o.fi o.fn o.ti o.tn o.tr o.ids f.key f.vn f.vw ⟨sN, f.val.n, cN⟩ o.op o.ttl o.tx) (by kernel_rfl) ?_
  intro w12 St
  replace kg1 := St.has (by omega) kg1
  replace kg2 := St.has (by omega) kg2
  replace HO := HO.stT St kg3
  replace HM := HM.apart St (fun ad ha => by obtain ⟨cur, hc9⟩ := HM.ty ha; exact ne_type hc9 kg3 (by decide))
  replace GG := GG.store St bg3
  replace kg3 := St.new
  clear St
  refine wpList_nil (blk_n (blk_n (then_n (wp_region_lit (mv 20 (.int .i64 ((i : Nat) : Int)) (sv 21 (.int .i64 ((i + 1 : Nat) : Int)) (run_add64 _ _ _ rfl ((i : Nat) : Int) 1 _ rfl rfl (by omega) (by omega) (by omega) _) (mv 6 (.int .i64 ((i + 1 : Nat) : Int)) ?_)))))))
  refine nr ?_; intro U h; simp only [z0, z1] at h; subst h
  refine wpList_nil (then_n ?_)
  exact ⟨_, (by omega : F.length - (i + 1) < F.length - i), i + 1, { kind := o.kind, pw := o.pw, pn := o.pn, toA := o.toA, a := o.a, b := o.b, n := o.n, fi := o.fi, fn := o.fn, ti := o.ti, tn := o.tn, tr := o.tr, ids := o.ids, key := f.key, vn := f.vn, vw := f.vw, val := ⟨sN, f.val.n, cN⟩, op := o.op, ttl := o.ttl, tx := o.tx }, usB [16, 17, 18, 19, 20, 21, 22, 23, 24, 25, 26, 27, 28, 29, 30, 31, 32, 33, 34, 35, 36, 37, 38, 39, 40, 41, 42, 43, 44, 45, 46, 47, 48, 49, 50, 51, 52, 53, 54, 55, 56, 57, 58, 59, 60, 61, 62, 63, 64, 65, 66, 67, 68, 69, 70, 71, 72, 73, 74, 75, 76, 77, 78, 79, 80, 81, 82, 83, 84, 85, 86, 87, 88, 89, 90, 91, 92, 93, 94, 95, 96, 97, 98, 99, 100, 101, 102, 103, 104, 105, 106, 107, 108, 109, 110, 111, 112, 113, 114, 115, 116] rfl rfl ⟨hin, (by simp only [partF, hc, stepF, hp2, hp3, hp4, hp5, hp6, hp7, hp8, hp9, hp10, hp11, cond_true, cond_false]; exact ⟨by first | exact hE.pw | rfl, by first | exact hE.pn | rfl, by first | exact hE.toA | rfl, by first | exact hE.a | rfl, by first | exact hE.b | rfl, by first | exact hE.n | rfl, by first | exact hE.fi | rfl, by first | exact hE.fn | rfl, by first | exact hE.ti | rfl, by first | exact hE.tn | rfl, by first | exact hE.key | rfl, by first | exact hE.vn | rfl, by first | exact hE.vw | rfl, by first | exact hE.op | rfl, by first | exact hE.ttl | rfl⟩), hkd, GG, kg1, kg2, kg3, (by simp only [partD, hc, stepD, hp2, hp3, hp4, hp5, hp6, hp7, hp8, hp9, hp10, hp11, cond_true, cond_false]; exact ⟨HO.tr, HO.ids, HM, HO.tx, HO.oids, HF.oval, HO.otx⟩)⟩⟩
  refine mv 67 (.bool true) (wpList_nil (then_n (wp_cond_true rfl (wp_region_lit ?_))))
  have zg1 := kg1
  have zg2 := kg2
  have zg3 := kg3
  have zO := HO
  have zG := GG
  refine wpList_none 29 23 16 (fun _ => by kernel_rfl) 69 rfl rfl rfl ?_
  intro w7 gN G1 e1 HN
  simp only [Act.put, List.setIfInBounds_toArray, List.set_cons_zero, List.set_cons_succ]
  replace kg1 := G1.has kg1
  replace kg2 := G1.has kg2
  replace kg3 := G1.has kg3
  refine sv 70 (.pointer (some ⟨g1, 57, none⟩)) (run_fld 36 _ 9 rfl _ _ rfl _) (sv 71 (.slice f.ids.ao f.ids.n f.ids.cap) (run_ldc 29 _ rfl g1 57 rfl 36 _ kg1 (na29 _) _ rfl) ?_)
  refine nr ?_; intro U h; simp only [z0, z1] at h; subst h
  refine wpList_appX iT29 72 rfl rfl _ _ rfl rfl HN rfl ((HF.ids.gro zG).gro G1) (by rw [Nat.zero_add]; exact HS.ids.out) (by decide) (by rw [← e1]; exact G1.size) ?_
  intro sN cN w8 HM B2
  rw [Nat.zero_add] at HM ⊢
  rw [List.nil_append] at HM
  simp only [Act.put, List.setIfInBounds_toArray, List.set_cons_zero, List.set_cons_succ]
  have G : Gro _ _ := below_trans G1 (B2.mono (by rw [← e1]; exact Nat.le_refl _))
  replace kg1 := G.has zg1
  replace kg2 := G.has zg2
  replace kg3 := G.has zg3
  replace HO := zO.gro G
  replace GG := zG.trans G
  replace HM := HM.mono (by rw [← e1]; exact zG.size)
  clear G zG zO HN e1 G1 B2 zg1 zg2 zg3
  refine sv 73 (.pointer (some ⟨g3, 57, none⟩)) (run_fld 36 _ 9 rfl _ _ rfl _) ?_
  refine s_store rfl rfl 29 _ _ rfl g3 57 rfl (.slice sN f.ids.n cN) rfl 36 _ kg3 #[.slice sN f.ids.n cN] rfl (by kernel_rfl) (Nat.le_of_ble_eq_true rfl) (by kernel_rfl) (c36 o.kind o.pw o.pn o.toA o.a o.b o.n o.fi o.fn o.ti o.tn o.tr ⟨sN, f.ids.n, cN⟩ o.key o.vn o.vw o.val o.op o.ttl o.tx) (by kernel_rfl) ?_
  intro w10 St
  replace kg1 := St.has (by omega) kg1
  replace kg2 := St.has (by omega) kg2
  replace HO := HO.stT St kg3
  replace HM := HM.apart St (fun ad ha => by obtain ⟨cur, hc9⟩ := HM.ty ha; exact ne_type hc9 kg3 (by decide))
  replace GG := GG.store St bg3
  replace kg3 := St.new
  clear St
  refine wpList_nil (blk_n (blk_n (then_n (wp_region_lit (mv 20 (.int .i64 ((i : Nat) : Int)) (sv 21 (.int .i64 ((i + 1 : Nat) : Int)) (run_add64 _ _ _ rfl ((i : Nat) : Int) 1 _ rfl rfl (by omega) (by omega) (by omega) _) (mv 6 (.int .i64 ((i + 1 : Nat) : Int)) (wpList_nil (then_n ?_)))))))))
  exact ⟨_, (by omega : F.length - (i + 1) < F.length - i), i + 1, { kind := o.kind, pw := o.pw, pn := o.pn, toA := o.toA, a := o.a, b := o.b, n := o.n, fi := o.fi, fn := o.fn, ti := o.ti, tn := o.tn, tr := o.tr, ids := ⟨sN, f.ids.n, cN⟩, key := o.key, vn := o.vn, vw := o.vw, val := o.val, op := o.op, ttl := o.ttl, tx := o.tx }, usB [16, 17, 18, 19, 20, 21, 22, 23, 24, 25, 26, 27, 28, 29, 30, 31, 32, 33, 34, 35, 36, 37, 38, 39, 40, 41, 42, 43, 44, 45, 46, 47, 48, 49, 50, 51, 52, 53, 54, 55, 56, 57, 58, 59, 60, 61, 62, 63, 64, 65, 66, 67, 68, 69, 70, 71, 72, 73, 74, 75, 76, 77, 78, 79, 80, 81, 82, 83, 84, 85, 86, 87, 88, 89, 90, 91, 92, 93, 94, 95, 96, 97, 98, 99, 100, 101, 102, 103, 104, 105, 106, 107, 108, 109, 110, 111, 112, 113, 114, 115, 116] rfl rfl ⟨hin, (by simp only [partF, hc, stepF, hp2, hp3, hp4, hp5, hp6, hp7, hp8, hp9, hp10, cond_true, cond_false]; exact ⟨by first | exact hE.pw | rfl, by first | exact hE.pn | rfl, by first | exact hE.toA | rfl, by first | exact hE.a | rfl, by first | exact hE.b | rfl, by first | exact hE.n | rfl, by first | exact hE.fi | rfl, by first | exact hE.fn | rfl, by first | exact hE.ti | rfl, by first | exact hE.tn | rfl, by first | exact hE.key | rfl, by first | exact hE.vn | rfl, by first | exact hE.vw | rfl, by first | exact hE.op | rfl, by first | exact hE.ttl | rfl⟩), hkd, GG, kg1, kg2, kg3, (by simp only [partD, hc, stepD, hp2, hp3, hp4, hp5, hp6, hp7, hp8, hp9, hp10, cond_true, cond_false]; exact ⟨HO.tr, HM, HO.val, HO.tx, HF.oids, HO.oval, HO.otx⟩)⟩⟩
  refine mv 60 (.bool true) ?_
  refine nr ?_; intro U h; simp only [z0, z1] at h; subst h
  refine wpList_nil (then_n (wp_cond_true rfl (wp_region_lit ?_)))
  have zg1 := kg1
  have zg2 := kg2
  have zg3 := kg3
  have zO := HO
  have zG := GG
  refine wpList_none 28 3 1 (fun _ => by kernel_rfl) 62 rfl rfl rfl ?_
  intro w7 gN G1 e1 HN
  simp only [Act.put, List.setIfInBounds_toArray, List.set_cons_zero, List.set_cons_succ]
  replace kg1 := G1.has kg1
  replace kg2 := G1.has kg2
  replace kg3 := G1.has kg3
  refine sv 63 (.pointer (some ⟨g1, 56, none⟩)) (run_fld 36 _ 8 rfl _ _ rfl _) (sv 64 (.slice f.tr.ao f.tr.n f.tr.cap) (run_ldc 28 _ rfl g1 56 rfl 36 _ kg1 (na28 _) _ rfl) ?_)
  refine nr ?_; intro U h; simp only [z0, z1] at h; subst h
  refine wpList_appX iT28 65 rfl rfl _ _ rfl rfl HN rfl ((HF.tr.gro zG).gro G1) (by rw [Nat.zero_add]; exact HS.tr.out) (by decide) (by rw [← e1]; exact G1.size) ?_
  intro sN cN w8 HM B2
  rw [Nat.zero_add] at HM ⊢
  rw [List.nil_append] at HM
  simp only [Act.put, List.setIfInBounds_toArray, List.set_cons_zero, List.set_cons_succ]
  have G : Gro _ _ := below_trans G1 (B2.mono (by rw [← e1]; exact Nat.le_refl _))
  replace kg1 := G.has zg1
  replace kg2 := G.has zg2
  replace kg3 := G.has zg3
  replace HO := zO.gro G
  replace GG := zG.trans G
  replace HM := HM.mono (by rw [← e1]; exact zG.size)
  clear G zG zO HN e1 G1 B2 zg1 zg2 zg3
  refine sv 66 (.pointer (some ⟨g3, 56, none⟩)) (run_fld 36 _ 8 rfl _ _ rfl _) ?_
  refine s_store rfl rfl 28 _ _ rfl g3 56 rfl (.slice sN f.tr.n cN) rfl 36 _ kg3 #[.slice sN f.tr.n cN] rfl (by kernel_rfl) (Nat.le_of_ble_eq_true rfl) (by kernel_rfl) (c36 o.kind o.pw o.pn o.toA o.a o.b o.n o.fi o.fn o.ti o.tn ⟨sN, f.tr.n, cN⟩ o.ids o.key o.vn o.vw o.val o.op o.ttl o.tx) (by kernel_rfl) ?_
  intro w10 St
  replace kg1 := St.has (by omega) kg1
  replace kg2 := St.has (by omega) kg2
  replace HO := HO.stT St kg3
  replace HM := HM.apart St (fun ad ha => by obtain ⟨cur, hc9⟩ := HM.ty ha; exact ne_type hc9 kg3 (by decide))
  replace GG := GG.store St bg3
  replace kg3 := St.new
  clear St
  refine wpList_nil (blk_n (blk_n (then_n (wp_region_lit (mv 20 (.int .i64 ((i : Nat) : Int)) (sv 21 (.int .i64 ((i + 1 : Nat) : Int)) (run_add64 _ _ _ rfl ((i : Nat) : Int) 1 _ rfl rfl (by omega) (by omega) (by omega) _) (mv 6 (.int .i64 ((i + 1 : Nat) : Int)) (wpList_nil (then_n ?_)))))))))
  exact ⟨_, (by omega : F.length - (i + 1) < F.length - i), i + 1, { kind := o.kind, pw := o.pw, pn := o.pn, toA := o.toA, a := o.a, b := o.b, n := o.n, fi := o.fi, fn := o.fn, ti := o.ti, tn := o.tn, tr := ⟨sN, f.tr.n, cN⟩, ids := o.ids, key := o.key, vn := o.vn, vw := o.vw, val := o.val, op := o.op, ttl := o.ttl, tx := o.tx }, usB [16, 17, 18, 19, 20, 21, 22, 23, 24, 25, 26, 27, 28, 29, 30, 31, 32, 33, 34, 35, 36, 37, 38, 39, 40, 41, 42, 43, 44, 45, 46, 47, 48, 49, 50, 51, 52, 53, 54, 55, 56, 57, 58, 59, 60, 61, 62, 63, 64, 65, 66, 67, 68, 69, 70, 71, 72, 73, 74, 75, 76, 77, 78, 79, 80, 81, 82, 83, 84, 85, 86, 87, 88, 89, 90, 91, 92, 93, 94, 95, 96, 97, 98, 99, 100, 101, 102, 103, 104, 105, 106, 107, 108, 109, 110, 111, 112, 113, 114, 115, 116] rfl rfl ⟨hin, (by simp only [partF, hc, stepF, hp2, hp3, hp4, hp5, hp6, hp7, hp8, hp9, cond_true, cond_false]; exact ⟨by first | exact hE.pw | rfl, by first | exact hE.pn | rfl, by first | exact hE.toA | rfl, by first | exact hE.a | rfl, by first | exact hE.b | rfl, by first | exact hE.n | rfl, by first | exact hE.fi | rfl, by first | exact hE.fn | rfl, by first | exact hE.ti | rfl, by first | exact hE.tn | rfl, by first | exact hE.key | rfl, by first | exact hE.vn | rfl, by first | exact hE.vw | rfl, by first | exact hE.op | rfl, by first | exact hE.ttl | rfl⟩), hkd, GG, kg1, kg2, kg3, (by simp only [partD, hc, stepD, hp2, hp3, hp4, hp5, hp6, hp7, hp8, hp9, cond_true, cond_false]; exact ⟨HM, HO.ids, HO.val, HO.tx, HO.oids, HO.oval, HO.otx⟩)⟩⟩
  refine mv 55 (.bool true) ?_
  refine nr ?_; intro U h; simp only [z0, z1] at h; subst h
  refine wpList_nil (then_n (wp_cond_true rfl (wp_region_lit (sv 57 (.pointer (some ⟨g1, 18, none⟩)) (run_fld 36 _ 2 rfl _ _ rfl _) (sv 58 (.bool f.toA) (run_ldc 4 _ rfl g1 18 rfl 36 _ kg1 (na4 _) _ rfl) (sv 59 (.pointer (some ⟨g3, 18, none⟩)) (run_fld 36 _ 2 rfl _ _ rfl _) ?_))))))
  refine s_store rfl rfl 4 _ _ rfl g3 18 rfl (.bool f.toA) rfl 36 _ kg3 #[.bool f.toA] rfl (by kernel_rfl) (Nat.le_of_ble_eq_true rfl) (by kernel_rfl) (c36 o.kind o.pw o.pn f.toA o.a o.b o.n o.fi o.fn o.ti o.tn o.tr o.ids o.key o.vn o.vw o.val o.op o.ttl o.tx) (by kernel_rfl) ?_
  intro w8 St
  replace kg1 := St.has (by omega) kg1
  replace kg2 := St.has (by omega) kg2
  replace HO := HO.stT St kg3
  replace GG := GG.store St bg3
  replace kg3 := St.new
  clear St
  refine wpList_nil (blk_n (blk_n (then_n (wp_region_lit (mv 20 (.int .i64 ((i : Nat) : Int)) (sv 21 (.int .i64 ((i + 1 : Nat) : Int)) (run_add64 _ _ _ rfl ((i : Nat) : Int) 1 _ rfl rfl (by omega) (by omega) (by omega) _) ?_))))))
  refine nr ?_; intro U h; simp only [z0, z1] at h; subst h
  refine mv 6 (.int .i64 ((i + 1 : Nat) : Int)) (wpList_nil (then_n ?_))
  exact ⟨_, (by omega : F.length - (i + 1) < F.length - i), i + 1, { kind := o.kind, pw := o.pw, pn := o.pn, toA := f.toA, a := o.a, b := o.b, n := o.n, fi := o.fi, fn := o.fn, ti := o.ti, tn := o.tn, tr := o.tr, ids := o.ids, key := o.key, vn := o.vn, vw := o.vw, val := o.val, op := o.op, ttl := o.ttl, tx := o.tx }, usB [16, 17, 18, 19, 20, 21, 22, 23, 24, 25, 26, 27, 28, 29, 30, 31, 32, 33, 34, 35, 36, 37, 38, 39, 40, 41, 42, 43, 44, 45, 46, 47, 48, 49, 50, 51, 52, 53, 54, 55, 56, 57, 58, 59, 60, 61, 62, 63, 64, 65, 66, 67, 68, 69, 70, 71, 72, 73, 74, 75, 76, 77, 78, 79, 80, 81, 82, 83, 84, 85, 86, 87, 88, 89, 90, 91, 92, 93, 94, 95, 96, 97, 98, 99, 100, 101, 102, 103, 104, 105, 106, 107, 108, 109, 110, 111, 112, 113, 114, 115, 116] rfl rfl ⟨hin, (by simp only [partF, hc, stepF, hp2, hp3, hp4, hp5, hp6, hp7, hp8, cond_true, cond_false]; exact ⟨by first | exact hE.pw | rfl, by first | exact hE.pn | rfl, by first | exact hE.toA | rfl, by first | exact hE.a | rfl, by first | exact hE.b | rfl, by first | exact hE.n | rfl, by first | exact hE.fi | rfl, by first | exact hE.fn | rfl, by first | exact hE.ti | rfl, by first | exact hE.tn | rfl, by first | exact hE.key | rfl, by first | exact hE.vn | rfl, by first | exact hE.vw | rfl, by first | exact hE.op | rfl, by first | exact hE.ttl | rfl⟩), hkd, GG, kg1, kg2, kg3, (by simp only [partD, hc, stepD, hp2, hp3, hp4, hp5, hp6, hp7, hp8, cond_true, cond_false]; exact ⟨HO.tr, HO.ids, HO.val, HO.tx, HO.oids, HO.oval, HO.otx⟩)⟩⟩
  refine mv 50 (.bool true) (wpList_nil (then_n (wp_cond_true rfl (wp_region_lit (sv 52 (.pointer (some ⟨g1, 35, none⟩)) (run_fld 36 _ 4 rfl _ _ rfl _) (sv 53 (.agg (c23 f.b)) (run_lda 23 _ rfl g1 35 16 rfl 36 _ kg1 _ Try.underlying23 rfl si23 _) (sv 54 (.pointer (some ⟨g3, 35, none⟩)) (run_fld 36 _ 4 rfl _ _ rfl _) ?_)))))))
  refine nr ?_; intro U h; simp only [z0, z1] at h; subst h
  refine s_store rfl rfl 23 _ _ rfl g3 35 rfl (.agg (c23 f.b)) rfl 36 _ kg3 (c23 f.b) rfl (by kernel_rfl) (Nat.le_of_ble_eq_true rfl) (by kernel_rfl) (c36 o.kind o.pw o.pn o.toA o.a f.b o.n o.fi o.fn o.ti o.tn o.tr o.ids o.key o.vn o.vw o.val o.op o.ttl o.tx) (by kernel_rfl) ?_
  intro w8 St
  replace kg1 := St.has (by omega) kg1
  replace kg2 := St.has (by omega) kg2
  replace HO := HO.stT St kg3
  replace GG := GG.store St bg3
  replace kg3 := St.new
  clear St
  refine wpList_nil (blk_n (blk_n (then_n (wp_region_lit (mv 20 (.int .i64 ((i : Nat) : Int)) (sv 21 (.int .i64 ((i + 1 : Nat) : Int)) (run_add64 _ _ _ rfl ((i : Nat) : Int) 1 _ rfl rfl (by omega) (by omega) (by omega) _) (mv 6 (.int .i64 ((i + 1 : Nat) : Int)) (wpList_nil (then_n ?_)))))))))
  exact ⟨_, (by omega : F.length - (i + 1) < F.length - i), i + 1, { kind := o.kind, pw := o.pw, pn := o.pn, toA := o.toA, a := o.a, b := f.b, n := o.n, fi := o.fi, fn := o.fn, ti := o.ti, tn := o.tn, tr := o.tr, ids := o.ids, key := o.key, vn := o.vn, vw := o.vw, val := o.val, op := o.op, ttl := o.ttl, tx := o.tx }, usB [16, 17, 18, 19, 20, 21, 22, 23, 24, 25, 26, 27, 28, 29, 30, 31, 32, 33, 34, 35, 36, 37, 38, 39, 40, 41, 42, 43, 44, 45, 46, 47, 48, 49, 50, 51, 52, 53, 54, 55, 56, 57, 58, 59, 60, 61, 62, 63, 64, 65, 66, 67, 68, 69, 70, 71, 72, 73, 74, 75, 76, 77, 78, 79, 80, 81, 82, 83, 84, 85, 86, 87, 88, 89, 90, 91, 92, 93, 94, 95, 96, 97, 98, 99, 100, 101, 102, 103, 104, 105, 106, 107, 108, 109, 110, 111, 112, 113, 114, 115, 116] rfl rfl ⟨hin, (by simp only [partF, hc, stepF, hp2, hp3, hp4, hp5, hp6, hp7, cond_true, cond_false]; exact ⟨by first | exact hE.pw | rfl, by first | exact hE.pn | rfl, by first | exact hE.toA | rfl, by first | exact hE.a | rfl, by first | exact hE.b | rfl, by first | exact hE.n | rfl, by first | exact hE.fi | rfl, by first | exact hE.fn | rfl, by first | exact hE.ti | rfl, by first | exact hE.tn | rfl, by first | exact hE.key | rfl, by first | exact hE.vn | rfl, by first | exact hE.vw | rfl, by first | exact hE.op | rfl, by first | exact hE.ttl | rfl⟩), hkd, GG, kg1, kg2, kg3, (by simp only [partD, hc, stepD, hp2, hp3, hp4, hp5, hp6, hp7, cond_true, cond_false]; exact ⟨HO.tr, HO.ids, HO.val, HO.tx, HO.oids, HO.oval, HO.otx⟩)⟩⟩
  refine mv 45 (.bool true) (wpList_nil (then_n (wp_cond_true rfl (wp_region_lit (sv 47 (.pointer (some ⟨g1, 19, none⟩)) (run_fld 36 _ 3 rfl _ _ rfl _) ?_)))))
  refine nr ?_; intro U h; simp only [z0, z1] at h; subst h
  refine sv 48 (.agg (c23 f.a)) (run_lda 23 _ rfl g1 19 16 rfl 36 _ kg1 _ Try.underlying23 rfl si23 _) (sv 49 (.pointer (some ⟨g3, 19, none⟩)) (run_fld 36 _ 3 rfl _ _ rfl _) ?_)
  refine s_store rfl rfl 23 _ _ rfl g3 19 rfl (.agg (c23 f.a)) rfl 36 _ kg3 (c23 f.a) rfl (by kernel_rfl) (Nat.le_of_ble_eq_true rfl) (by kernel_rfl) (c36 o.kind o.pw o.pn o.toA f.a o.b o.n o.fi o.fn o.ti o.tn o.tr o.ids o.key o.vn o.vw o.val o.op o.ttl o.tx) (by kernel_rfl) ?_
  intro w8 St
  replace kg1 := St.has (by omega) kg1
  replace kg2 := St.has (by omega) kg2
  replace HO := HO.stT St kg3
  replace GG := GG.store St bg3
  replace kg3 := St.new
  clear St
  refine wpList_nil (blk_n (blk_n (then_n (wp_region_lit (mv 20 (.int .i64 ((i : Nat) : Int)) (sv 21 (.int .i64 ((i + 1 : Nat) : Int)) (run_add64 _ _ _ rfl ((i : Nat) : Int) 1 _ rfl rfl (by omega) (by omega) (by omega) _) (mv 6 (.int .i64 ((i + 1 : Nat) : Int)) ?_)))))))
  refine nr ?_; intro U h; simp only [z0, z1] at h; subst h
  refine wpList_nil (then_n ?_)
  exact ⟨_, (by omega : F.length - (i + 1) < F.length - i), i + 1, { kind := o.kind, pw := o.pw, pn := o.pn, toA := o.toA, a := f.a, b := o.b, n := o.n, fi := o.fi, fn := o.fn, ti := o.ti, tn := o.tn, tr := o.tr, ids := o.ids, key := o.key, vn := o.vn, vw := o.vw, val := o.val, op := o.op, ttl := o.ttl, tx := o.tx }, usB [16, 17, 18, 19, 20, 21, 22, 23, 24, 25, 26, 27, 28, 29, 30, 31, 32, 33, 34, 35, 36, 37, 38, 39, 40, 41, 42, 43, 44, 45, 46, 47, 48, 49, 50, 51, 52, 53, 54, 55, 56, 57, 58, 59, 60, 61, 62, 63, 64, 65, 66, 67, 68, 69, 70, 71, 72, 73, 74, 75, 76, 77, 78, 79, 80, 81, 82, 83, 84, 85, 86, 87, 88, 89, 90, 91, 92, 93, 94, 95, 96, 97, 98, 99, 100, 101, 102, 103, 104, 105, 106, 107, 108, 109, 110, 111, 112, 113, 114, 115, 116] rfl rfl ⟨hin, (by simp only [partF, hc, stepF, hp2, hp3, hp4, hp5, hp6, cond_true, cond_false]; exact ⟨by first | exact hE.pw | rfl, by first | exact hE.pn | rfl, by first | exact hE.toA | rfl, by first | exact hE.a | rfl, by first | exact hE.b | rfl, by first | exact hE.n | rfl, by first | exact hE.fi | rfl, by first | exact hE.fn | rfl, by first | exact hE.ti | rfl, by first | exact hE.tn | rfl, by first | exact hE.key | rfl, by first | exact hE.vn | rfl, by first | exact hE.vw | rfl, by first | exact hE.op | rfl, by first | exact hE.ttl | rfl⟩), hkd, GG, kg1, kg2, kg3, (by simp only [partD, hc, stepD, hp2, hp3, hp4, hp5, hp6, cond_true, cond_false]; exact ⟨HO.tr, HO.ids, HO.val, HO.tx, HO.oids, HO.oval, HO.otx⟩)⟩⟩
  refine mv 40 (.bool true) (wpList_nil (then_n (wp_cond_true rfl (wp_region_lit (sv 42 (.pointer (some ⟨g1, 1, none⟩)) (run_fld 36 _ 1 rfl _ _ rfl _) (sv 43 (.agg (c25 f.pw f.pn)) (run_lda 25 _ rfl g1 1 17 rfl 36 _ kg1 _ Try.underlying25 rfl si25 _) (sv 44 (.pointer (some ⟨g3, 1, none⟩)) (run_fld 36 _ 1 rfl _ _ rfl _) ?_)))))))
  refine s_store rfl rfl 25 _ _ rfl g3 1 rfl (.agg (c25 f.pw f.pn)) rfl 36 _ kg3 (c25 f.pw f.pn) rfl (by kernel_rfl) (Nat.le_of_ble_eq_true rfl) (by kernel_rfl) (c36 o.kind f.pw f.pn o.toA o.a o.b o.n o.fi o.fn o.ti o.tn o.tr o.ids o.key o.vn o.vw o.val o.op o.ttl o.tx) (by kernel_rfl) ?_
  intro w8 St
  replace kg1 := St.has (by omega) kg1
  replace kg2 := St.has (by omega) kg2
  replace HO := HO.stT St kg3
  replace GG := GG.store St bg3
  replace kg3 := St.new
  clear St
  refine wpList_nil (blk_n (blk_n (then_n (wp_region_lit (mv 20 (.int .i64 ((i : Nat) : Int)) ?_)))))
  refine nr ?_; intro U h; simp only [z0, z1] at h; subst h
  refine sv 21 (.int .i64 ((i + 1 : Nat) : Int)) (run_add64 _ _ _ rfl ((i : Nat) : Int) 1 _ rfl rfl (by omega) (by omega) (by omega) _) (mv 6 (.int .i64 ((i + 1 : Nat) : Int)) (wpList_nil (then_n ?_)))
  exact ⟨_, (by omega : F.length - (i + 1) < F.length - i), i + 1, { kind := o.kind, pw := f.pw, pn := f.pn, toA := o.toA, a := o.a, b := o.b, n := o.n, fi := o.fi, fn := o.fn, ti := o.ti, tn := o.tn, tr := o.tr, ids := o.ids, key := o.key, vn := o.vn, vw := o.vw, val := o.val, op := o.op, ttl := o.ttl, tx := o.tx }, usB [16, 17, 18, 19, 20, 21, 22, 23, 24, 25, 26, 27, 28, 29, 30, 31, 32, 33, 34, 35, 36, 37, 38, 39, 40, 41, 42, 43, 44, 45, 46, 47, 48, 49, 50, 51, 52, 53, 54, 55, 56, 57, 58, 59, 60, 61, 62, 63, 64, 65, 66, 67, 68, 69, 70, 71, 72, 73, 74, 75, 76, 77, 78, 79, 80, 81, 82, 83, 84, 85, 86, 87, 88, 89, 90, 91, 92, 93, 94, 95, 96, 97, 98, 99, 100, 101, 102, 103, 104, 105, 106, 107, 108, 109, 110, 111, 112, 113, 114, 115, 116] rfl rfl ⟨hin, (by simp only [partF, hc, stepF, hp2, hp3, hp4, hp5, cond_true, cond_false]; exact ⟨by first | exact hE.pw | rfl, by first | exact hE.pn | rfl, by first | exact hE.toA | rfl, by first | exact hE.a | rfl, by first | exact hE.b | rfl, by first | exact hE.n | rfl, by first | exact hE.fi | rfl, by first | exact hE.fn | rfl, by first | exact hE.ti | rfl, by first | exact hE.tn | rfl, by first | exact hE.key | rfl, by first | exact hE.vn | rfl, by first | exact hE.vw | rfl, by first | exact hE.op | rfl, by first | exact hE.ttl | rfl⟩), hkd, GG, kg1, kg2, kg3, (by simp only [partD, hc, stepD, hp2, hp3, hp4, hp5, cond_true, cond_false]; exact ⟨HO.tr, HO.ids, HO.val, HO.tx, HO.oids, HO.oval, HO.otx⟩)⟩⟩
  refine mv 35 (.bool true) (wpList_nil (then_n (wp_cond_true rfl (wp_region_lit (sv 37 (.pointer (some ⟨g1, 51, none⟩)) (run_fld 36 _ 5 rfl _ _ rfl _) (sv 38 (.int .i64 f.n) (run_ldc 2 _ rfl g1 51 rfl 36 _ kg1 (na2 _) _ rfl) ?_))))))
  refine nr ?_; intro U h; simp only [z0, z1] at h; subst h
  refine sv 39 (.pointer (some ⟨g3, 51, none⟩)) (run_fld 36 _ 5 rfl _ _ rfl _) ?_
  refine s_store rfl rfl 2 _ _ rfl g3 51 rfl (.int .i64 f.n) rfl 36 _ kg3 #[.int .i64 f.n] rfl (by kernel_rfl) (Nat.le_of_ble_eq_true rfl) (by kernel_rfl) (c36 o.kind o.pw o.pn o.toA o.a o.b f.n o.fi o.fn o.ti o.tn o.tr o.ids o.key o.vn o.vw o.val o.op o.ttl o.tx) (by kernel_rfl) ?_
  intro w8 St
  replace kg1 := St.has (by omega) kg1
  replace kg2 := St.has (by omega) kg2
  replace HO := HO.stT St kg3
  replace GG := GG.store St bg3
  replace kg3 := St.new
  clear St
  refine wpList_nil (blk_n (blk_n (then_n (wp_region_lit (mv 20 (.int .i64 ((i : Nat) : Int)) (sv 21 (.int .i64 ((i + 1 : Nat) : Int)) (run_add64 _ _ _ rfl ((i : Nat) : Int) 1 _ rfl rfl (by omega) (by omega) (by omega) _) (mv 6 (.int .i64 ((i + 1 : Nat) : Int)) (wpList_nil (then_n ?_)))))))))
  exact ⟨_, (by omega : F.length - (i + 1) < F.length - i), i + 1, { kind := o.kind, pw := o.pw, pn := o.pn, toA := o.toA, a := o.a, b := o.b, n := f.n, fi := o.fi, fn := o.fn, ti := o.ti, tn := o.tn, tr := o.tr, ids := o.ids, key := o.key, vn := o.vn, vw := o.vw, val := o.val, op := o.op, ttl := o.ttl, tx := o.tx }, usB [16, 17, 18, 19, 20, 21, 22, 23, 24, 25, 26, 27, 28, 29, 30, 31, 32, 33, 34, 35, 36, 37, 38, 39, 40, 41, 42, 43, 44, 45, 46, 47, 48, 49, 50, 51, 52, 53, 54, 55, 56, 57, 58, 59, 60, 61, 62, 63, 64, 65, 66, 67, 68, 69, 70, 71, 72, 73, 74, 75, 76, 77, 78, 79, 80, 81, 82, 83, 84, 85, 86, 87, 88, 89, 90, 91, 92, 93, 94, 95, 96, 97, 98, 99, 100, 101, 102, 103, 104, 105, 106, 107, 108, 109, 110, 111, 112, 113, 114, 115, 116] rfl rfl ⟨hin, (by simp only [partF, hc, stepF, hp2, hp3, hp4, cond_true, cond_false]; exact ⟨by first | exact hE.pw | rfl, by first | exact hE.pn | rfl, by first | exact hE.toA | rfl, by first | exact hE.a | rfl, by first | exact hE.b | rfl, by first | exact hE.n | rfl, by first | exact hE.fi | rfl, by first | exact hE.fn | rfl, by first | exact hE.ti | rfl, by first | exact hE.tn | rfl, by first | exact hE.key | rfl, by first | exact hE.vn | rfl, by first | exact hE.vw | rfl, by first | exact hE.op | rfl, by first | exact hE.ttl | rfl⟩), hkd, GG, kg1, kg2, kg3, (by simp only [partD, hc, stepD, hp2, hp3, hp4, cond_true, cond_false]; exact ⟨HO.tr, HO.ids, HO.val, HO.tx, HO.oids, HO.oval, HO.otx⟩)⟩⟩
  refine mv 30 (.bool true) ?_
  refine nr ?_; intro U h; simp only [z0, z1] at h; subst h
  refine wpList_nil (then_n (wp_cond_true rfl (wp_region_lit (sv 32 (.pointer (some ⟨g1, 54, none⟩)) (run_fld 36 _ 7 rfl _ _ rfl _) (sv 33 (.agg (c27 f.ti f.tn)) (run_lda 27 _ rfl g1 54 2 rfl 36 _ kg1 _ Try.underlying27 rfl si27 _) (sv 34 (.pointer (some ⟨g3, 54, none⟩)) (run_fld 36 _ 7 rfl _ _ rfl _) ?_))))))
  refine s_store rfl rfl 27 _ _ rfl g3 54 rfl (.agg (c27 f.ti f.tn)) rfl 36 _ kg3 (c27 f.ti f.tn) rfl (by kernel_rfl) (Nat.le_of_ble_eq_true rfl) (by kernel_rfl) (c36 o.kind o.pw o.pn o.toA o.a o.b o.n o.fi o.fn f.ti f.tn o.tr o.ids o.key o.vn o.vw o.val o.op o.ttl o.tx) (by kernel_rfl) ?_
  intro w8 St
  replace kg1 := St.has (by omega) kg1
  replace kg2 := St.has (by omega) kg2
  replace HO := HO.stT St kg3
  replace GG := GG.store St bg3
  replace kg3 := St.new
  clear St
  refine wpList_nil (blk_n (blk_n (then_n (wp_region_lit (mv 20 (.int .i64 ((i : Nat) : Int)) (sv 21 (.int .i64 ((i + 1 : Nat) : Int)) (run_add64 _ _ _ rfl ((i : Nat) : Int) 1 _ rfl rfl (by omega) (by omega) (by omega) _) ?_))))))
  refine nr ?_; intro U h; simp only [z0, z1] at h; subst h
  refine mv 6 (.int .i64 ((i + 1 : Nat) : Int)) (wpList_nil (then_n ?_))
  exact ⟨_, (by omega : F.length - (i + 1) < F.length - i), i + 1, { kind := o.kind, pw := o.pw, pn := o.pn, toA := o.toA, a := o.a, b := o.b, n := o.n, fi := o.fi, fn := o.fn, ti := f.ti, tn := f.tn, tr := o.tr, ids := o.ids, key := o.key, vn := o.vn, vw := o.vw, val := o.val, op := o.op, ttl := o.ttl, tx := o.tx }, usB [16, 17, 18, 19, 20, 21, 22, 23, 24, 25, 26, 27, 28, 29, 30, 31, 32, 33, 34, 35, 36, 37, 38, 39, 40, 41, 42, 43, 44, 45, 46, 47, 48, 49, 50, 51, 52, 53, 54, 55, 56, 57, 58, 59, 60, 61, 62, 63, 64, 65, 66, 67, 68, 69, 70, 71, 72, 73, 74, 75, 76, 77, 78, 79, 80, 81, 82, 83, 84, 85, 86, 87, 88, 89, 90, 91, 92, 93, 94, 95, 96, 97, 98, 99, 100, 101, 102, 103, 104, 105, 106, 107, 108, 109, 110, 111, 112, 113, 114, 115, 116] rfl rfl ⟨hin, (by simp only [partF, hc, stepF, hp2, hp3, cond_true, cond_false]; exact ⟨by first | exact hE.pw | rfl, by first | exact hE.pn | rfl, by first | exact hE.toA | rfl, by first | exact hE.a | rfl, by first | exact hE.b | rfl, by first | exact hE.n | rfl, by first | exact hE.fi | rfl, by first | exact hE.fn | rfl, by first | exact hE.ti | rfl, by first | exact hE.tn | rfl, by first | exact hE.key | rfl, by first | exact hE.vn | rfl, by first | exact hE.vw | rfl, by first | exact hE.op | rfl, by first | exact hE.ttl | rfl⟩), hkd, GG, kg1, kg2, kg3, (by simp only [partD, hc, stepD, hp2, hp3, cond_true, cond_false]; exact ⟨HO.tr, HO.ids, HO.val, HO.tx, HO.oids, HO.oval, HO.otx⟩)⟩⟩
  refine mv 25 (.bool true) (wpList_nil (then_n (wp_cond_true rfl (wp_region_lit (sv 27 (.pointer (some ⟨g1, 52, none⟩)) (run_fld 36 _ 6 rfl _ _ rfl _) (sv 28 (.agg (c27 f.fi f.fn)) (run_lda 27 _ rfl g1 52 2 rfl 36 _ kg1 _ Try.underlying27 rfl si27 _) (sv 29 (.pointer (some ⟨g3, 52, none⟩)) (run_fld 36 _ 6 rfl _ _ rfl _) ?_)))))))
  refine nr ?_; intro U h; simp only [z0, z1] at h; subst h
  refine s_store rfl rfl 27 _ _ rfl g3 52 rfl (.agg (c27 f.fi f.fn)) rfl 36 _ kg3 (c27 f.fi f.fn) rfl (by kernel_rfl) (Nat.le_of_ble_eq_true rfl) (by kernel_rfl) (c36 o.kind o.pw o.pn o.toA o.a o.b o.n f.fi f.fn o.ti o.tn o.tr o.ids o.key o.vn o.vw o.val o.op o.ttl o.tx) (by kernel_rfl) ?_
  intro w8 St
  replace kg1 := St.has (by omega) kg1
  replace kg2 := St.has (by omega) kg2
  replace HO := HO.stT St kg3
  replace GG := GG.store St bg3
  replace kg3 := St.new
  clear St
  refine wpList_nil (blk_n (blk_n (then_n (wp_region_lit (mv 20 (.int .i64 ((i : Nat) : Int)) (sv 21 (.int .i64 ((i + 1 : Nat) : Int)) (run_add64 _ _ _ rfl ((i : Nat) : Int) 1 _ rfl rfl (by omega) (by omega) (by omega) _) (mv 6 (.int .i64 ((i + 1 : Nat) : Int)) (wpList_nil (then_n ?_)))))))))
  exact ⟨_, (by omega : F.length - (i + 1) < F.length - i), i + 1, { kind := o.kind, pw := o.pw, pn := o.pn, toA := o.toA, a := o.a, b := o.b, n := o.n, fi := f.fi, fn := f.fn, ti := o.ti, tn := o.tn, tr := o.tr, ids := o.ids, key := o.key, vn := o.vn, vw := o.vw, val := o.val, op := o.op, ttl := o.ttl, tx := o.tx }, usB [16, 17, 18, 19, 20, 21, 22, 23, 24, 25, 26, 27, 28, 29, 30, 31, 32, 33, 34, 35, 36, 37, 38, 39, 40, 41, 42, 43, 44, 45, 46, 47, 48, 49, 50, 51, 52, 53, 54, 55, 56, 57, 58, 59, 60, 61, 62, 63, 64, 65, 66, 67, 68, 69, 70, 71, 72, 73, 74, 75, 76, 77, 78, 79, 80, 81, 82, 83, 84, 85, 86, 87, 88, 89, 90, 91, 92, 93, 94, 95, 96, 97, 98, 99, 100, 101, 102, 103, 104, 105, 106, 107, 108, 109, 110, 111, 112, 113, 114, 115, 116] rfl rfl ⟨hin, (by simp only [partF, hc, stepF, hp2, cond_true]; exact ⟨by first | exact hE.pw | rfl, by first | exact hE.pn | rfl, by first | exact hE.toA | rfl, by first | exact hE.a | rfl, by first | exact hE.b | rfl, by first | exact hE.n | rfl, by first | exact hE.fi | rfl, by first | exact hE.fn | rfl, by first | exact hE.ti | rfl, by first | exact hE.tn | rfl, by first | exact hE.key | rfl, by first | exact hE.vn | rfl, by first | exact hE.vw | rfl, by first | exact hE.op | rfl, by first | exact hE.ttl | rfl⟩), hkd, GG, kg1, kg2, kg3, (by simp only [partD, hc, stepD, hp2, cond_true]; exact ⟨HO.tr, HO.ids, HO.val, HO.tx, HO.oids, HO.oval, HO.otx⟩)⟩⟩
  have h6 : F = [63] := of_decide_eq_true hp0
  refine wpList_nil (then_n (wp_cond_true rfl (wp_seq (wp_region_lit (sv 12 (.agg (c36 0 zF 0 false zF zF 0 0 0 0 0 Sl.nil Sl.nil zF 0 zF Sl.nil 0 0 Sl.nil)) (run_bd 36 _ rfl [] rfl _ (by kernel_rfl)) ?_)))))
  refine s_store rfl rfl 36 _ _ rfl g2 0 rfl (.agg (c36 0 zF 0 false zF zF 0 0 0 0 0 Sl.nil Sl.nil zF 0 zF Sl.nil 0 0 Sl.nil)) rfl 36 _ kg2 (c36 0 zF 0 false zF zF 0 0 0 0 0 Sl.nil Sl.nil zF 0 zF Sl.nil 0 0 Sl.nil) rfl (by kernel_rfl) (Nat.le_of_ble_eq_true rfl) (by kernel_rfl) (c36 0 zF 0 false zF zF 0 0 0 0 0 Sl.nil Sl.nil zF 0 zF Sl.nil 0 0 Sl.nil) (by kernel_rfl) ?_
  intro w5 St
  replace kg1 := St.has (by omega) kg1
  replace GG := GG.store St bg2
  replace kg2 := St.new
  clear St
  refine mv 3 (.bool false) ?_
  refine nr ?_; intro U h; simp only [z0, z1] at h; subst h
  refine wpList_nil (then_n (wp_ret (then_r ?_)))
  refine bodyPost_ret (results_cell_tmp Try.results17 _ _ g2 36 _ (0, 0) _ rfl (.bool false) rfl kg2 Try.underlying36 rfl (by kernel_rfl)) rfl ?_
  exact ⟨fun _ => ⟨rfl, GG⟩, fun h => absurd h6 h⟩
end Go.Proofs.Ythmcnlmphikicaa
