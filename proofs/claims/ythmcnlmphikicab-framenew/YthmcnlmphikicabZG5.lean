/- Whether a frame has nothing beside what counts (frame.onlyWhatCounts). -/
import Derived.Test.YthmcnlmphikicabZG3
namespace Go.Proofs.Ythmcnlmphikicab
open Go.RowKit
/-! ### Regions whose operations are not looked at again -/
def yv (T : Array Value) (d : Nat) : Option Bool :=
  match T[d]? with
  | some (.bool b) => some b
  | _ => none
theorem yielded_yv {l : List Oper} {j d : Nat} (h : (l[j]?).bind (·.dst) = some d) (T : Array Value) : yielded l.toArray T j = yv T d := by
  unfold yielded yv
  have : ((l.toArray[j]?).bind (·.dst)) = some d := by simpa using h
  rw [this]
  rfl
theorem wp_region_opq {P : Program} {id : Nat} {l : List Oper} {Q : Exit → Act → World → Prop} {a : Act} {w : World} (h : ∀ OPS : Array Oper, (∀ j d, (l[j]?).bind (·.dst) = some d → ∀ T, yielded OPS T j = yv T d) → wpList P OPS Q l a w) : (Code.region id l.toArray false).wp P Q a w :=
  wp_region_lit (h l.toArray fun _ _ hd T => yielded_yv hd T)
section
variable {P : Program} {ops : Array Oper} {rest : List Oper} {o : Oper} {T : List Value} {ds : List Deferred} {w : World} {Q : Exit → Act → World → Prop}
theorem wanted_yv {gi d : Nat} {b r : Bool} (hg : o.guard = some (gi, b)) (y : ∀ T, yielded ops T gi = yv T d) (hv : (yv T.toArray d == some b) = r) : Region.wanted o (yielded ops T.toArray) = r := by
  unfold Region.wanted
  rw [hg]
  show (yielded ops T.toArray gi == some b) = r
  rw [y]
  exact hv
theorem s_skipY {gi d : Nat} {b : Bool} (dst : Nat) (hd : o.dst = some dst) (hg : o.guard = some (gi, b)) (y : ∀ T, yielded ops T gi = yv T d) (hv : (yv T.toArray d == some b) = false)
    (h : wpList P ops Q rest ⟨(T.set dst undef).toArray, ds⟩ w) : wpList P ops Q (o :: rest) ⟨T.toArray, ds⟩ w := s_skip dst hd (wanted_yv hg y hv) h
theorem s_gvalY {gi d : Nat} {b : Bool} (dst : Nat) (hd : o.dst = some dst) (hg : o.guard = some (gi, b)) (y : ∀ T, yielded ops T gi = yv T d) (hv : (yv T.toArray d == some b) = true) (v : Value) (he : (execOp (Act.eval ⟨T.toArray, ds⟩) o).run P w = .ok (.value v) w)
    (h : wpList P ops Q rest ⟨(T.set dst v).toArray, ds⟩ w) : wpList P ops Q (o :: rest) ⟨T.toArray, ds⟩ w := s_gval dst hd (wanted_yv hg y hv) v he h
theorem s_gcallvY {gi d : Nat} {b : Bool} (dst : Nat) (hd : o.dst = some dst) (hg : o.guard = some (gi, b)) (y : ∀ T, yielded ops T gi = yv T d) (hv : (yv T.toArray d == some b) = true) (c : Call) (f : FuncId) (hen : ∀ args w, (callFunc f args).run P w = .ok (.enter f args) w) (ho : o.op = .call c) (hc : c.callee = .value (.func f)) (xs : List Operand) (hxs : c.args = xs.toArray) (vs : List Value) (hvs : xs.map (Act.eval ⟨T.toArray, ds⟩) = vs)
    {v : Value} {R : World → Prop} (H : Calls P f vs.toArray w fun e w' => e = .returned v ∧ R w')
    (h : ∀ w', R w' → wpList P ops Q rest ⟨(T.set dst v).toArray, ds⟩ w') : wpList P ops Q (o :: rest) ⟨T.toArray, ds⟩ w := s_gcallv dst hd (wanted_yv hg y hv) c f hen ho hc xs hxs vs hvs H h
end
set_option maxRecDepth 100000 in
set_option maxHeartbeats 4000000 in
theorem only_gen (b : Value) (f g : Fr) (df dg : FD) (w : World) (Hf : ∀ w, Calls Try.prog 17 #[b] w fun e w' => e = .returned (.tuple #[.agg (c36 g.kind g.pw g.pn g.toA g.a g.b g.n g.fi g.fn g.ti g.tn g.tr g.ids g.key g.vn g.vw g.val g.op g.ttl g.tx), .bool true]) ∧ Gro w w') (HF : FrW w f df) (HG : FrW w g dg) (hl1 : df.tr.length ≤ 140737488355000) (hl2 : df.ids.length ≤ 140737488355000) : Calls Try.prog 21 #[.agg (frA f), b] w fun e w' => e = .returned (.bool (sameB f g df dg)) ∧ Gro w w' := by
  show Calls Try.prog 21 #[.agg (c36 f.kind f.pw f.pn f.toA f.a f.b f.n f.fi f.fn f.ti f.tn f.tr f.ids f.key f.vn f.vw f.val f.op f.ttl f.tx), b] w _
  refine s_enterR Try.func21 rfl Try.ntmps21 [.agg (c36 f.kind f.pw f.pn f.toA f.a f.b f.n f.fi f.fn f.ti f.tn f.tr f.ids f.key f.vn f.vw f.val f.op f.ttl f.tx), b] ?_
  intro U h; simp only [List.length_cons, List.length_nil, List.cons_append, List.nil_append, Nat.reduceAdd, Nat.reduceSub, List.reduceReplicate] at h; subst h
  have GG := Gro.refl w
  refine wp_seq (wp_region_lit ?_)
  refine s_box 2 rfl rfl 40 _ rfl _ rfl (c36 f.kind f.pw f.pn f.toA f.a f.b f.n f.fi f.fn f.ti f.tn f.tr f.ids f.key f.vn f.vw f.val f.op f.ttl f.tx) rfl ?_
  intro w1 g1 G eg1 kg1
  have bg1 := size_base GG eg1
  replace GG := GG.trans G
  clear G eg1
  refine mv 4 (.bool false) (wpList_nil (then_n (wp_seq (wp_region_lit (mv 8 (b) ?_)))))
  refine nr ?_; intro U h; simp only [z0, z1] at h; subst h
  refine s_callv 9 rfl rfl _ 17 Try.call17 rfl rfl _ rfl [b] rfl (Hf _) ?_
  intro w2 G
  replace kg1 := G.has kg1
  replace GG := GG.trans G
  clear G
  refine mv 7 (.tuple #[.agg (c36 g.kind g.pw g.pn g.toA g.a g.b g.n g.fi g.fn g.ti g.tn g.tr g.ids g.key g.vn g.vw g.val g.op g.ttl g.tx), .bool true]) (mv 10 (.agg (c36 g.kind g.pw g.pn g.toA g.a g.b g.n g.fi g.fn g.ti g.tn g.tr g.ids g.key g.vn g.vw g.val g.op g.ttl g.tx)) ?_)
  refine nr ?_; intro U h; simp only [z0, z1] at h; subst h
  refine mv 11 (.bool true) ?_
  refine s_alloc 5 rfl rfl 40 rfl _ zv36 _ rfl ?_
  intro w3 g2 G eg2 kg2
  have bg2 := size_base GG eg2
  have dg1g2 := lt_new kg1 eg2
  replace kg1 := G.has kg1
  replace GG := GG.trans G
  clear G eg2
  refine s_store rfl rfl 40 _ _ rfl g2 0 rfl (.agg (c36 g.kind g.pw g.pn g.toA g.a g.b g.n g.fi g.fn g.ti g.tn g.tr g.ids g.key g.vn g.vw g.val g.op g.ttl g.tx)) rfl 40 _ kg2 (c36 g.kind g.pw g.pn g.toA g.a g.b g.n g.fi g.fn g.ti g.tn g.tr g.ids g.key g.vn g.vw g.val g.op g.ttl g.tx) rfl (by kernel_rfl) (Nat.le_of_ble_eq_true rfl) (by kernel_rfl) (c36 g.kind g.pw g.pn g.toA g.a g.b g.n g.fi g.fn g.ti g.tn g.tr g.ids g.key g.vn g.vw g.val g.op g.ttl g.tx) (by kernel_rfl) ?_
  intro w5 S
  replace kg1 := S.has (by omega) kg1
  replace GG := GG.store S bg2
  replace kg2 := S.new
  clear S
  refine mv 6 (.bool true) ?_
  refine nr ?_; intro U h; simp only [z0, z1] at h; subst h
  refine wpList_nil (then_n (wp_seq ?_))
  refine wp_region_opq ?_
  simp only [List.append]
  intro OPS hY
  have y1 := hY 1 13 rfl
  have y8 := hY 8 20 rfl
  have y15 := hY 15 27 rfl
  have y22 := hY 22 34 rfl
  have y29 := hY 29 41 rfl
  have y36 := hY 36 48 rfl
  have y43 := hY 43 55 rfl
  have y50 := hY 50 62 rfl
  have y57 := hY 57 69 rfl
  have y64 := hY 64 76 rfl
  have y71 := hY 71 83 rfl
  have y78 := hY 78 90 rfl
  have y85 := hY 85 97 rfl
  have y94 := hY 94 106 rfl
  have y103 := hY 103 115 rfl
  clear hY
  refine mv 12 (.bool true) (mv 13 (.bool true) (s_gvalY 14 rfl rfl y1 rfl (.pointer (some ⟨g1, 1, none⟩)) (run_fld 40 _ 1 rfl _ _ rfl _) ?_))
  refine nr ?_; intro U h; simp only [z0, z1] at h; subst h
  refine s_gvalY 15 rfl rfl y1 rfl (.agg (c25 f.pw f.pn)) (run_lda 29 _ rfl g1 1 17 rfl 40 _ kg1 _ Try.underlying29 rfl si25 _) (s_gvalY 16 rfl rfl y1 rfl (.pointer (some ⟨g2, 1, none⟩)) (run_fld 40 _ 1 rfl _ _ rfl _) (s_gvalY 17 rfl rfl y1 rfl (.agg (c25 g.pw g.pn)) (run_lda 29 _ rfl g2 1 17 rfl 40 _ kg2 _ Try.underlying29 rfl si25 _) ?_))
  refine nr ?_; intro U h; simp only [z0, z1] at h; subst h
  obtain ⟨p1, hp1⟩ : ∃ p, (decide (idL f.pw = idL g.pw) && decide (f.pn = g.pn)) = p := ⟨_, rfl⟩
  refine s_gvalY 18 rfl rfl y1 rfl (.bool p1) (run_cmpA .eql 29 _ _ _ rfl _ _ rfl rfl (by kernel_rfl) _ ((eq25 f.pw g.pw f.pn g.pn _).trans (by rw [hp1]))) ?_
  refine nr ?_; intro U h; simp only [z0, z1] at h; subst h
  cases p1
  refine s_val _ rfl rfl (.bool false) rfl ?_
  refine s_val _ rfl rfl (.bool false) rfl ?_
  refine nr ?_; intro U h; simp only [z0, z1] at h; subst h
  iterate 5 (refine s_skipY _ rfl rfl y8 rfl ?_; refine nr ?_; intro U h; simp only [z0, z1] at h; subst h)
  refine s_val _ rfl rfl (.bool false) rfl ?_
  refine s_val _ rfl rfl (.bool false) rfl ?_
  refine nr ?_; intro U h; simp only [z0, z1] at h; subst h
  iterate 5 (refine s_skipY _ rfl rfl y15 rfl ?_; refine nr ?_; intro U h; simp only [z0, z1] at h; subst h)
  refine s_val _ rfl rfl (.bool false) rfl ?_
  refine s_val _ rfl rfl (.bool false) rfl ?_
  refine nr ?_; intro U h; simp only [z0, z1] at h; subst h
  iterate 5 (refine s_skipY _ rfl rfl y22 rfl ?_; refine nr ?_; intro U h; simp only [z0, z1] at h; subst h)
  refine s_val _ rfl rfl (.bool false) rfl ?_
  refine s_val _ rfl rfl (.bool false) rfl ?_
  refine nr ?_; intro U h; simp only [z0, z1] at h; subst h
  iterate 5 (refine s_skipY _ rfl rfl y29 rfl ?_; refine nr ?_; intro U h; simp only [z0, z1] at h; subst h)
  refine s_val _ rfl rfl (.bool false) rfl ?_
  refine s_val _ rfl rfl (.bool false) rfl ?_
  refine nr ?_; intro U h; simp only [z0, z1] at h; subst h
  iterate 5 (refine s_skipY _ rfl rfl y36 rfl ?_; refine nr ?_; intro U h; simp only [z0, z1] at h; subst h)
  refine s_val _ rfl rfl (.bool false) rfl ?_
  refine s_val _ rfl rfl (.bool false) rfl ?_
  refine nr ?_; intro U h; simp only [z0, z1] at h; subst h
  iterate 5 (refine s_skipY _ rfl rfl y43 rfl ?_; refine nr ?_; intro U h; simp only [z0, z1] at h; subst h)
  refine s_val _ rfl rfl (.bool false) rfl ?_
  refine s_val _ rfl rfl (.bool false) rfl ?_
  refine nr ?_; intro U h; simp only [z0, z1] at h; subst h
  iterate 5 (refine s_skipY _ rfl rfl y50 rfl ?_; refine nr ?_; intro U h; simp only [z0, z1] at h; subst h)
  refine s_val _ rfl rfl (.bool false) rfl ?_
  refine s_val _ rfl rfl (.bool false) rfl ?_
  refine nr ?_; intro U h; simp only [z0, z1] at h; subst h
  iterate 5 (refine s_skipY _ rfl rfl y57 rfl ?_; refine nr ?_; intro U h; simp only [z0, z1] at h; subst h)
  refine s_val _ rfl rfl (.bool false) rfl ?_
  refine s_val _ rfl rfl (.bool false) rfl ?_
  refine nr ?_; intro U h; simp only [z0, z1] at h; subst h
  iterate 5 (refine s_skipY _ rfl rfl y64 rfl ?_; refine nr ?_; intro U h; simp only [z0, z1] at h; subst h)
  refine s_val _ rfl rfl (.bool false) rfl ?_
  refine s_val _ rfl rfl (.bool false) rfl ?_
  refine nr ?_; intro U h; simp only [z0, z1] at h; subst h
  iterate 5 (refine s_skipY _ rfl rfl y71 rfl ?_; refine nr ?_; intro U h; simp only [z0, z1] at h; subst h)
  refine s_val _ rfl rfl (.bool false) rfl ?_
  refine s_val _ rfl rfl (.bool false) rfl ?_
  refine nr ?_; intro U h; simp only [z0, z1] at h; subst h
  iterate 5 (refine s_skipY _ rfl rfl y78 rfl ?_; refine nr ?_; intro U h; simp only [z0, z1] at h; subst h)
  refine s_val _ rfl rfl (.bool false) rfl ?_
  refine s_val _ rfl rfl (.bool false) rfl ?_
  refine nr ?_; intro U h; simp only [z0, z1] at h; subst h
  iterate 7 (refine s_skipY _ rfl rfl y85 rfl ?_; refine nr ?_; intro U h; simp only [z0, z1] at h; subst h)
  refine s_val _ rfl rfl (.bool false) rfl ?_
  refine s_val _ rfl rfl (.bool false) rfl ?_
  refine nr ?_; intro U h; simp only [z0, z1] at h; subst h
  iterate 7 (refine s_skipY _ rfl rfl y94 rfl ?_; refine nr ?_; intro U h; simp only [z0, z1] at h; subst h)
  refine s_val _ rfl rfl (.bool false) rfl ?_
  refine s_val _ rfl rfl (.bool false) rfl ?_
  refine nr ?_; intro U h; simp only [z0, z1] at h; subst h
  iterate 7 (refine s_skipY _ rfl rfl y103 rfl ?_; refine nr ?_; intro U h; simp only [z0, z1] at h; subst h)
  refine s_val _ rfl rfl (.bool false) rfl ?_
  refine s_val _ rfl rfl (.bool false) rfl ?_
  refine wpList_nil (then_n (wp_ret ?_))
  refine bodyPost_ret (results_tmp Try.results21 _ _ _) rfl ?_
  refine ⟨?_, GG⟩
  show Ending.returned (.bool false) = _
  unfold sameB
  rw [hp1]
  first | done | rfl
  refine mv 19 (.bool true) ?_
  refine nr ?_; intro U h; simp only [z0, z1] at h; subst h
  refine mv 20 (.bool true) (s_gvalY 21 rfl rfl y8 rfl (.pointer (some ⟨g1, 18, none⟩)) (run_fld 40 _ 2 rfl _ _ rfl _) (s_gvalY 22 rfl rfl y8 rfl (.bool f.toA) (run_ldc 4 _ rfl g1 18 rfl 40 _ kg1 (na4 _) _ rfl) ?_))
  refine nr ?_; intro U h; simp only [z0, z1] at h; subst h
  refine s_gvalY 23 rfl rfl y8 rfl (.pointer (some ⟨g2, 18, none⟩)) (run_fld 40 _ 2 rfl _ _ rfl _) (s_gvalY 24 rfl rfl y8 rfl (.bool g.toA) (run_ldc 4 _ rfl g2 18 rfl 40 _ kg2 (na4 _) _ rfl) ?_)
  refine nr ?_; intro U h; simp only [z0, z1] at h; subst h
  obtain ⟨p2, hp2⟩ : ∃ p, decide (f.toA = g.toA) = p := ⟨_, rfl⟩
  refine s_gvalY 25 rfl rfl y8 rfl (.bool p2) (run_eqB 4 _ _ _ rfl f.toA g.toA rfl rfl Try.underlying4 p2 hp2 _) ?_
  refine nr ?_; intro U h; simp only [z0, z1] at h; subst h
  cases p2
  refine s_val _ rfl rfl (.bool false) rfl ?_
  refine s_val _ rfl rfl (.bool false) rfl ?_
  refine nr ?_; intro U h; simp only [z0, z1] at h; subst h
  iterate 5 (refine s_skipY _ rfl rfl y15 rfl ?_; refine nr ?_; intro U h; simp only [z0, z1] at h; subst h)
  refine s_val _ rfl rfl (.bool false) rfl ?_
  refine s_val _ rfl rfl (.bool false) rfl ?_
  refine nr ?_; intro U h; simp only [z0, z1] at h; subst h
  iterate 5 (refine s_skipY _ rfl rfl y22 rfl ?_; refine nr ?_; intro U h; simp only [z0, z1] at h; subst h)
  refine s_val _ rfl rfl (.bool false) rfl ?_
  refine s_val _ rfl rfl (.bool false) rfl ?_
  refine nr ?_; intro U h; simp only [z0, z1] at h; subst h
  iterate 5 (refine s_skipY _ rfl rfl y29 rfl ?_; refine nr ?_; intro U h; simp only [z0, z1] at h; subst h)
  refine s_val _ rfl rfl (.bool false) rfl ?_
  refine s_val _ rfl rfl (.bool false) rfl ?_
  refine nr ?_; intro U h; simp only [z0, z1] at h; subst h
  iterate 5 (refine s_skipY _ rfl rfl y36 rfl ?_; refine nr ?_; intro U h; simp only [z0, z1] at h; subst h)
  refine s_val _ rfl rfl (.bool false) rfl ?_
  refine s_val _ rfl rfl (.bool false) rfl ?_
  refine nr ?_; intro U h; simp only [z0, z1] at h; subst h
  iterate 5 (refine s_skipY _ rfl rfl y43 rfl ?_; refine nr ?_; intro U h; simp only [z0, z1] at h; subst h)
  refine s_val _ rfl rfl (.bool false) rfl ?_
  refine s_val _ rfl rfl (.bool false) rfl ?_
  refine nr ?_; intro U h; simp only [z0, z1] at h; subst h
  iterate 5 (refine s_skipY _ rfl rfl y50 rfl ?_; refine nr ?_; intro U h; simp only [z0, z1] at h; subst h)
  refine s_val _ rfl rfl (.bool false) rfl ?_
  refine s_val _ rfl rfl (.bool false) rfl ?_
  refine nr ?_; intro U h; simp only [z0, z1] at h; subst h
  iterate 5 (refine s_skipY _ rfl rfl y57 rfl ?_; refine nr ?_; intro U h; simp only [z0, z1] at h; subst h)
  refine s_val _ rfl rfl (.bool false) rfl ?_
  refine s_val _ rfl rfl (.bool false) rfl ?_
  refine nr ?_; intro U h; simp only [z0, z1] at h; subst h
  iterate 5 (refine s_skipY _ rfl rfl y64 rfl ?_; refine nr ?_; intro U h; simp only [z0, z1] at h; subst h)
  refine s_val _ rfl rfl (.bool false) rfl ?_
  refine s_val _ rfl rfl (.bool false) rfl ?_
  refine nr ?_; intro U h; simp only [z0, z1] at h; subst h
  iterate 5 (refine s_skipY _ rfl rfl y71 rfl ?_; refine nr ?_; intro U h; simp only [z0, z1] at h; subst h)
  refine s_val _ rfl rfl (.bool false) rfl ?_
  refine s_val _ rfl rfl (.bool false) rfl ?_
  refine nr ?_; intro U h; simp only [z0, z1] at h; subst h
  iterate 5 (refine s_skipY _ rfl rfl y78 rfl ?_; refine nr ?_; intro U h; simp only [z0, z1] at h; subst h)
  refine s_val _ rfl rfl (.bool false) rfl ?_
  refine s_val _ rfl rfl (.bool false) rfl ?_
  refine nr ?_; intro U h; simp only [z0, z1] at h; subst h
  iterate 7 (refine s_skipY _ rfl rfl y85 rfl ?_; refine nr ?_; intro U h; simp only [z0, z1] at h; subst h)
  refine s_val _ rfl rfl (.bool false) rfl ?_
  refine s_val _ rfl rfl (.bool false) rfl ?_
  refine nr ?_; intro U h; simp only [z0, z1] at h; subst h
  iterate 7 (refine s_skipY _ rfl rfl y94 rfl ?_; refine nr ?_; intro U h; simp only [z0, z1] at h; subst h)
  refine s_val _ rfl rfl (.bool false) rfl ?_
  refine s_val _ rfl rfl (.bool false) rfl ?_
  refine nr ?_; intro U h; simp only [z0, z1] at h; subst h
  iterate 7 (refine s_skipY _ rfl rfl y103 rfl ?_; refine nr ?_; intro U h; simp only [z0, z1] at h; subst h)
  refine s_val _ rfl rfl (.bool false) rfl ?_
  refine s_val _ rfl rfl (.bool false) rfl ?_
  refine wpList_nil (then_n (wp_ret ?_))
  refine bodyPost_ret (results_tmp Try.results21 _ _ _) rfl ?_
  refine ⟨?_, GG⟩
  show Ending.returned (.bool false) = _
  unfold sameB
  rw [hp1, hp2]
  first | done | rfl
  refine mv 26 (.bool true) ?_
  refine nr ?_; intro U h; simp only [z0, z1] at h; subst h
  refine mv 27 (.bool true) (s_gvalY 28 rfl rfl y15 rfl (.pointer (some ⟨g1, 19, none⟩)) (run_fld 40 _ 3 rfl _ _ rfl _) (s_gvalY 29 rfl rfl y15 rfl (.agg (c23 f.a)) (run_lda 27 _ rfl g1 19 16 rfl 40 _ kg1 _ Try.underlying27 rfl si23 _) ?_))
  refine nr ?_; intro U h; simp only [z0, z1] at h; subst h
  refine s_gvalY 30 rfl rfl y15 rfl (.pointer (some ⟨g2, 19, none⟩)) (run_fld 40 _ 3 rfl _ _ rfl _) (s_gvalY 31 rfl rfl y15 rfl (.agg (c23 g.a)) (run_lda 27 _ rfl g2 19 16 rfl 40 _ kg2 _ Try.underlying27 rfl si23 _) ?_)
  refine nr ?_; intro U h; simp only [z0, z1] at h; subst h
  obtain ⟨p3, hp3⟩ : ∃ p, decide (idL f.a = idL g.a) = p := ⟨_, rfl⟩
  refine s_gvalY 32 rfl rfl y15 rfl (.bool p3) (run_cmpA .eql 27 _ _ _ rfl _ _ rfl rfl (by kernel_rfl) _ ((eq23 f.a g.a _).trans (by rw [hp3]))) ?_
  refine nr ?_; intro U h; simp only [z0, z1] at h; subst h
  cases p3
  refine s_val _ rfl rfl (.bool false) rfl ?_
  refine s_val _ rfl rfl (.bool false) rfl ?_
  refine nr ?_; intro U h; simp only [z0, z1] at h; subst h
  iterate 5 (refine s_skipY _ rfl rfl y22 rfl ?_; refine nr ?_; intro U h; simp only [z0, z1] at h; subst h)
  refine s_val _ rfl rfl (.bool false) rfl ?_
  refine s_val _ rfl rfl (.bool false) rfl ?_
  refine nr ?_; intro U h; simp only [z0, z1] at h; subst h
  iterate 5 (refine s_skipY _ rfl rfl y29 rfl ?_; refine nr ?_; intro U h; simp only [z0, z1] at h; subst h)
  refine s_val _ rfl rfl (.bool false) rfl ?_
  refine s_val _ rfl rfl (.bool false) rfl ?_
  refine nr ?_; intro U h; simp only [z0, z1] at h; subst h
  iterate 5 (refine s_skipY _ rfl rfl y36 rfl ?_; refine nr ?_; intro U h; simp only [z0, z1] at h; subst h)
  refine s_val _ rfl rfl (.bool false) rfl ?_
  refine s_val _ rfl rfl (.bool false) rfl ?_
  refine nr ?_; intro U h; simp only [z0, z1] at h; subst h
  iterate 5 (refine s_skipY _ rfl rfl y43 rfl ?_; refine nr ?_; intro U h; simp only [z0, z1] at h; subst h)
  refine s_val _ rfl rfl (.bool false) rfl ?_
  refine s_val _ rfl rfl (.bool false) rfl ?_
  refine nr ?_; intro U h; simp only [z0, z1] at h; subst h
  iterate 5 (refine s_skipY _ rfl rfl y50 rfl ?_; refine nr ?_; intro U h; simp only [z0, z1] at h; subst h)
  refine s_val _ rfl rfl (.bool false) rfl ?_
  refine s_val _ rfl rfl (.bool false) rfl ?_
  refine nr ?_; intro U h; simp only [z0, z1] at h; subst h
  iterate 5 (refine s_skipY _ rfl rfl y57 rfl ?_; refine nr ?_; intro U h; simp only [z0, z1] at h; subst h)
  refine s_val _ rfl rfl (.bool false) rfl ?_
  refine s_val _ rfl rfl (.bool false) rfl ?_
  refine nr ?_; intro U h; simp only [z0, z1] at h; subst h
  iterate 5 (refine s_skipY _ rfl rfl y64 rfl ?_; refine nr ?_; intro U h; simp only [z0, z1] at h; subst h)
  refine s_val _ rfl rfl (.bool false) rfl ?_
  refine s_val _ rfl rfl (.bool false) rfl ?_
  refine nr ?_; intro U h; simp only [z0, z1] at h; subst h
  iterate 5 (refine s_skipY _ rfl rfl y71 rfl ?_; refine nr ?_; intro U h; simp only [z0, z1] at h; subst h)
  refine s_val _ rfl rfl (.bool false) rfl ?_
  refine s_val _ rfl rfl (.bool false) rfl ?_
  refine nr ?_; intro U h; simp only [z0, z1] at h; subst h
  iterate 5 (refine s_skipY _ rfl rfl y78 rfl ?_; refine nr ?_; intro U h; simp only [z0, z1] at h; subst h)
  refine s_val _ rfl rfl (.bool false) rfl ?_
  refine s_val _ rfl rfl (.bool false) rfl ?_
  refine nr ?_; intro U h; simp only [z0, z1] at h; subst h
  iterate 7 (refine s_skipY _ rfl rfl y85 rfl ?_; refine nr ?_; intro U h; simp only [z0, z1] at h; subst h)
  refine s_val _ rfl rfl (.bool false) rfl ?_
  refine s_val _ rfl rfl (.bool false) rfl ?_
  refine nr ?_; intro U h; simp only [z0, z1] at h; subst h
  iterate 7 (refine s_skipY _ rfl rfl y94 rfl ?_; refine nr ?_; intro U h; simp only [z0, z1] at h; subst h)
  refine s_val _ rfl rfl (.bool false) rfl ?_
  refine s_val _ rfl rfl (.bool false) rfl ?_
  refine nr ?_; intro U h; simp only [z0, z1] at h; subst h
  iterate 7 (refine s_skipY _ rfl rfl y103 rfl ?_; refine nr ?_; intro U h; simp only [z0, z1] at h; subst h)
  refine s_val _ rfl rfl (.bool false) rfl ?_
  refine s_val _ rfl rfl (.bool false) rfl ?_
  refine wpList_nil (then_n (wp_ret ?_))
  refine bodyPost_ret (results_tmp Try.results21 _ _ _) rfl ?_
  refine ⟨?_, GG⟩
  show Ending.returned (.bool false) = _
  unfold sameB
  rw [hp1, hp2, hp3]
  first | done | rfl
  refine mv 33 (.bool true) ?_
  refine nr ?_; intro U h; simp only [z0, z1] at h; subst h
  refine mv 34 (.bool true) (s_gvalY 35 rfl rfl y22 rfl (.pointer (some ⟨g1, 35, none⟩)) (run_fld 40 _ 4 rfl _ _ rfl _) (s_gvalY 36 rfl rfl y22 rfl (.agg (c23 f.b)) (run_lda 27 _ rfl g1 35 16 rfl 40 _ kg1 _ Try.underlying27 rfl si23 _) ?_))
  refine nr ?_; intro U h; simp only [z0, z1] at h; subst h
  refine s_gvalY 37 rfl rfl y22 rfl (.pointer (some ⟨g2, 35, none⟩)) (run_fld 40 _ 4 rfl _ _ rfl _) (s_gvalY 38 rfl rfl y22 rfl (.agg (c23 g.b)) (run_lda 27 _ rfl g2 35 16 rfl 40 _ kg2 _ Try.underlying27 rfl si23 _) ?_)
  refine nr ?_; intro U h; simp only [z0, z1] at h; subst h
  obtain ⟨p4, hp4⟩ : ∃ p, decide (idL f.b = idL g.b) = p := ⟨_, rfl⟩
  refine s_gvalY 39 rfl rfl y22 rfl (.bool p4) (run_cmpA .eql 27 _ _ _ rfl _ _ rfl rfl (by kernel_rfl) _ ((eq23 f.b g.b _).trans (by rw [hp4]))) ?_
  refine nr ?_; intro U h; simp only [z0, z1] at h; subst h
  cases p4
  refine s_val _ rfl rfl (.bool false) rfl ?_
  refine s_val _ rfl rfl (.bool false) rfl ?_
  refine nr ?_; intro U h; simp only [z0, z1] at h; subst h
  iterate 5 (refine s_skipY _ rfl rfl y29 rfl ?_; refine nr ?_; intro U h; simp only [z0, z1] at h; subst h)
  refine s_val _ rfl rfl (.bool false) rfl ?_
  refine s_val _ rfl rfl (.bool false) rfl ?_
  refine nr ?_; intro U h; simp only [z0, z1] at h; subst h
  iterate 5 (refine s_skipY _ rfl rfl y36 rfl ?_; refine nr ?_; intro U h; simp only [z0, z1] at h; subst h)
  refine s_val _ rfl rfl (.bool false) rfl ?_
  refine s_val _ rfl rfl (.bool false) rfl ?_
  refine nr ?_; intro U h; simp only [z0, z1] at h; subst h
  iterate 5 (refine s_skipY _ rfl rfl y43 rfl ?_; refine nr ?_; intro U h; simp only [z0, z1] at h; subst h)
  refine s_val _ rfl rfl (.bool false) rfl ?_
  refine s_val _ rfl rfl (.bool false) rfl ?_
  refine nr ?_; intro U h; simp only [z0, z1] at h; subst h
  iterate 5 (refine s_skipY _ rfl rfl y50 rfl ?_; refine nr ?_; intro U h; simp only [z0, z1] at h; subst h)
  refine s_val _ rfl rfl (.bool false) rfl ?_
  refine s_val _ rfl rfl (.bool false) rfl ?_
  refine nr ?_; intro U h; simp only [z0, z1] at h; subst h
  iterate 5 (refine s_skipY _ rfl rfl y57 rfl ?_; refine nr ?_; intro U h; simp only [z0, z1] at h; subst h)
  refine s_val _ rfl rfl (.bool false) rfl ?_
  refine s_val _ rfl rfl (.bool false) rfl ?_
  refine nr ?_; intro U h; simp only [z0, z1] at h; subst h
  iterate 5 (refine s_skipY _ rfl rfl y64 rfl ?_; refine nr ?_; intro U h; simp only [z0, z1] at h; subst h)
  refine s_val _ rfl rfl (.bool false) rfl ?_
  refine s_val _ rfl rfl (.bool false) rfl ?_
  refine nr ?_; intro U h; simp only [z0, z1] at h; subst h
  iterate 5 (refine s_skipY _ rfl rfl y71 rfl ?_; refine nr ?_; intro U h; simp only [z0, z1] at h; subst h)
  refine s_val _ rfl rfl (.bool false) rfl ?_
  refine s_val _ rfl rfl (.bool false) rfl ?_
  refine nr ?_; intro U h; simp only [z0, z1] at h; subst h
  iterate 5 (refine s_skipY _ rfl rfl y78 rfl ?_; refine nr ?_; intro U h; simp only [z0, z1] at h; subst h)
  refine s_val _ rfl rfl (.bool false) rfl ?_
  refine s_val _ rfl rfl (.bool false) rfl ?_
  refine nr ?_; intro U h; simp only [z0, z1] at h; subst h
  iterate 7 (refine s_skipY _ rfl rfl y85 rfl ?_; refine nr ?_; intro U h; simp only [z0, z1] at h; subst h)
  refine s_val _ rfl rfl (.bool false) rfl ?_
  refine s_val _ rfl rfl (.bool false) rfl ?_
  refine nr ?_; intro U h; simp only [z0, z1] at h; subst h
  iterate 7 (refine s_skipY _ rfl rfl y94 rfl ?_; refine nr ?_; intro U h; simp only [z0, z1] at h; subst h)
  refine s_val _ rfl rfl (.bool false) rfl ?_
  refine s_val _ rfl rfl (.bool false) rfl ?_
  refine nr ?_; intro U h; simp only [z0, z1] at h; subst h
  iterate 7 (refine s_skipY _ rfl rfl y103 rfl ?_; refine nr ?_; intro U h; simp only [z0, z1] at h; subst h)
  refine s_val _ rfl rfl (.bool false) rfl ?_
  refine s_val _ rfl rfl (.bool false) rfl ?_
  refine wpList_nil (then_n (wp_ret ?_))
  refine bodyPost_ret (results_tmp Try.results21 _ _ _) rfl ?_
  refine ⟨?_, GG⟩
  show Ending.returned (.bool false) = _
  unfold sameB
  rw [hp1, hp2, hp3, hp4]
  first | done | rfl
  refine mv 40 (.bool true) ?_
  refine nr ?_; intro U h; simp only [z0, z1] at h; subst h
  refine mv 41 (.bool true) (s_gvalY 42 rfl rfl y29 rfl (.pointer (some ⟨g1, 51, none⟩)) (run_fld 40 _ 5 rfl _ _ rfl _) (s_gvalY 43 rfl rfl y29 rfl (.int .i64 f.n) (run_ldc 2 _ rfl g1 51 rfl 40 _ kg1 (na2 _) _ rfl) ?_))
  refine nr ?_; intro U h; simp only [z0, z1] at h; subst h
  refine s_gvalY 44 rfl rfl y29 rfl (.pointer (some ⟨g2, 51, none⟩)) (run_fld 40 _ 5 rfl _ _ rfl _) (s_gvalY 45 rfl rfl y29 rfl (.int .i64 g.n) (run_ldc 2 _ rfl g2 51 rfl 40 _ kg2 (na2 _) _ rfl) ?_)
  refine nr ?_; intro U h; simp only [z0, z1] at h; subst h
  obtain ⟨p5, hp5⟩ : ∃ p, decide (f.n = g.n) = p := ⟨_, rfl⟩
  refine s_gvalY 46 rfl rfl y29 rfl (.bool p5) (run_eq_k 2 .i64 _ _ _ rfl Try.underlying2 f.n g.n rfl rfl p5 hp5 _) ?_
  refine nr ?_; intro U h; simp only [z0, z1] at h; subst h
  cases p5
  refine s_val _ rfl rfl (.bool false) rfl ?_
  refine s_val _ rfl rfl (.bool false) rfl ?_
  refine nr ?_; intro U h; simp only [z0, z1] at h; subst h
  iterate 5 (refine s_skipY _ rfl rfl y36 rfl ?_; refine nr ?_; intro U h; simp only [z0, z1] at h; subst h)
  refine s_val _ rfl rfl (.bool false) rfl ?_
  refine s_val _ rfl rfl (.bool false) rfl ?_
  refine nr ?_; intro U h; simp only [z0, z1] at h; subst h
  iterate 5 (refine s_skipY _ rfl rfl y43 rfl ?_; refine nr ?_; intro U h; simp only [z0, z1] at h; subst h)
  refine s_val _ rfl rfl (.bool false) rfl ?_
  refine s_val _ rfl rfl (.bool false) rfl ?_
  refine nr ?_; intro U h; simp only [z0, z1] at h; subst h
  iterate 5 (refine s_skipY _ rfl rfl y50 rfl ?_; refine nr ?_; intro U h; simp only [z0, z1] at h; subst h)
  refine s_val _ rfl rfl (.bool false) rfl ?_
  refine s_val _ rfl rfl (.bool false) rfl ?_
  refine nr ?_; intro U h; simp only [z0, z1] at h; subst h
  iterate 5 (refine s_skipY _ rfl rfl y57 rfl ?_; refine nr ?_; intro U h; simp only [z0, z1] at h; subst h)
  refine s_val _ rfl rfl (.bool false) rfl ?_
  refine s_val _ rfl rfl (.bool false) rfl ?_
  refine nr ?_; intro U h; simp only [z0, z1] at h; subst h
  iterate 5 (refine s_skipY _ rfl rfl y64 rfl ?_; refine nr ?_; intro U h; simp only [z0, z1] at h; subst h)
  refine s_val _ rfl rfl (.bool false) rfl ?_
  refine s_val _ rfl rfl (.bool false) rfl ?_
  refine nr ?_; intro U h; simp only [z0, z1] at h; subst h
  iterate 5 (refine s_skipY _ rfl rfl y71 rfl ?_; refine nr ?_; intro U h; simp only [z0, z1] at h; subst h)
  refine s_val _ rfl rfl (.bool false) rfl ?_
  refine s_val _ rfl rfl (.bool false) rfl ?_
  refine nr ?_; intro U h; simp only [z0, z1] at h; subst h
  iterate 5 (refine s_skipY _ rfl rfl y78 rfl ?_; refine nr ?_; intro U h; simp only [z0, z1] at h; subst h)
  refine s_val _ rfl rfl (.bool false) rfl ?_
  refine s_val _ rfl rfl (.bool false) rfl ?_
  refine nr ?_; intro U h; simp only [z0, z1] at h; subst h
  iterate 7 (refine s_skipY _ rfl rfl y85 rfl ?_; refine nr ?_; intro U h; simp only [z0, z1] at h; subst h)
  refine s_val _ rfl rfl (.bool false) rfl ?_
  refine s_val _ rfl rfl (.bool false) rfl ?_
  refine nr ?_; intro U h; simp only [z0, z1] at h; subst h
  iterate 7 (refine s_skipY _ rfl rfl y94 rfl ?_; refine nr ?_; intro U h; simp only [z0, z1] at h; subst h)
  refine s_val _ rfl rfl (.bool false) rfl ?_
  refine s_val _ rfl rfl (.bool false) rfl ?_
  refine nr ?_; intro U h; simp only [z0, z1] at h; subst h
  iterate 7 (refine s_skipY _ rfl rfl y103 rfl ?_; refine nr ?_; intro U h; simp only [z0, z1] at h; subst h)
  refine s_val _ rfl rfl (.bool false) rfl ?_
  refine s_val _ rfl rfl (.bool false) rfl ?_
  refine wpList_nil (then_n (wp_ret ?_))
  refine bodyPost_ret (results_tmp Try.results21 _ _ _) rfl ?_
  refine ⟨?_, GG⟩
  show Ending.returned (.bool false) = _
  unfold sameB
  rw [hp1, hp2, hp3, hp4, hp5]
  first | done | rfl
  refine mv 47 (.bool true) ?_
  refine nr ?_; intro U h; simp only [z0, z1] at h; subst h
  refine mv 48 (.bool true) (s_gvalY 49 rfl rfl y36 rfl (.pointer (some ⟨g1, 52, none⟩)) (run_fld 40 _ 6 rfl _ _ rfl _) (s_gvalY 50 rfl rfl y36 rfl (.agg (c27 f.fi f.fn)) (run_lda 31 _ rfl g1 52 2 rfl 40 _ kg1 _ Try.underlying31 rfl si27 _) ?_))
  refine nr ?_; intro U h; simp only [z0, z1] at h; subst h
  refine s_gvalY 51 rfl rfl y36 rfl (.pointer (some ⟨g2, 52, none⟩)) (run_fld 40 _ 6 rfl _ _ rfl _) (s_gvalY 52 rfl rfl y36 rfl (.agg (c27 g.fi g.fn)) (run_lda 31 _ rfl g2 52 2 rfl 40 _ kg2 _ Try.underlying31 rfl si27 _) ?_)
  refine nr ?_; intro U h; simp only [z0, z1] at h; subst h
  obtain ⟨p6, hp6⟩ : ∃ p, (decide (f.fi = g.fi) && decide (f.fn = g.fn)) = p := ⟨_, rfl⟩
  refine s_gvalY 53 rfl rfl y36 rfl (.bool p6) (run_cmpA .eql 31 _ _ _ rfl _ _ rfl rfl (by kernel_rfl) _ ((eq27 f.fi g.fi f.fn g.fn _).trans (by rw [hp6]))) ?_
  refine nr ?_; intro U h; simp only [z0, z1] at h; subst h
  cases p6
  refine s_val _ rfl rfl (.bool false) rfl ?_
  refine s_val _ rfl rfl (.bool false) rfl ?_
  refine nr ?_; intro U h; simp only [z0, z1] at h; subst h
  iterate 5 (refine s_skipY _ rfl rfl y43 rfl ?_; refine nr ?_; intro U h; simp only [z0, z1] at h; subst h)
  refine s_val _ rfl rfl (.bool false) rfl ?_
  refine s_val _ rfl rfl (.bool false) rfl ?_
  refine nr ?_; intro U h; simp only [z0, z1] at h; subst h
  iterate 5 (refine s_skipY _ rfl rfl y50 rfl ?_; refine nr ?_; intro U h; simp only [z0, z1] at h; subst h)
  refine s_val _ rfl rfl (.bool false) rfl ?_
  refine s_val _ rfl rfl (.bool false) rfl ?_
  refine nr ?_; intro U h; simp only [z0, z1] at h; subst h
  iterate 5 (refine s_skipY _ rfl rfl y57 rfl ?_; refine nr ?_; intro U h; simp only [z0, z1] at h; subst h)
  refine s_val _ rfl rfl (.bool false) rfl ?_
  refine s_val _ rfl rfl (.bool false) rfl ?_
  refine nr ?_; intro U h; simp only [z0, z1] at h; subst h
  iterate 5 (refine s_skipY _ rfl rfl y64 rfl ?_; refine nr ?_; intro U h; simp only [z0, z1] at h; subst h)
  refine s_val _ rfl rfl (.bool false) rfl ?_
  refine s_val _ rfl rfl (.bool false) rfl ?_
  refine nr ?_; intro U h; simp only [z0, z1] at h; subst h
  iterate 5 (refine s_skipY _ rfl rfl y71 rfl ?_; refine nr ?_; intro U h; simp only [z0, z1] at h; subst h)
  refine s_val _ rfl rfl (.bool false) rfl ?_
  refine s_val _ rfl rfl (.bool false) rfl ?_
  refine nr ?_; intro U h; simp only [z0, z1] at h; subst h
  iterate 5 (refine s_skipY _ rfl rfl y78 rfl ?_; refine nr ?_; intro U h; simp only [z0, z1] at h; subst h)
  refine s_val _ rfl rfl (.bool false) rfl ?_
  refine s_val _ rfl rfl (.bool false) rfl ?_
  refine nr ?_; intro U h; simp only [z0, z1] at h; subst h
  iterate 7 (refine s_skipY _ rfl rfl y85 rfl ?_; refine nr ?_; intro U h; simp only [z0, z1] at h; subst h)
  refine s_val _ rfl rfl (.bool false) rfl ?_
  refine s_val _ rfl rfl (.bool false) rfl ?_
  refine nr ?_; intro U h; simp only [z0, z1] at h; subst h
  iterate 7 (refine s_skipY _ rfl rfl y94 rfl ?_; refine nr ?_; intro U h; simp only [z0, z1] at h; subst h)
  refine s_val _ rfl rfl (.bool false) rfl ?_
  refine s_val _ rfl rfl (.bool false) rfl ?_
  refine nr ?_; intro U h; simp only [z0, z1] at h; subst h
  iterate 7 (refine s_skipY _ rfl rfl y103 rfl ?_; refine nr ?_; intro U h; simp only [z0, z1] at h; subst h)
  refine s_val _ rfl rfl (.bool false) rfl ?_
  refine s_val _ rfl rfl (.bool false) rfl ?_
  refine wpList_nil (then_n (wp_ret ?_))
  refine bodyPost_ret (results_tmp Try.results21 _ _ _) rfl ?_
  refine ⟨?_, GG⟩
  show Ending.returned (.bool false) = _
  unfold sameB
  rw [hp1, hp2, hp3, hp4, hp5, hp6]
  first | done | rfl
  refine mv 54 (.bool true) ?_
  refine nr ?_; intro U h; simp only [z0, z1] at h; subst h
  refine mv 55 (.bool true) (s_gvalY 56 rfl rfl y43 rfl (.pointer (some ⟨g1, 54, none⟩)) (run_fld 40 _ 7 rfl _ _ rfl _) (s_gvalY 57 rfl rfl y43 rfl (.agg (c27 f.ti f.tn)) (run_lda 31 _ rfl g1 54 2 rfl 40 _ kg1 _ Try.underlying31 rfl si27 _) ?_))
  refine nr ?_; intro U h; simp only [z0, z1] at h; subst h
  refine s_gvalY 58 rfl rfl y43 rfl (.pointer (some ⟨g2, 54, none⟩)) (run_fld 40 _ 7 rfl _ _ rfl _) (s_gvalY 59 rfl rfl y43 rfl (.agg (c27 g.ti g.tn)) (run_lda 31 _ rfl g2 54 2 rfl 40 _ kg2 _ Try.underlying31 rfl si27 _) ?_)
  refine nr ?_; intro U h; simp only [z0, z1] at h; subst h
  obtain ⟨p7, hp7⟩ : ∃ p, (decide (f.ti = g.ti) && decide (f.tn = g.tn)) = p := ⟨_, rfl⟩
  refine s_gvalY 60 rfl rfl y43 rfl (.bool p7) (run_cmpA .eql 31 _ _ _ rfl _ _ rfl rfl (by kernel_rfl) _ ((eq27 f.ti g.ti f.tn g.tn _).trans (by rw [hp7]))) ?_
  refine nr ?_; intro U h; simp only [z0, z1] at h; subst h
  cases p7
  refine s_val _ rfl rfl (.bool false) rfl ?_
  refine s_val _ rfl rfl (.bool false) rfl ?_
  refine nr ?_; intro U h; simp only [z0, z1] at h; subst h
  iterate 5 (refine s_skipY _ rfl rfl y50 rfl ?_; refine nr ?_; intro U h; simp only [z0, z1] at h; subst h)
  refine s_val _ rfl rfl (.bool false) rfl ?_
  refine s_val _ rfl rfl (.bool false) rfl ?_
  refine nr ?_; intro U h; simp only [z0, z1] at h; subst h
  iterate 5 (refine s_skipY _ rfl rfl y57 rfl ?_; refine nr ?_; intro U h; simp only [z0, z1] at h; subst h)
  refine s_val _ rfl rfl (.bool false) rfl ?_
  refine s_val _ rfl rfl (.bool false) rfl ?_
  refine nr ?_; intro U h; simp only [z0, z1] at h; subst h
  iterate 5 (refine s_skipY _ rfl rfl y64 rfl ?_; refine nr ?_; intro U h; simp only [z0, z1] at h; subst h)
  refine s_val _ rfl rfl (.bool false) rfl ?_
  refine s_val _ rfl rfl (.bool false) rfl ?_
  refine nr ?_; intro U h; simp only [z0, z1] at h; subst h
  iterate 5 (refine s_skipY _ rfl rfl y71 rfl ?_; refine nr ?_; intro U h; simp only [z0, z1] at h; subst h)
  refine s_val _ rfl rfl (.bool false) rfl ?_
  refine s_val _ rfl rfl (.bool false) rfl ?_
  refine nr ?_; intro U h; simp only [z0, z1] at h; subst h
  iterate 5 (refine s_skipY _ rfl rfl y78 rfl ?_; refine nr ?_; intro U h; simp only [z0, z1] at h; subst h)
  refine s_val _ rfl rfl (.bool false) rfl ?_
  refine s_val _ rfl rfl (.bool false) rfl ?_
  refine nr ?_; intro U h; simp only [z0, z1] at h; subst h
  iterate 7 (refine s_skipY _ rfl rfl y85 rfl ?_; refine nr ?_; intro U h; simp only [z0, z1] at h; subst h)
  refine s_val _ rfl rfl (.bool false) rfl ?_
  refine s_val _ rfl rfl (.bool false) rfl ?_
  refine nr ?_; intro U h; simp only [z0, z1] at h; subst h
  iterate 7 (refine s_skipY _ rfl rfl y94 rfl ?_; refine nr ?_; intro U h; simp only [z0, z1] at h; subst h)
  refine s_val _ rfl rfl (.bool false) rfl ?_
  refine s_val _ rfl rfl (.bool false) rfl ?_
  refine nr ?_; intro U h; simp only [z0, z1] at h; subst h
  iterate 7 (refine s_skipY _ rfl rfl y103 rfl ?_; refine nr ?_; intro U h; simp only [z0, z1] at h; subst h)
  refine s_val _ rfl rfl (.bool false) rfl ?_
  refine s_val _ rfl rfl (.bool false) rfl ?_
  refine wpList_nil (then_n (wp_ret ?_))
  refine bodyPost_ret (results_tmp Try.results21 _ _ _) rfl ?_
  refine ⟨?_, GG⟩
  show Ending.returned (.bool false) = _
  unfold sameB
  rw [hp1, hp2, hp3, hp4, hp5, hp6, hp7]
  first | done | rfl
  refine mv 61 (.bool true) ?_
  refine nr ?_; intro U h; simp only [z0, z1] at h; subst h
  refine mv 62 (.bool true) (s_gvalY 63 rfl rfl y50 rfl (.pointer (some ⟨g1, 92, none⟩)) (run_fld 40 _ 11 rfl _ _ rfl _) (s_gvalY 64 rfl rfl y50 rfl (.int .i64 f.op) (run_ldc 3 _ rfl g1 92 rfl 40 _ kg1 (na3 _) _ rfl) ?_))
  refine nr ?_; intro U h; simp only [z0, z1] at h; subst h
  refine s_gvalY 65 rfl rfl y50 rfl (.pointer (some ⟨g2, 92, none⟩)) (run_fld 40 _ 11 rfl _ _ rfl _) (s_gvalY 66 rfl rfl y50 rfl (.int .i64 g.op) (run_ldc 3 _ rfl g2 92 rfl 40 _ kg2 (na3 _) _ rfl) ?_)
  refine nr ?_; intro U h; simp only [z0, z1] at h; subst h
  obtain ⟨p8, hp8⟩ : ∃ p, decide (f.op = g.op) = p := ⟨_, rfl⟩
  refine s_gvalY 67 rfl rfl y50 rfl (.bool p8) (run_eq_k 3 .i64 _ _ _ rfl Try.underlying3 f.op g.op rfl rfl p8 hp8 _) ?_
  refine nr ?_; intro U h; simp only [z0, z1] at h; subst h
  cases p8
  refine s_val _ rfl rfl (.bool false) rfl ?_
  refine s_val _ rfl rfl (.bool false) rfl ?_
  refine nr ?_; intro U h; simp only [z0, z1] at h; subst h
  iterate 5 (refine s_skipY _ rfl rfl y57 rfl ?_; refine nr ?_; intro U h; simp only [z0, z1] at h; subst h)
  refine s_val _ rfl rfl (.bool false) rfl ?_
  refine s_val _ rfl rfl (.bool false) rfl ?_
  refine nr ?_; intro U h; simp only [z0, z1] at h; subst h
  iterate 5 (refine s_skipY _ rfl rfl y64 rfl ?_; refine nr ?_; intro U h; simp only [z0, z1] at h; subst h)
  refine s_val _ rfl rfl (.bool false) rfl ?_
  refine s_val _ rfl rfl (.bool false) rfl ?_
  refine nr ?_; intro U h; simp only [z0, z1] at h; subst h
  iterate 5 (refine s_skipY _ rfl rfl y71 rfl ?_; refine nr ?_; intro U h; simp only [z0, z1] at h; subst h)
  refine s_val _ rfl rfl (.bool false) rfl ?_
  refine s_val _ rfl rfl (.bool false) rfl ?_
  refine nr ?_; intro U h; simp only [z0, z1] at h; subst h
  iterate 5 (refine s_skipY _ rfl rfl y78 rfl ?_; refine nr ?_; intro U h; simp only [z0, z1] at h; subst h)
  refine s_val _ rfl rfl (.bool false) rfl ?_
  refine s_val _ rfl rfl (.bool false) rfl ?_
  refine nr ?_; intro U h; simp only [z0, z1] at h; subst h
  iterate 7 (refine s_skipY _ rfl rfl y85 rfl ?_; refine nr ?_; intro U h; simp only [z0, z1] at h; subst h)
  refine s_val _ rfl rfl (.bool false) rfl ?_
  refine s_val _ rfl rfl (.bool false) rfl ?_
  refine nr ?_; intro U h; simp only [z0, z1] at h; subst h
  iterate 7 (refine s_skipY _ rfl rfl y94 rfl ?_; refine nr ?_; intro U h; simp only [z0, z1] at h; subst h)
  refine s_val _ rfl rfl (.bool false) rfl ?_
  refine s_val _ rfl rfl (.bool false) rfl ?_
  refine nr ?_; intro U h; simp only [z0, z1] at h; subst h
  iterate 7 (refine s_skipY _ rfl rfl y103 rfl ?_; refine nr ?_; intro U h; simp only [z0, z1] at h; subst h)
  refine s_val _ rfl rfl (.bool false) rfl ?_
  refine s_val _ rfl rfl (.bool false) rfl ?_
  refine wpList_nil (then_n (wp_ret ?_))
  refine bodyPost_ret (results_tmp Try.results21 _ _ _) rfl ?_
  refine ⟨?_, GG⟩
  show Ending.returned (.bool false) = _
  unfold sameB
  rw [hp1, hp2, hp3, hp4, hp5, hp6, hp7, hp8]
  first | done | rfl
  refine mv 68 (.bool true) ?_
  refine nr ?_; intro U h; simp only [z0, z1] at h; subst h
  refine mv 69 (.bool true) (s_gvalY 70 rfl rfl y57 rfl (.pointer (some ⟨g1, 93, none⟩)) (run_fld 40 _ 12 rfl _ _ rfl _) (s_gvalY 71 rfl rfl y57 rfl (.int .i64 f.ttl) (run_ldc 3 _ rfl g1 93 rfl 40 _ kg1 (na3 _) _ rfl) ?_))
  refine nr ?_; intro U h; simp only [z0, z1] at h; subst h
  refine s_gvalY 72 rfl rfl y57 rfl (.pointer (some ⟨g2, 93, none⟩)) (run_fld 40 _ 12 rfl _ _ rfl _) (s_gvalY 73 rfl rfl y57 rfl (.int .i64 g.ttl) (run_ldc 3 _ rfl g2 93 rfl 40 _ kg2 (na3 _) _ rfl) ?_)
  refine nr ?_; intro U h; simp only [z0, z1] at h; subst h
  obtain ⟨p9, hp9⟩ : ∃ p, decide (f.ttl = g.ttl) = p := ⟨_, rfl⟩
  refine s_gvalY 74 rfl rfl y57 rfl (.bool p9) (run_eq_k 3 .i64 _ _ _ rfl Try.underlying3 f.ttl g.ttl rfl rfl p9 hp9 _) ?_
  refine nr ?_; intro U h; simp only [z0, z1] at h; subst h
  cases p9
  refine s_val _ rfl rfl (.bool false) rfl ?_
  refine s_val _ rfl rfl (.bool false) rfl ?_
  refine nr ?_; intro U h; simp only [z0, z1] at h; subst h
  iterate 5 (refine s_skipY _ rfl rfl y64 rfl ?_; refine nr ?_; intro U h; simp only [z0, z1] at h; subst h)
  refine s_val _ rfl rfl (.bool false) rfl ?_
  refine s_val _ rfl rfl (.bool false) rfl ?_
  refine nr ?_; intro U h; simp only [z0, z1] at h; subst h
  iterate 5 (refine s_skipY _ rfl rfl y71 rfl ?_; refine nr ?_; intro U h; simp only [z0, z1] at h; subst h)
  refine s_val _ rfl rfl (.bool false) rfl ?_
  refine s_val _ rfl rfl (.bool false) rfl ?_
  refine nr ?_; intro U h; simp only [z0, z1] at h; subst h
  iterate 5 (refine s_skipY _ rfl rfl y78 rfl ?_; refine nr ?_; intro U h; simp only [z0, z1] at h; subst h)
  refine s_val _ rfl rfl (.bool false) rfl ?_
  refine s_val _ rfl rfl (.bool false) rfl ?_
  refine nr ?_; intro U h; simp only [z0, z1] at h; subst h
  iterate 7 (refine s_skipY _ rfl rfl y85 rfl ?_; refine nr ?_; intro U h; simp only [z0, z1] at h; subst h)
  refine s_val _ rfl rfl (.bool false) rfl ?_
  refine s_val _ rfl rfl (.bool false) rfl ?_
  refine nr ?_; intro U h; simp only [z0, z1] at h; subst h
  iterate 7 (refine s_skipY _ rfl rfl y94 rfl ?_; refine nr ?_; intro U h; simp only [z0, z1] at h; subst h)
  refine s_val _ rfl rfl (.bool false) rfl ?_
  refine s_val _ rfl rfl (.bool false) rfl ?_
  refine nr ?_; intro U h; simp only [z0, z1] at h; subst h
  iterate 7 (refine s_skipY _ rfl rfl y103 rfl ?_; refine nr ?_; intro U h; simp only [z0, z1] at h; subst h)
  refine s_val _ rfl rfl (.bool false) rfl ?_
  refine s_val _ rfl rfl (.bool false) rfl ?_
  refine wpList_nil (then_n (wp_ret ?_))
  refine bodyPost_ret (results_tmp Try.results21 _ _ _) rfl ?_
  refine ⟨?_, GG⟩
  show Ending.returned (.bool false) = _
  unfold sameB
  rw [hp1, hp2, hp3, hp4, hp5, hp6, hp7, hp8, hp9]
  first | done | rfl
  refine mv 75 (.bool true) ?_
  refine nr ?_; intro U h; simp only [z0, z1] at h; subst h
  refine mv 76 (.bool true) (s_gvalY 77 rfl rfl y64 rfl (.pointer (some ⟨g1, 56, none⟩)) (run_fld 40 _ 8 rfl _ _ rfl _) (s_gvalY 78 rfl rfl y64 rfl (.slice f.tr.ao f.tr.n f.tr.cap) (run_ldc 32 _ rfl g1 56 rfl 40 _ kg1 (na28 _) _ rfl) ?_))
  refine nr ?_; intro U h; simp only [z0, z1] at h; subst h
  refine s_gvalY 79 rfl rfl y64 rfl (.pointer (some ⟨g2, 56, none⟩)) (run_fld 40 _ 8 rfl _ _ rfl _) (s_gvalY 80 rfl rfl y64 rfl (.slice g.tr.ao g.tr.n g.tr.cap) (run_ldc 32 _ rfl g2 56 rfl 40 _ kg2 (na28 _) _ rfl) ?_)
  refine nr ?_; intro U h; simp only [z0, z1] at h; subst h
  obtain ⟨p10, hp10⟩ : ∃ p, decide (df.tr = dg.tr) = p := ⟨_, rfl⟩
  have HC := equalI_g f g df dg _ (HF.gro GG) (HG.gro GG) hl1
  rw [hp10] at HC
  refine s_gcallvY 81 rfl rfl y64 rfl _ 31 Try.call31 rfl rfl _ rfl [.slice f.tr.ao f.tr.n f.tr.cap, .slice g.tr.ao g.tr.n g.tr.cap] rfl (HC) ?_
  intro w6 G
  replace kg1 := G.has kg1
  replace kg2 := G.has kg2
  replace GG := GG.trans G
  clear G
  refine nr ?_; intro U h; simp only [z0, z1] at h; subst h
  clear HC
  cases p10
  refine s_val _ rfl rfl (.bool false) rfl ?_
  refine s_val _ rfl rfl (.bool false) rfl ?_
  refine nr ?_; intro U h; simp only [z0, z1] at h; subst h
  iterate 5 (refine s_skipY _ rfl rfl y71 rfl ?_; refine nr ?_; intro U h; simp only [z0, z1] at h; subst h)
  refine s_val _ rfl rfl (.bool false) rfl ?_
  refine s_val _ rfl rfl (.bool false) rfl ?_
  refine nr ?_; intro U h; simp only [z0, z1] at h; subst h
  iterate 5 (refine s_skipY _ rfl rfl y78 rfl ?_; refine nr ?_; intro U h; simp only [z0, z1] at h; subst h)
  refine s_val _ rfl rfl (.bool false) rfl ?_
  refine s_val _ rfl rfl (.bool false) rfl ?_
  refine nr ?_; intro U h; simp only [z0, z1] at h; subst h
  iterate 7 (refine s_skipY _ rfl rfl y85 rfl ?_; refine nr ?_; intro U h; simp only [z0, z1] at h; subst h)
  refine s_val _ rfl rfl (.bool false) rfl ?_
  refine s_val _ rfl rfl (.bool false) rfl ?_
  refine nr ?_; intro U h; simp only [z0, z1] at h; subst h
  iterate 7 (refine s_skipY _ rfl rfl y94 rfl ?_; refine nr ?_; intro U h; simp only [z0, z1] at h; subst h)
  refine s_val _ rfl rfl (.bool false) rfl ?_
  refine s_val _ rfl rfl (.bool false) rfl ?_
  refine nr ?_; intro U h; simp only [z0, z1] at h; subst h
  iterate 7 (refine s_skipY _ rfl rfl y103 rfl ?_; refine nr ?_; intro U h; simp only [z0, z1] at h; subst h)
  refine s_val _ rfl rfl (.bool false) rfl ?_
  refine s_val _ rfl rfl (.bool false) rfl ?_
  refine wpList_nil (then_n (wp_ret ?_))
  refine bodyPost_ret (results_tmp Try.results21 _ _ _) rfl ?_
  refine ⟨?_, GG⟩
  show Ending.returned (.bool false) = _
  unfold sameB
  rw [hp1, hp2, hp3, hp4, hp5, hp6, hp7, hp8, hp9, hp10]
  first | done | rfl
  refine mv 82 (.bool true) ?_
  refine nr ?_; intro U h; simp only [z0, z1] at h; subst h
  refine mv 83 (.bool true) (s_gvalY 84 rfl rfl y71 rfl (.pointer (some ⟨g1, 57, none⟩)) (run_fld 40 _ 9 rfl _ _ rfl _) (s_gvalY 85 rfl rfl y71 rfl (.slice f.ids.ao f.ids.n f.ids.cap) (run_ldc 33 _ rfl g1 57 rfl 40 _ kg1 (na29 _) _ rfl) ?_))
  refine nr ?_; intro U h; simp only [z0, z1] at h; subst h
  refine s_gvalY 86 rfl rfl y71 rfl (.pointer (some ⟨g2, 57, none⟩)) (run_fld 40 _ 9 rfl _ _ rfl _) (s_gvalY 87 rfl rfl y71 rfl (.slice g.ids.ao g.ids.n g.ids.cap) (run_ldc 33 _ rfl g2 57 rfl 40 _ kg2 (na29 _) _ rfl) ?_)
  refine nr ?_; intro U h; simp only [z0, z1] at h; subst h
  obtain ⟨p11, hp11⟩ : ∃ p, decide (df.ids = dg.ids) = p := ⟨_, rfl⟩
  have HC := equalD_g f g df dg _ (HF.gro GG) (HG.gro GG) hl2
  rw [hp11] at HC
  refine s_gcallvY 88 rfl rfl y71 rfl _ 32 Try.call32 rfl rfl _ rfl [.slice f.ids.ao f.ids.n f.ids.cap, .slice g.ids.ao g.ids.n g.ids.cap] rfl (HC) ?_
  intro w7 G
  replace kg1 := G.has kg1
  replace kg2 := G.has kg2
  replace GG := GG.trans G
  clear G
  refine nr ?_; intro U h; simp only [z0, z1] at h; subst h
  clear HC
  cases p11
  refine s_val _ rfl rfl (.bool false) rfl ?_
  refine s_val _ rfl rfl (.bool false) rfl ?_
  refine nr ?_; intro U h; simp only [z0, z1] at h; subst h
  iterate 5 (refine s_skipY _ rfl rfl y78 rfl ?_; refine nr ?_; intro U h; simp only [z0, z1] at h; subst h)
  refine s_val _ rfl rfl (.bool false) rfl ?_
  refine s_val _ rfl rfl (.bool false) rfl ?_
  refine nr ?_; intro U h; simp only [z0, z1] at h; subst h
  iterate 7 (refine s_skipY _ rfl rfl y85 rfl ?_; refine nr ?_; intro U h; simp only [z0, z1] at h; subst h)
  refine s_val _ rfl rfl (.bool false) rfl ?_
  refine s_val _ rfl rfl (.bool false) rfl ?_
  refine nr ?_; intro U h; simp only [z0, z1] at h; subst h
  iterate 7 (refine s_skipY _ rfl rfl y94 rfl ?_; refine nr ?_; intro U h; simp only [z0, z1] at h; subst h)
  refine s_val _ rfl rfl (.bool false) rfl ?_
  refine s_val _ rfl rfl (.bool false) rfl ?_
  refine nr ?_; intro U h; simp only [z0, z1] at h; subst h
  iterate 7 (refine s_skipY _ rfl rfl y103 rfl ?_; refine nr ?_; intro U h; simp only [z0, z1] at h; subst h)
  refine s_val _ rfl rfl (.bool false) rfl ?_
  refine s_val _ rfl rfl (.bool false) rfl ?_
  refine wpList_nil (then_n (wp_ret ?_))
  refine bodyPost_ret (results_tmp Try.results21 _ _ _) rfl ?_
  refine ⟨?_, GG⟩
  show Ending.returned (.bool false) = _
  unfold sameB
  rw [hp1, hp2, hp3, hp4, hp5, hp6, hp7, hp8, hp9, hp10, hp11]
  first | done | rfl
  refine mv 89 (.bool true) ?_
  refine nr ?_; intro U h; simp only [z0, z1] at h; subst h
  refine mv 90 (.bool true) (s_gvalY 91 rfl rfl y78 rfl (.pointer (some ⟨g1, 94, none⟩)) (run_fld 40 _ 13 rfl _ _ rfl _) (s_gvalY 92 rfl rfl y78 rfl (.slice f.tx.ao f.tx.n f.tx.cap) (run_ldc 36 _ rfl g1 94 rfl 40 _ kg1 (na32 _) _ rfl) ?_))
  refine nr ?_; intro U h; simp only [z0, z1] at h; subst h
  refine s_gvalY 93 rfl rfl y78 rfl (.pointer (some ⟨g2, 94, none⟩)) (run_fld 40 _ 13 rfl _ _ rfl _) (s_gvalY 94 rfl rfl y78 rfl (.slice g.tx.ao g.tx.n g.tx.cap) (run_ldc 36 _ rfl g2 94 rfl 40 _ kg2 (na32 _) _ rfl) ?_)
  refine nr ?_; intro U h; simp only [z0, z1] at h; subst h
  obtain ⟨p12, hp12⟩ : ∃ p, decide (df.tx = dg.tx) = p := ⟨_, rfl⟩
  have HC := equalT_g f g df dg _ (HF.gro GG) (HG.gro GG)
  rw [hp12] at HC
  refine s_gcallvY 95 rfl rfl y78 rfl _ 33 Try.call33 rfl rfl _ rfl [.slice f.tx.ao f.tx.n f.tx.cap, .slice g.tx.ao g.tx.n g.tx.cap] rfl (HC) ?_
  intro w8 G
  replace kg1 := G.has kg1
  replace kg2 := G.has kg2
  replace GG := GG.trans G
  clear G
  refine nr ?_; intro U h; simp only [z0, z1] at h; subst h
  clear HC
  cases p12
  refine s_val _ rfl rfl (.bool false) rfl ?_
  refine s_val _ rfl rfl (.bool false) rfl ?_
  refine nr ?_; intro U h; simp only [z0, z1] at h; subst h
  iterate 7 (refine s_skipY _ rfl rfl y85 rfl ?_; refine nr ?_; intro U h; simp only [z0, z1] at h; subst h)
  refine s_val _ rfl rfl (.bool false) rfl ?_
  refine s_val _ rfl rfl (.bool false) rfl ?_
  refine nr ?_; intro U h; simp only [z0, z1] at h; subst h
  iterate 7 (refine s_skipY _ rfl rfl y94 rfl ?_; refine nr ?_; intro U h; simp only [z0, z1] at h; subst h)
  refine s_val _ rfl rfl (.bool false) rfl ?_
  refine s_val _ rfl rfl (.bool false) rfl ?_
  refine nr ?_; intro U h; simp only [z0, z1] at h; subst h
  iterate 7 (refine s_skipY _ rfl rfl y103 rfl ?_; refine nr ?_; intro U h; simp only [z0, z1] at h; subst h)
  refine s_val _ rfl rfl (.bool false) rfl ?_
  refine s_val _ rfl rfl (.bool false) rfl ?_
  refine wpList_nil (then_n (wp_ret ?_))
  refine bodyPost_ret (results_tmp Try.results21 _ _ _) rfl ?_
  refine ⟨?_, GG⟩
  show Ending.returned (.bool false) = _
  unfold sameB
  rw [hp1, hp2, hp3, hp4, hp5, hp6, hp7, hp8, hp9, hp10, hp11, hp12]
  first | done | rfl
  refine mv 96 (.bool true) ?_
  refine nr ?_; intro U h; simp only [z0, z1] at h; subst h
  refine mv 97 (.bool true) (s_gvalY 98 rfl rfl y85 rfl (.pointer (some ⟨g1, 58, none⟩)) (run_fld 40 _ 10 rfl _ _ rfl _) (s_gvalY 99 rfl rfl y85 rfl (.pointer (some ⟨g1, 58, none⟩)) (run_fld 38 _ 0 rfl _ _ rfl _) ?_))
  refine nr ?_; intro U h; simp only [z0, z1] at h; subst h
  refine s_gvalY 100 rfl rfl y85 rfl (.agg (c23 f.key)) (run_lda 27 _ rfl g1 58 16 rfl 40 _ kg1 _ Try.underlying27 rfl si23 _) (s_gvalY 101 rfl rfl y85 rfl (.pointer (some ⟨g2, 58, none⟩)) (run_fld 40 _ 10 rfl _ _ rfl _) (s_gvalY 102 rfl rfl y85 rfl (.pointer (some ⟨g2, 58, none⟩)) (run_fld 38 _ 0 rfl _ _ rfl _) ?_))
  refine nr ?_; intro U h; simp only [z0, z1] at h; subst h
  refine s_gvalY 103 rfl rfl y85 rfl (.agg (c23 g.key)) (run_lda 27 _ rfl g2 58 16 rfl 40 _ kg2 _ Try.underlying27 rfl si23 _) ?_
  refine nr ?_; intro U h; simp only [z0, z1] at h; subst h
  obtain ⟨p13, hp13⟩ : ∃ p, decide (idL f.key = idL g.key) = p := ⟨_, rfl⟩
  refine s_gvalY 104 rfl rfl y85 rfl (.bool p13) (run_cmpA .eql 27 _ _ _ rfl _ _ rfl rfl (by kernel_rfl) _ ((eq23 f.key g.key _).trans (by rw [hp13]))) ?_
  refine nr ?_; intro U h; simp only [z0, z1] at h; subst h
  cases p13
  refine s_val _ rfl rfl (.bool false) rfl ?_
  refine s_val _ rfl rfl (.bool false) rfl ?_
  refine nr ?_; intro U h; simp only [z0, z1] at h; subst h
  iterate 7 (refine s_skipY _ rfl rfl y94 rfl ?_; refine nr ?_; intro U h; simp only [z0, z1] at h; subst h)
  refine s_val _ rfl rfl (.bool false) rfl ?_
  refine s_val _ rfl rfl (.bool false) rfl ?_
  refine nr ?_; intro U h; simp only [z0, z1] at h; subst h
  iterate 7 (refine s_skipY _ rfl rfl y103 rfl ?_; refine nr ?_; intro U h; simp only [z0, z1] at h; subst h)
  refine s_val _ rfl rfl (.bool false) rfl ?_
  refine s_val _ rfl rfl (.bool false) rfl ?_
  refine wpList_nil (then_n (wp_ret ?_))
  refine bodyPost_ret (results_tmp Try.results21 _ _ _) rfl ?_
  refine ⟨?_, GG⟩
  show Ending.returned (.bool false) = _
  unfold sameB
  rw [hp1, hp2, hp3, hp4, hp5, hp6, hp7, hp8, hp9, hp10, hp11, hp12, hp13]
  first | done | rfl
  refine mv 105 (.bool true) ?_
  refine nr ?_; intro U h; simp only [z0, z1] at h; subst h
  refine mv 106 (.bool true) (s_gvalY 107 rfl rfl y94 rfl (.pointer (some ⟨g1, 58, none⟩)) (run_fld 40 _ 10 rfl _ _ rfl _) (s_gvalY 108 rfl rfl y94 rfl (.pointer (some ⟨g1, 74, none⟩)) (run_fld 38 _ 1 rfl _ _ rfl _) ?_))
  refine nr ?_; intro U h; simp only [z0, z1] at h; subst h
  refine s_gvalY 109 rfl rfl y94 rfl (.agg (c31 f.vn f.vw)) (run_lda 35 _ rfl g1 74 17 rfl 40 _ kg1 _ Try.underlying35 rfl si31 _) (s_gvalY 110 rfl rfl y94 rfl (.pointer (some ⟨g2, 58, none⟩)) (run_fld 40 _ 10 rfl _ _ rfl _) (s_gvalY 111 rfl rfl y94 rfl (.pointer (some ⟨g2, 74, none⟩)) (run_fld 38 _ 1 rfl _ _ rfl _) ?_))
  refine nr ?_; intro U h; simp only [z0, z1] at h; subst h
  refine s_gvalY 112 rfl rfl y94 rfl (.agg (c31 g.vn g.vw)) (run_lda 35 _ rfl g2 74 17 rfl 40 _ kg2 _ Try.underlying35 rfl si31 _) ?_
  refine nr ?_; intro U h; simp only [z0, z1] at h; subst h
  obtain ⟨p14, hp14⟩ : ∃ p, (decide (f.vn = g.vn) && decide (idL f.vw = idL g.vw)) = p := ⟨_, rfl⟩
  refine s_gvalY 113 rfl rfl y94 rfl (.bool p14) (run_cmpA .eql 35 _ _ _ rfl _ _ rfl rfl (by kernel_rfl) _ ((eq31 f.vn g.vn f.vw g.vw _).trans (by rw [hp14]))) ?_
  refine nr ?_; intro U h; simp only [z0, z1] at h; subst h
  cases p14
  refine s_val _ rfl rfl (.bool false) rfl ?_
  refine s_val _ rfl rfl (.bool false) rfl ?_
  refine nr ?_; intro U h; simp only [z0, z1] at h; subst h
  iterate 7 (refine s_skipY _ rfl rfl y103 rfl ?_; refine nr ?_; intro U h; simp only [z0, z1] at h; subst h)
  refine s_val _ rfl rfl (.bool false) rfl ?_
  refine s_val _ rfl rfl (.bool false) rfl ?_
  refine wpList_nil (then_n (wp_ret ?_))
  refine bodyPost_ret (results_tmp Try.results21 _ _ _) rfl ?_
  refine ⟨?_, GG⟩
  show Ending.returned (.bool false) = _
  unfold sameB
  rw [hp1, hp2, hp3, hp4, hp5, hp6, hp7, hp8, hp9, hp10, hp11, hp12, hp13, hp14]
  first | done | rfl
  refine mv 114 (.bool true) ?_
  refine nr ?_; intro U h; simp only [z0, z1] at h; subst h
  refine mv 115 (.bool true) (s_gvalY 116 rfl rfl y103 rfl (.pointer (some ⟨g1, 58, none⟩)) (run_fld 40 _ 10 rfl _ _ rfl _) (s_gvalY 117 rfl rfl y103 rfl (.pointer (some ⟨g1, 91, none⟩)) (run_fld 38 _ 2 rfl _ _ rfl _) ?_))
  refine nr ?_; intro U h; simp only [z0, z1] at h; subst h
  refine s_gvalY 118 rfl rfl y103 rfl (.slice f.val.ao f.val.n f.val.cap) (run_ldc 36 _ rfl g1 91 rfl 40 _ kg1 (na32 _) _ rfl) (s_gvalY 119 rfl rfl y103 rfl (.pointer (some ⟨g2, 58, none⟩)) (run_fld 40 _ 10 rfl _ _ rfl _) (s_gvalY 120 rfl rfl y103 rfl (.pointer (some ⟨g2, 91, none⟩)) (run_fld 38 _ 2 rfl _ _ rfl _) ?_))
  refine nr ?_; intro U h; simp only [z0, z1] at h; subst h
  refine s_gvalY 121 rfl rfl y103 rfl (.slice g.val.ao g.val.n g.val.cap) (run_ldc 36 _ rfl g2 91 rfl 40 _ kg2 (na32 _) _ rfl) ?_
  refine nr ?_; intro U h; simp only [z0, z1] at h; subst h
  obtain ⟨p15, hp15⟩ : ∃ p, decide (df.val = dg.val) = p := ⟨_, rfl⟩
  have HC := equalV_g f g df dg _ (HF.gro GG) (HG.gro GG)
  rw [hp15] at HC
  refine s_gcallvY 122 rfl rfl y103 rfl _ 33 Try.call33 rfl rfl _ rfl [.slice f.val.ao f.val.n f.val.cap, .slice g.val.ao g.val.n g.val.cap] rfl (HC) ?_
  intro w9 G
  replace kg1 := G.has kg1
  replace kg2 := G.has kg2
  replace GG := GG.trans G
  clear G
  refine nr ?_; intro U h; simp only [z0, z1] at h; subst h
  clear HC
  cases p15
  refine s_val _ rfl rfl (.bool false) rfl ?_
  refine s_val _ rfl rfl (.bool false) rfl ?_
  refine wpList_nil (then_n (wp_ret ?_))
  refine bodyPost_ret (results_tmp Try.results21 _ _ _) rfl ?_
  refine ⟨?_, GG⟩
  show Ending.returned (.bool false) = _
  unfold sameB
  rw [hp1, hp2, hp3, hp4, hp5, hp6, hp7, hp8, hp9, hp10, hp11, hp12, hp13, hp14, hp15]
  first | done | rfl
  refine mv 123 (.bool true) ?_
  refine nr ?_; intro U h; simp only [z0, z1] at h; subst h
  refine mv 4 (.bool true) (wpList_nil (then_n (wp_ret ?_)))
  refine bodyPost_ret (results_tmp Try.results21 _ _ _) rfl ?_
  refine ⟨?_, GG⟩
  show Ending.returned (.bool true) = _
  unfold sameB
  rw [hp1, hp2, hp3, hp4, hp5, hp6, hp7, hp8, hp9, hp10, hp11, hp12, hp13, hp14, hp15]
  first | done | rfl
end Go.Proofs.Ythmcnlmphikicab
