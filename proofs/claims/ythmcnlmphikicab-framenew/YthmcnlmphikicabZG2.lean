/- Of; whether a body's numbers and lists are within their bounds. -/
import Derived.Test.YthmcnlmphikicabZG1
namespace Go.Proofs.Ythmcnlmphikicab
open Go.RowKit
section
variable {P : Program} {o : Oper} {A : Act}
theorem run_geqT (t : TypeId) (x y : Operand) (t2 : TypeId) (ho : o.op = .binOp .geq t x y t2) (a b : Int) (hx : A.eval x = .int .i64 a) (hy : A.eval y = .int .i64 b) (p : Bool) (hp : decide (b ≤ a) = p) (w : World) : (execOp A.eval o).run P w = .ok (.value (.bool p)) w := by
  subst hp
  refine run_binop .geq t x y t2 ho _ _ _ hx hy (by simp [eqGuard]) ?_
  simp [go_sem]
theorem run_leqT (t : TypeId) (x y : Operand) (t2 : TypeId) (ho : o.op = .binOp .leq t x y t2) (a b : Int) (hx : A.eval x = .int .i64 a) (hy : A.eval y = .int .i64 b) (p : Bool) (hp : decide (a ≤ b) = p) (w : World) : (execOp A.eval o).run P w = .ok (.value (.bool p)) w := by
  subst hp
  refine run_binop .leq t x y t2 ho _ _ _ hx hy (by simp [eqGuard]) ?_
  simp [go_sem]
theorem run_lssT (t : TypeId) (x y : Operand) (t2 : TypeId) (ho : o.op = .binOp .lss t x y t2) (a b : Int) (hx : A.eval x = .int .i64 a) (hy : A.eval y = .int .i64 b) (p : Bool) (hp : decide (a < b) = p) (w : World) : (execOp A.eval o).run P w = .ok (.value (.bool p)) w := by
  subst hp
  refine run_binop .lss t x y t2 ho _ _ _ hx hy (by simp [eqGuard]) ?_
  simp [go_sem]
theorem run_gtrT (t : TypeId) (x y : Operand) (t2 : TypeId) (ho : o.op = .binOp .gtr t x y t2) (a b : Int) (hx : A.eval x = .int .i64 a) (hy : A.eval y = .int .i64 b) (p : Bool) (hp : decide (b < a) = p) (w : World) : (execOp A.eval o).run P w = .ok (.value (.bool p)) w := by
  subst hp
  refine run_binop .gtr t x y t2 ho _ _ _ hx hy (by simp [eqGuard]) ?_
  simp [go_sem]
theorem run_eqB (t : TypeId) (x y : Operand) (t2 : TypeId) (ho : o.op = .binOp .eql t x y t2) (a b : Bool) (hx : A.eval x = .bool a) (hy : A.eval y = .bool b) (hu : P.underlying t = some .bool) (p : Bool) (hp : decide (a = b) = p) (w : World) : (execOp A.eval o).run P w = .ok (.value (.bool p)) w := by
  subst hp
  refine run_binop .eql t x y t2 ho _ _ _ hx hy (by simp [eqGuard, go_sem]) ?_
  have h := run_equalIn_bool w (Op.maxDepth - 1) t a b hu
  simp only [binOp]
  simp [go_sem]
  exact h ▸ by cases a <;> cases b <;> rfl
end
theorem s_gcallv {P : Program} {ops : Array Oper} {rest : List Oper} {o : Oper} {T : List Value} {ds : List Deferred} {w : World} {Q : Exit → Act → World → Prop} (dst : Nat) (hd : o.dst = some dst) (hw : Region.wanted o (yielded ops T.toArray) = true) (c : Call) (f : FuncId) (hen : ∀ args w, (callFunc f args).run P w = .ok (.enter f args) w) (ho : o.op = .call c) (hc : c.callee = .value (.func f)) (xs : List Operand) (hxs : c.args = xs.toArray) (vs : List Value) (hvs : xs.map (Act.eval ⟨T.toArray, ds⟩) = vs)
    {v : Value} {R : World → Prop} (H : Calls P f vs.toArray w fun e w' => e = .returned v ∧ R w')
    (h : ∀ w', R w' → wpList P ops Q rest ⟨(T.set dst v).toArray, ds⟩ w') : wpList P ops Q (o :: rest) ⟨T.toArray, ds⟩ w :=
  wpList_step fun K hK => by
    rw [if_pos hw]
    unfold Oper.wp
    rw [run_call c f hen ho hc, hxs, List.map_toArray, hvs, Oper.upon_enter]
    refine H.mono fun e w' hR => ?_
    obtain ⟨rfl, hR⟩ := hR
    have := h w' hR
    rw [← put_list, ← hd] at this
    exact hK _ _ this
set_option maxRecDepth 100000 in
set_option maxHeartbeats 4000000 in
theorem of_any (k : Nat) (h1 : 1 ≤ k) (h2 : k ≤ 12) (f : Fr) (hk : f.kind = (k : Int)) (dd : FD) (w : World) (HW : FrW w f dd) (HS : FrS f) : Calls Try.prog 5 #[.agg (frA f)] w (AP w f dd fun f => .tuple #[bodyV k f, .bool true]) := by
  show Calls Try.prog 5 #[.agg (c36 f.kind f.pw f.pn f.toA f.a f.b f.n f.fi f.fn f.ti f.tn f.tr f.ids f.key f.vn f.vw f.val f.op f.ttl f.tx)] w _
  refine s_enter Try.func5 rfl Try.ntmps5 [.agg (c36 f.kind f.pw f.pn f.toA f.a f.b f.n f.fi f.fn f.ti f.tn f.tr f.ids f.key f.vn f.vw f.val f.op f.ttl f.tx)] [.agg (c36 f.kind f.pw f.pn f.toA f.a f.b f.n f.fi f.fn f.ti f.tn f.tr f.ids f.key f.vn f.vw f.val f.op f.ttl f.tx), undef, undef, undef, undef, undef, undef, undef, undef, undef, undef] rfl ?_
  have GG := Gro.refl w
  refine wp_seq (wp_region_lit ?_)
  refine s_box 1 rfl rfl 40 _ rfl _ rfl (c36 f.kind f.pw f.pn f.toA f.a f.b f.n f.fi f.fn f.ti f.tn f.tr f.ids f.key f.vn f.vw f.val f.op f.ttl f.tx) rfl ?_
  intro w1 g1 G eg1 kg1
  have bg1 := size_base GG eg1
  replace GG := GG.trans G
  clear G eg1
  refine mv 2 (.nilIface) (mv 3 (.bool false) ?_)
  simp only [z0, z1]
  refine wpList_nil (then_n (wp_seq (wp_region_lit (sv 5 (.agg (c36 f.kind f.pw f.pn f.toA f.a f.b f.n f.fi f.fn f.ti f.tn f.tr f.ids f.key f.vn f.vw f.val f.op f.ttl f.tx)) (run_lda 40 _ rfl g1 0 95 rfl 40 _ kg1 _ Try.underlying40 rfl si36 _) ?_))))
  simp only [z0, z1]
  have dag1 := lt_of_heap kg1
  have qa := GG.size
  refine s_callx 6 rfl rfl _ 15 Try.call15 rfl rfl _ rfl [.agg (c36 f.kind f.pw f.pn f.toA f.a f.b f.n f.fi f.fn f.ti f.tn f.tr f.ids f.key f.vn f.vw f.val f.op f.ttl f.tx)] rfl (apart_any f dd _ (HW.gro GG) HS.tr.out HS.ids.out HS.val.out HS.tx.out) (fun _ _ ⟨_, _, _, _, he, _⟩ => ⟨_, he⟩) ?_
  rintro v w2 ⟨s1, s2, s3, s4, he, HO, G⟩
  cases he
  replace kg1 := G.has kg1
  replace GG := GG.trans G
  clear G
  simp only [z0, z1]
  obtain ⟨tb, vb, hb⟩ := bodyV_if k h1 h2 { f with tr := s1, ids := s2, val := s3, tx := s4 }
  have HBd := fun w => body_any k h1 h2 { f with tr := s1, ids := s2, val := s3, tx := s4 } hk w
  simp only [hb] at HBd
  refine s_callv 7 rfl rfl _ 14 Try.call14 rfl rfl _ rfl [.agg (c36 f.kind f.pw f.pn f.toA f.a f.b f.n f.fi f.fn f.ti f.tn s1 s2 f.key f.vn f.vw s3 f.op f.ttl s4)] rfl (HBd _) ?_
  intro w3 G
  replace kg1 := G.has kg1
  replace HO := HO.gro G
  replace GG := GG.trans G
  clear G
  simp only [z0, z1]
  clear HBd
  refine mv 4 (.iface tb (vb)) (wpList_nil (then_n (wp_seq ?_)))
  refine wp_region_exA (A := ?A) 4 [(0, 8), (1, 9), (2, 10), (3, 2)] [.val (.iface tb (vb)), .val (.iface tb (vb)), .val (.bool true), .val (.iface tb (vb))] follows (by kernel_rfl) rfl ?hA (opsA_cons ?o0 (opsA_cons ?o1 (opsA_cons ?o2 (opsA_cons ?o3 opsA_nil)))) ?rest
  case hA =>
    intro ptrs
    simp only [full, foldSlots, filledE, postE, List.foldl_cons, List.foldl_nil, List.getD_cons_zero, List.getD_cons_succ, fill_val, List.set_cons_zero, List.set_cons_succ]
    exact rfl
  case o0 => exact fun _ _ _ _ => opE_move (v := .iface tb (vb)) _ rfl rfl rfl
  case o1 => exact fun _ _ _ _ => opE_move (v := .iface tb (vb)) _ rfl rfl rfl
  case o2 => exact fun _ _ hw _ => opE_value (v := .bool true) rfl (run_binop .neq 23 _ _ _ rfl _ _ _ rfl rfl (by kernel_rfl) (by kernel_rfl))
  case o3 => exact fun _ _ _ _ => opE_assign (v := .iface tb (vb)) _ rfl rfl rfl
  intro ptrs w4 GD hxE
  simp only [List.drop_succ_cons, List.drop_zero]
  replace kg1 := GD.has kg1
  replace HO := HO.gro ((Gro.refl _).drew.trans GD)
  replace GG := GG.drew.trans GD
  clear GD
  refine mv 3 (.bool true) (wpList_nil (then_n (wp_ret ?_)))
  refine bodyPost_ret (results_tmp2 Try.results5 _ _ _) rfl ?_
  exact ⟨s1, s2, s3, s4, by show Ending.returned (.tuple #[.iface tb vb, .bool true]) = .returned (.tuple #[bodyV k { f with tr := s1, ids := s2, val := s3, tx := s4 }, .bool true]); rw [hb], HO.mono qa, GG⟩
def numB (g : Fr) : Bool := decide (0 ≤ g.pn) && (decide (0 ≤ g.n) && (decide (0 ≤ g.fi) && (decide (0 ≤ g.fn) && (decide (0 ≤ g.ti) && (decide (0 ≤ g.tn) && decide (0 ≤ g.vn))))))
set_option maxRecDepth 100000 in
set_option maxHeartbeats 4000000 in
theorem numbersRight_any (g : Fr) (w : World) : Calls Try.prog 18 #[.agg (frA g)] w fun e w' => e = .returned (.bool (numB g)) ∧ Gro w w' := by
  show Calls Try.prog 18 #[.agg (c36 g.kind g.pw g.pn g.toA g.a g.b g.n g.fi g.fn g.ti g.tn g.tr g.ids g.key g.vn g.vw g.val g.op g.ttl g.tx)] w _
  refine s_enterR Try.func18 rfl Try.ntmps18 [.agg (c36 g.kind g.pw g.pn g.toA g.a g.b g.n g.fi g.fn g.ti g.tn g.tr g.ids g.key g.vn g.vw g.val g.op g.ttl g.tx)] ?_
  intro U h; simp only [List.length_cons, List.length_nil, List.cons_append, List.nil_append, Nat.reduceAdd, Nat.reduceSub, List.reduceReplicate] at h; subst h
  have GG := Gro.refl w
  refine wp_seq (wp_region_lit ?_)
  refine s_box 1 rfl rfl 40 _ rfl _ rfl (c36 g.kind g.pw g.pn g.toA g.a g.b g.n g.fi g.fn g.ti g.tn g.tr g.ids g.key g.vn g.vw g.val g.op g.ttl g.tx) rfl ?_
  intro w1 g1 G eg1 kg1
  have bg1 := size_base GG eg1
  replace GG := GG.trans G
  clear G eg1
  refine mv 2 (.bool false) (wpList_nil (then_n (wp_seq (wp_region_lit (sv 3 (.pointer (some ⟨g1, 1, none⟩)) (run_fld 40 _ 1 rfl _ _ rfl _) ?_)))))
  simp only [z0, z1]
  refine sv 4 (.pointer (some ⟨g1, 17, none⟩)) (run_fld 29 _ 1 rfl _ _ rfl _) (sv 5 (.int .i64 g.pn) (run_ldc 2 _ rfl g1 17 rfl 40 _ kg1 (na2 _) _ rfl) ?_)
  simp only [z0, z1]
  obtain ⟨p1, hp1⟩ : ∃ p, decide (0 ≤ g.pn) = p := ⟨_, rfl⟩
  refine sv 6 (.bool p1) (run_geqT 2 _ _ _ rfl g.pn 0 rfl rfl p1 hp1 _) ?_
  simp only [z0, z1]
  cases p1
  refine s_val _ rfl rfl (.bool false) rfl ?_
  simp only [z0, z1]
  iterate 3 (refine s_skip _ rfl rfl ?_; simp only [List.set_cons_zero, List.set_cons_succ])
  refine s_val _ rfl rfl (.bool false) rfl ?_
  refine s_val _ rfl rfl (.bool false) rfl ?_
  simp only [z0, z1]
  iterate 4 (refine s_skip _ rfl rfl ?_; simp only [List.set_cons_zero, List.set_cons_succ])
  refine s_val _ rfl rfl (.bool false) rfl ?_
  refine s_val _ rfl rfl (.bool false) rfl ?_
  simp only [z0, z1]
  iterate 4 (refine s_skip _ rfl rfl ?_; simp only [List.set_cons_zero, List.set_cons_succ])
  refine s_val _ rfl rfl (.bool false) rfl ?_
  refine s_val _ rfl rfl (.bool false) rfl ?_
  simp only [z0, z1]
  iterate 4 (refine s_skip _ rfl rfl ?_; simp only [List.set_cons_zero, List.set_cons_succ])
  refine s_val _ rfl rfl (.bool false) rfl ?_
  refine s_val _ rfl rfl (.bool false) rfl ?_
  simp only [z0, z1]
  iterate 4 (refine s_skip _ rfl rfl ?_; simp only [List.set_cons_zero, List.set_cons_succ])
  refine s_val _ rfl rfl (.bool false) rfl ?_
  refine s_val _ rfl rfl (.bool false) rfl ?_
  simp only [z0, z1]
  iterate 5 (refine s_skip _ rfl rfl ?_; simp only [List.set_cons_zero, List.set_cons_succ])
  refine s_val _ rfl rfl (.bool false) rfl ?_
  refine s_val _ rfl rfl (.bool false) rfl ?_
  refine wpList_nil (then_n (wp_ret ?_))
  refine bodyPost_ret (results_tmp Try.results18 _ _ _) rfl ?_
  refine ⟨?_, GG⟩
  show Ending.returned (.bool false) = _
  unfold numB
  rw [hp1]
  first | done | rfl
  refine mv 7 (.bool true) ?_
  simp only [z0, z1]
  refine s_gval 8 rfl rfl (.pointer (some ⟨g1, 51, none⟩)) (run_fld 40 _ 5 rfl _ _ rfl _) (s_gval 9 rfl rfl (.int .i64 g.n) (run_ldc 2 _ rfl g1 51 rfl 40 _ kg1 (na2 _) _ rfl) ?_)
  simp only [z0, z1]
  obtain ⟨p2, hp2⟩ : ∃ p, decide (0 ≤ g.n) = p := ⟨_, rfl⟩
  refine s_gval 10 rfl rfl (.bool p2) (run_geqT 2 _ _ _ rfl g.n 0 rfl rfl p2 hp2 _) ?_
  simp only [z0, z1]
  cases p2
  refine s_val _ rfl rfl (.bool false) rfl ?_
  refine s_val _ rfl rfl (.bool false) rfl ?_
  simp only [z0, z1]
  iterate 4 (refine s_skip _ rfl rfl ?_; simp only [List.set_cons_zero, List.set_cons_succ])
  refine s_val _ rfl rfl (.bool false) rfl ?_
  refine s_val _ rfl rfl (.bool false) rfl ?_
  simp only [z0, z1]
  iterate 4 (refine s_skip _ rfl rfl ?_; simp only [List.set_cons_zero, List.set_cons_succ])
  refine s_val _ rfl rfl (.bool false) rfl ?_
  refine s_val _ rfl rfl (.bool false) rfl ?_
  simp only [z0, z1]
  iterate 4 (refine s_skip _ rfl rfl ?_; simp only [List.set_cons_zero, List.set_cons_succ])
  refine s_val _ rfl rfl (.bool false) rfl ?_
  refine s_val _ rfl rfl (.bool false) rfl ?_
  simp only [z0, z1]
  iterate 4 (refine s_skip _ rfl rfl ?_; simp only [List.set_cons_zero, List.set_cons_succ])
  refine s_val _ rfl rfl (.bool false) rfl ?_
  refine s_val _ rfl rfl (.bool false) rfl ?_
  simp only [z0, z1]
  iterate 5 (refine s_skip _ rfl rfl ?_; simp only [List.set_cons_zero, List.set_cons_succ])
  refine s_val _ rfl rfl (.bool false) rfl ?_
  refine s_val _ rfl rfl (.bool false) rfl ?_
  refine wpList_nil (then_n (wp_ret ?_))
  refine bodyPost_ret (results_tmp Try.results18 _ _ _) rfl ?_
  refine ⟨?_, GG⟩
  show Ending.returned (.bool false) = _
  unfold numB
  rw [hp1, hp2]
  first | done | rfl
  refine mv 11 (.bool true) ?_
  simp only [z0, z1]
  refine mv 12 (.bool true) (s_gval 13 rfl rfl (.pointer (some ⟨g1, 52, none⟩)) (run_fld 40 _ 6 rfl _ _ rfl _) (s_gval 14 rfl rfl (.pointer (some ⟨g1, 52, none⟩)) (run_fld 31 _ 0 rfl _ _ rfl _) ?_))
  simp only [z0, z1]
  refine s_gval 15 rfl rfl (.int .i64 g.fi) (run_ldc 2 _ rfl g1 52 rfl 40 _ kg1 (na2 _) _ rfl) ?_
  simp only [z0, z1]
  obtain ⟨p3, hp3⟩ : ∃ p, decide (0 ≤ g.fi) = p := ⟨_, rfl⟩
  refine s_gval 16 rfl rfl (.bool p3) (run_geqT 2 _ _ _ rfl g.fi 0 rfl rfl p3 hp3 _) ?_
  simp only [z0, z1]
  cases p3
  refine s_val _ rfl rfl (.bool false) rfl ?_
  refine s_val _ rfl rfl (.bool false) rfl ?_
  simp only [z0, z1]
  iterate 4 (refine s_skip _ rfl rfl ?_; simp only [List.set_cons_zero, List.set_cons_succ])
  refine s_val _ rfl rfl (.bool false) rfl ?_
  refine s_val _ rfl rfl (.bool false) rfl ?_
  simp only [z0, z1]
  iterate 4 (refine s_skip _ rfl rfl ?_; simp only [List.set_cons_zero, List.set_cons_succ])
  refine s_val _ rfl rfl (.bool false) rfl ?_
  refine s_val _ rfl rfl (.bool false) rfl ?_
  simp only [z0, z1]
  iterate 4 (refine s_skip _ rfl rfl ?_; simp only [List.set_cons_zero, List.set_cons_succ])
  refine s_val _ rfl rfl (.bool false) rfl ?_
  refine s_val _ rfl rfl (.bool false) rfl ?_
  simp only [z0, z1]
  iterate 5 (refine s_skip _ rfl rfl ?_; simp only [List.set_cons_zero, List.set_cons_succ])
  refine s_val _ rfl rfl (.bool false) rfl ?_
  refine s_val _ rfl rfl (.bool false) rfl ?_
  refine wpList_nil (then_n (wp_ret ?_))
  refine bodyPost_ret (results_tmp Try.results18 _ _ _) rfl ?_
  refine ⟨?_, GG⟩
  show Ending.returned (.bool false) = _
  unfold numB
  rw [hp1, hp2, hp3]
  first | done | rfl
  refine mv 17 (.bool true) ?_
  simp only [z0, z1]
  refine mv 18 (.bool true) (s_gval 19 rfl rfl (.pointer (some ⟨g1, 52, none⟩)) (run_fld 40 _ 6 rfl _ _ rfl _) (s_gval 20 rfl rfl (.pointer (some ⟨g1, 53, none⟩)) (run_fld 31 _ 1 rfl _ _ rfl _) ?_))
  simp only [z0, z1]
  refine s_gval 21 rfl rfl (.int .i64 g.fn) (run_ldc 2 _ rfl g1 53 rfl 40 _ kg1 (na2 _) _ rfl) ?_
  simp only [z0, z1]
  obtain ⟨p4, hp4⟩ : ∃ p, decide (0 ≤ g.fn) = p := ⟨_, rfl⟩
  refine s_gval 22 rfl rfl (.bool p4) (run_geqT 2 _ _ _ rfl g.fn 0 rfl rfl p4 hp4 _) ?_
  simp only [z0, z1]
  cases p4
  refine s_val _ rfl rfl (.bool false) rfl ?_
  refine s_val _ rfl rfl (.bool false) rfl ?_
  simp only [z0, z1]
  iterate 4 (refine s_skip _ rfl rfl ?_; simp only [List.set_cons_zero, List.set_cons_succ])
  refine s_val _ rfl rfl (.bool false) rfl ?_
  refine s_val _ rfl rfl (.bool false) rfl ?_
  simp only [z0, z1]
  iterate 4 (refine s_skip _ rfl rfl ?_; simp only [List.set_cons_zero, List.set_cons_succ])
  refine s_val _ rfl rfl (.bool false) rfl ?_
  refine s_val _ rfl rfl (.bool false) rfl ?_
  simp only [z0, z1]
  iterate 5 (refine s_skip _ rfl rfl ?_; simp only [List.set_cons_zero, List.set_cons_succ])
  refine s_val _ rfl rfl (.bool false) rfl ?_
  refine s_val _ rfl rfl (.bool false) rfl ?_
  refine wpList_nil (then_n (wp_ret ?_))
  refine bodyPost_ret (results_tmp Try.results18 _ _ _) rfl ?_
  refine ⟨?_, GG⟩
  show Ending.returned (.bool false) = _
  unfold numB
  rw [hp1, hp2, hp3, hp4]
  first | done | rfl
  refine mv 23 (.bool true) ?_
  simp only [z0, z1]
  refine mv 24 (.bool true) (s_gval 25 rfl rfl (.pointer (some ⟨g1, 54, none⟩)) (run_fld 40 _ 7 rfl _ _ rfl _) (s_gval 26 rfl rfl (.pointer (some ⟨g1, 54, none⟩)) (run_fld 31 _ 0 rfl _ _ rfl _) ?_))
  simp only [z0, z1]
  refine s_gval 27 rfl rfl (.int .i64 g.ti) (run_ldc 2 _ rfl g1 54 rfl 40 _ kg1 (na2 _) _ rfl) ?_
  simp only [z0, z1]
  obtain ⟨p5, hp5⟩ : ∃ p, decide (0 ≤ g.ti) = p := ⟨_, rfl⟩
  refine s_gval 28 rfl rfl (.bool p5) (run_geqT 2 _ _ _ rfl g.ti 0 rfl rfl p5 hp5 _) ?_
  simp only [z0, z1]
  cases p5
  refine s_val _ rfl rfl (.bool false) rfl ?_
  refine s_val _ rfl rfl (.bool false) rfl ?_
  simp only [z0, z1]
  iterate 4 (refine s_skip _ rfl rfl ?_; simp only [List.set_cons_zero, List.set_cons_succ])
  refine s_val _ rfl rfl (.bool false) rfl ?_
  refine s_val _ rfl rfl (.bool false) rfl ?_
  simp only [z0, z1]
  iterate 5 (refine s_skip _ rfl rfl ?_; simp only [List.set_cons_zero, List.set_cons_succ])
  refine s_val _ rfl rfl (.bool false) rfl ?_
  refine s_val _ rfl rfl (.bool false) rfl ?_
  refine wpList_nil (then_n (wp_ret ?_))
  refine bodyPost_ret (results_tmp Try.results18 _ _ _) rfl ?_
  refine ⟨?_, GG⟩
  show Ending.returned (.bool false) = _
  unfold numB
  rw [hp1, hp2, hp3, hp4, hp5]
  first | done | rfl
  refine mv 29 (.bool true) ?_
  simp only [z0, z1]
  refine mv 30 (.bool true) (s_gval 31 rfl rfl (.pointer (some ⟨g1, 54, none⟩)) (run_fld 40 _ 7 rfl _ _ rfl _) (s_gval 32 rfl rfl (.pointer (some ⟨g1, 55, none⟩)) (run_fld 31 _ 1 rfl _ _ rfl _) ?_))
  simp only [z0, z1]
  refine s_gval 33 rfl rfl (.int .i64 g.tn) (run_ldc 2 _ rfl g1 55 rfl 40 _ kg1 (na2 _) _ rfl) ?_
  simp only [z0, z1]
  obtain ⟨p6, hp6⟩ : ∃ p, decide (0 ≤ g.tn) = p := ⟨_, rfl⟩
  refine s_gval 34 rfl rfl (.bool p6) (run_geqT 2 _ _ _ rfl g.tn 0 rfl rfl p6 hp6 _) ?_
  simp only [z0, z1]
  cases p6
  refine s_val _ rfl rfl (.bool false) rfl ?_
  refine s_val _ rfl rfl (.bool false) rfl ?_
  simp only [z0, z1]
  iterate 5 (refine s_skip _ rfl rfl ?_; simp only [List.set_cons_zero, List.set_cons_succ])
  refine s_val _ rfl rfl (.bool false) rfl ?_
  refine s_val _ rfl rfl (.bool false) rfl ?_
  refine wpList_nil (then_n (wp_ret ?_))
  refine bodyPost_ret (results_tmp Try.results18 _ _ _) rfl ?_
  refine ⟨?_, GG⟩
  show Ending.returned (.bool false) = _
  unfold numB
  rw [hp1, hp2, hp3, hp4, hp5, hp6]
  first | done | rfl
  refine mv 35 (.bool true) ?_
  simp only [z0, z1]
  refine mv 36 (.bool true) (s_gval 37 rfl rfl (.pointer (some ⟨g1, 58, none⟩)) (run_fld 40 _ 10 rfl _ _ rfl _) (s_gval 38 rfl rfl (.pointer (some ⟨g1, 74, none⟩)) (run_fld 38 _ 1 rfl _ _ rfl _) ?_))
  simp only [z0, z1]
  refine s_gval 39 rfl rfl (.pointer (some ⟨g1, 74, none⟩)) (run_fld 35 _ 0 rfl _ _ rfl _) (s_gval 40 rfl rfl (.int .i64 g.vn) (run_ldc 2 _ rfl g1 74 rfl 40 _ kg1 (na2 _) _ rfl) ?_)
  simp only [z0, z1]
  obtain ⟨p7, hp7⟩ : ∃ p, decide (0 ≤ g.vn) = p := ⟨_, rfl⟩
  refine s_gval 41 rfl rfl (.bool p7) (run_geqT 2 _ _ _ rfl g.vn 0 rfl rfl p7 hp7 _) ?_
  simp only [z0, z1]
  cases p7
  refine s_val _ rfl rfl (.bool false) rfl ?_
  refine s_val _ rfl rfl (.bool false) rfl ?_
  refine wpList_nil (then_n (wp_ret ?_))
  refine bodyPost_ret (results_tmp Try.results18 _ _ _) rfl ?_
  refine ⟨?_, GG⟩
  show Ending.returned (.bool false) = _
  unfold numB
  rw [hp1, hp2, hp3, hp4, hp5, hp6, hp7]
  first | done | rfl
  refine mv 42 (.bool true) ?_
  simp only [z0, z1]
  refine mv 2 (.bool true) (wpList_nil (then_n (wp_ret ?_)))
  refine bodyPost_ret (results_tmp Try.results18 _ _ _) rfl ?_
  refine ⟨?_, GG⟩
  show Ending.returned (.bool true) = _
  unfold numB
  rw [hp1, hp2, hp3, hp4, hp5, hp6, hp7]
  first | done | rfl
def noPl (n : Int) : Bool := decide (n < 0) || decide (6 ≤ n)
set_option maxHeartbeats 800000 in
theorem noPlace_any (n : Int) (w : World) : Calls Try.prog 30 #[.int .i64 n] w fun e w' => e = .returned (.bool (noPl n)) ∧ w' = w := by
  unfold noPl
  cases h1 : decide (n < 0)
  · obtain ⟨p, hp⟩ : ∃ p, decide (6 ≤ n) = p := ⟨_, rfl⟩
    rw [hp]
    go_enter Try.func30, Try.ntmps30
    go_wp2_with (first | (with_reducible refine wpList_at ?_; first | (refine wpList_value_d 4 rfl rfl (.bool false) (run_lss64 _ _ _ rfl n 0 rfl rfl false h1 _) ?_; (try simp only [Act.put, List.setIfInBounds_toArray, List.set_cons_zero, List.set_cons_succ])) | (refine wpList_gvalue_d 7 rfl rfl (.bool p) (run_geq64 _ _ _ rfl n 6 rfl rfl p hp _) ?_; (try simp only [Act.put, List.setIfInBounds_toArray, List.set_cons_zero, List.set_cons_succ]))))
    go_ret
    exact ⟨by cases p <;> rfl, rfl⟩
  · go_enter Try.func30, Try.ntmps30
    go_wp2_with (first | (with_reducible refine wpList_at ?_; first | (refine wpList_value_d 4 rfl rfl (.bool true) (run_lss64 _ _ _ rfl n 0 rfl rfl true h1 _) ?_; (try simp only [Act.put, List.setIfInBounds_toArray, List.set_cons_zero, List.set_cons_succ]))))
    go_ret
    exact ⟨rfl, rfl⟩
def trOK (l : List Int) : Bool := l.all fun x => !noPl x
theorem trOK_iff (l : List Int) : trOK l = true ↔ ∀ x ∈ l, 0 ≤ x ∧ x ≤ 5 := by
  unfold trOK noPl
  rw [List.all_eq_true]
  constructor
  · intro h x hx
    have := h x hx
    simp at this
    omega
  · intro h x hx
    have := h x hx
    simp
    omega
set_option maxHeartbeats 3200000 in
theorem indexFunc_any (ao : Option Addr) (cap : Nat) (l : List Int) (w : World) (HC : XC w 1 ao cap l.length (l.map (Value.int .i64 ·))) (hlen : l.length ≤ 140737488355000) : Calls Try.prog 48 #[.slice ao l.length cap, .func (.func 30) #[] #[]] w fun e w' => (∃ z : Int, e = .returned (.int .i64 z) ∧ (decide (0 ≤ z)) = !trOK l) ∧ w' = w := by
  go_enter Try.func48, Try.ntmps48
  go_wp2
  go_loopw [8] (fun i wr => ∃ j : Nat, j ≤ l.length ∧ i = .int .i64 (j : Int) ∧ Shut (trOK (l.take j) = true) ∧ wr = w) (fun i _ => l.length - (intOf i).toNat)
  case atStart => exact ⟨0, by omega, rfl, ⟨rfl⟩, rfl⟩
  case round =>
    obtain ⟨j, hj, rfl, HT, rfl⟩ := hrel
    cases hlt : decide ((j : Int) < (l.length : Int))
    · have ej : j = l.length := by simp at hlt; omega
      have E1 : Shut (trOK l = true) := ⟨by have := HT.out; rw [ej, List.take_length] at this; exact this⟩
      clear ej
      go_wp2_with (first | (with_reducible refine wpList_at ?_; first | (refine wpList_value_d 9 rfl rfl (.bool false) (run_lss64 _ _ _ rfl (j : Int) (l.length : Int) rfl rfl false hlt _) ?_; (try simp only [Act.put, List.setIfInBounds_toArray, List.set_cons_zero, List.set_cons_succ]))))
      go_ret
      exact ⟨⟨-1, rfl, by rw [E1.out]; rfl⟩, rfl⟩
    · have hjl : j < l.length := by simp at hlt; omega
      obtain ⟨ad, rfl, hc⟩ := xc_at1 HC hjl
      have HS : Shut _ := ⟨take_one l 0 j hjl⟩
      have HM : Shut (l.getD j 0 ∈ l) := ⟨getD_mem l 0 j hjl⟩
      obtain ⟨x, hx⟩ : ∃ x, l.getD j 0 = x := ⟨_, rfl⟩
      rw [hx] at hc HS HM
      clear hx
      have HCc : Shut _ := ⟨hc⟩
      clear hc
      cases hx : noPl x
      · have HT2 : Shut (trOK (l.take (j + 1)) = true) := ⟨by rw [HS.out]; unfold trOK; rw [List.all_append]; have := HT.out; unfold trOK at this; rw [this]; simp [hx]⟩
        have HN : Calls Try.prog 30 #[.int .i64 x] wr fun e w' => e = .returned (.bool false) ∧ w' = wr := by rw [← hx]; exact noPlace_any x wr
        go_wp2_with (first | (go_at_call 30; refine (HN).mono ?_; rintro e wN ⟨rfl, rfl⟩) | (with_reducible refine wpList_at ?_; first | (refine wpList_value_d 9 rfl rfl (.bool true) (run_lss64 _ _ _ rfl (j : Int) (l.length : Int) rfl rfl true hlt _) ?_; (try simp only [Act.put, List.setIfInBounds_toArray, List.set_cons_zero, List.set_cons_succ])) | (refine wpList_value_d 14 rfl rfl (.pointer (some (ad.add j))) (run_idx1 iT28 _ _ rfl ad l.length cap j rfl rfl hjl _) ?_; (try simp only [Act.put, List.setIfInBounds_toArray, List.set_cons_zero, List.set_cons_succ])) | (refine wpList_value_d 15 rfl rfl (.int .i64 x) (run_ldc1 3 (na3 _) _ rfl (ad.add j) rfl _ HCc.out) ?_; (try simp only [Act.put, List.setIfInBounds_toArray, List.set_cons_zero, List.set_cons_succ]))))
        go_light
        go_roundw
        case rel => exact ⟨j + 1, by omega, by go_num, HT2, trivial⟩
        case measure => simp [intOf]; omega
      · have E1 : Shut (trOK l = false) := ⟨by
          cases h : trOK l
          · rfl
          · unfold trOK at h
            rw [List.all_eq_true] at h
            have := h x HM.out
            rw [hx] at this
            cases this⟩
        have HN : Calls Try.prog 30 #[.int .i64 x] wr fun e w' => e = .returned (.bool true) ∧ w' = wr := by rw [← hx]; exact noPlace_any x wr
        go_wp2_with (first | (go_at_call 30; refine (HN).mono ?_; rintro e wN ⟨rfl, rfl⟩) | (with_reducible refine wpList_at ?_; first | (refine wpList_value_d 9 rfl rfl (.bool true) (run_lss64 _ _ _ rfl (j : Int) (l.length : Int) rfl rfl true hlt _) ?_; (try simp only [Act.put, List.setIfInBounds_toArray, List.set_cons_zero, List.set_cons_succ])) | (refine wpList_value_d 14 rfl rfl (.pointer (some (ad.add j))) (run_idx1 iT28 _ _ rfl ad l.length cap j rfl rfl hjl _) ?_; (try simp only [Act.put, List.setIfInBounds_toArray, List.set_cons_zero, List.set_cons_succ])) | (refine wpList_value_d 15 rfl rfl (.int .i64 x) (run_ldc1 3 (na3 _) _ rfl (ad.add j) rfl _ HCc.out) ?_; (try simp only [Act.put, List.setIfInBounds_toArray, List.set_cons_zero, List.set_cons_succ]))))
        go_ret
        exact ⟨⟨(j : Int), rfl, by rw [E1.out]; simp⟩, rfl⟩
set_option maxHeartbeats 800000 in
theorem containsFunc_any (ao : Option Addr) (cap : Nat) (l : List Int) (w : World) (HC : XC w 1 ao cap l.length (l.map (Value.int .i64 ·))) (hlen : l.length ≤ 140737488355000) : Calls Try.prog 29 #[.slice ao l.length cap, .func (.func 30) #[] #[]] w fun e w' => e = .returned (.bool (!trOK l)) ∧ Gro w w' := by
  go_enter Try.func29, Try.ntmps29
  go_wp2_with (first | (go_at_call 48; refine (indexFunc_any ao cap l w HC hlen).mono ?_; rintro e wN ⟨⟨z, rfl, hz⟩, rfl⟩) | (with_reducible refine wpList_at ?_; first | (refine wpList_value_d 8 rfl rfl (.bool (!trOK l)) (run_geq64 _ _ _ rfl z 0 rfl rfl _ hz _) ?_; (try simp only [Act.put, List.setIfInBounds_toArray, List.set_cons_zero, List.set_cons_succ]))))
  go_ret
  exact ⟨rfl, Gro.refl _⟩
end Go.Proofs.Ythmcnlmphikicab
