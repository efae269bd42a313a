/- The chapter's example (fixed); a nil disk. -/
import Derived.Test.YtcobgelcpgnndaaD5
namespace Go.Proofs.Ytcobgelcpgnndaa
open Go.RowKit

def zrowE (n : Nat) : PostE := PostE.ex (fun v w => ∃ g, v = .slice (some ⟨g, 0, none⟩) n n ∧ w.heap[g]? = some (.cells (bv (zs n)) 5 (0, 0))) (fun _ _ _ G ⟨g, h, k⟩ => ⟨g, h, G.has k⟩)
theorem fill_zrow (n : Nat) (v : Value) : (zrowE n).fill v = v := rfl
theorem run_mkb {o : Oper} {A : Act} (x y : Operand) (ho : o.op = .makeSlice 28 x y) (n : Nat) (hx : A.eval x = .int .i64 (n : Int)) (hy : A.eval y = .int .i64 (n : Int)) (hn : n ≤ 1000) (w : World) :
    ∃ w', (execOp A.eval o).run Try.prog w = .ok (.value (.slice (some ⟨w.heap.size, 0, none⟩) n n)) w' ∧ Gro w w' ∧ w'.heap[w.heap.size]? = some (.cells (bv (zs n)) 5 (0, 0)) := by
  obtain ⟨i, hi, hz, hsz, hby⟩ := bT.info
  obtain ⟨w', hrun, h1, h2⟩ := run_make_full (P := Try.prog) w w.heap.size 28 5 i (.int .u8 0) 1 bT.und hi hz hsz .i64 .i64 n (by rw [hby]; omega) (by simp only [maxLen]; omega) (Nat.le_refl _)
  refine ⟨w', ?_, ⟨h2.os, h2.tape, h2.output, h2.size, fun k hk => h2.block k hk (by simp)⟩, ?_⟩
  · unfold execOp
    simp only [ho, hx, hy, Sem.run_bind, hrun, Result.andThen_ok, Sem.run_pure]
  · rcases h1.2 with ⟨h3, _⟩ | ⟨g, c, cur, h3, _, h4, _, _, h5, h6⟩
    · cases h3
    · injection h3 with e1 e2 e3
      injection e1 with e1
      injection e1 with e1
      subst e1 e3
      have : cur = bv (zs n) := by
        apply Array.toList_inj.1
        have e7 : (Value.int .u8 0).cells = #[.int .u8 0] := rfl
        rw [e7, made_bv, Nat.mul_one, List.take_of_length_le (by simp; omega)] at h6
        exact h6
      rw [← this]
      exact h4
theorem mkbE {ops : Array Oper} {o : Oper} {A : Act} {w : World} (hw : Region.wanted o (yielded ops A.tmps) = true) (x y : Operand) (ho : o.op = .makeSlice 28 x y) (n : Nat) (hx : A.eval x = .int .i64 (n : Int)) (hy : A.eval y = .int .i64 (n : Int)) (hn : n ≤ 1000) : OpE Try.prog ops (zrowE n) o A w := by
  obtain ⟨w', h1, h2, h3⟩ := run_mkb x y ho n hx hy hn w
  exact opE_new (zrowE n) hw h1 h2 ⟨_, rfl, h3⟩
def LF : List Nat := wr (zs (2 * 64)) (0 * 64) (padS [7])
theorem secF : secL LF 1 = zs 64 := by decide
theorem nc_7 {w : World} {g : Nat} (hg : w.heap[g]? = some (.cells #[.int .u8 7] 5 (0, 0))) : NC w .u8 (some ⟨g, 0, none⟩) 1 [7] :=
  nc_blk (L := [7]) (off := 0) (n := 1) (cap := 1) hg (by decide) (by decide) (by decide)
theorem nc_all {w : World} {g : Nat} {L : List Nat} {t : TypeId} (hg : w.heap[g]? = some (.cells (bv L) t (0, 0))) (hL : ∀ x ∈ L, x < 256) : NC w .u8 (some ⟨g, 0, none⟩) L.length L := by
  have h := nc_blk (off := 0) (n := L.length) (cap := L.length) hg (by omega) (Nat.le_refl _) hL
  rwa [List.drop_zero, List.take_length] at h
theorem nc_z {w : World} {g : Nat} {t : TypeId} (hg : w.heap[g]? = some (.cells (bv (zs 64)) t (0, 0))) : NC w .u8 (some ⟨g, 0, none⟩) 64 (zs 64) := nc_all hg (zs_byte 64)
theorem nc_F {w : World} {g : Nat} (hg : w.heap[g]? = some (.cells (bv (secL LF 1)) 5 (0, 0))) : NC w .u8 (some ⟨g, 0, none⟩) 64 (zs 64) := by
  rw [secF] at hg
  exact nc_z hg
section
variable {P : Program} {ops : Array Oper} {rest : List Oper} {o : Oper} {T : List Value} {ds : List Deferred} {w : World} {Q : Exit → Act → World → Prop}
/-- A guarded call that returns something. -/
theorem s_gcallxY {gi d : Nat} {b : Bool} (dst : Nat) (hd : o.dst = some dst) (hg : o.guard = some (gi, b)) (y : ∀ T, yielded ops T gi = yv T d) (hv : (yv T.toArray d == some b) = true) (c : Call) (f : FuncId) (hen : ∀ args w, (callFunc f args).run P w = .ok (.enter f args) w) (ho : o.op = .call c) (hc : c.callee = .value (.func f)) (xs : List Operand) (hxs : c.args = xs.toArray) (vs : List Value) (hvs : xs.map (Act.eval ⟨T.toArray, ds⟩) = vs)
    {R : Ending → World → Prop} (H : Calls P f vs.toArray w R) (hR : ∀ e w', R e w' → ∃ v, e = .returned v)
    (h : ∀ v w', R (.returned v) w' → wpList P ops Q rest ⟨(T.set dst v).toArray, ds⟩ w') : wpList P ops Q (o :: rest) ⟨T.toArray, ds⟩ w :=
  wpList_step fun K hK => by
    rw [if_pos (wanted_yv hg y hv)]
    unfold Oper.wp
    rw [run_call c f hen ho hc, hxs, List.map_toArray, hvs, Oper.upon_enter]
    refine H.mono fun e w' hr => ?_
    obtain ⟨v, rfl⟩ := hR _ _ hr
    have := h v w' hr
    rw [← put_list, ← hd] at this
    exact hK _ _ this
end
set_option maxRecDepth 100000 in
set_option maxHeartbeats 4000000 in
theorem fixed_true (w : World) : Calls Try.prog 10 #[] w fun e w' => e = .returned (.bool true) ∧ Gro w w' := by
  refine s_enter Try.func10 rfl Try.ntmps10 [] [undef, undef, undef, undef, undef, undef, undef, undef, undef, undef, undef, undef, undef, undef, undef, undef, undef, undef, undef, undef, undef, undef, undef, undef, undef, undef, undef, undef, undef, undef, undef, undef, undef, undef, undef, undef, undef, undef, undef, undef, undef, undef, undef, undef, undef, undef, undef, undef, undef] rfl ?_
  have GG := Gro.refl w
  refine wp_seq ?_
  refine wp_region_lit ?_
  refine s_val 0 rfl rfl (.bool false) (rfl) ?_
  refine nr ?_; intro U h; simp only [z0] at h; subst h
  refine wpList_nil ?_
  refine then_n ?_
  refine wp_seq ?_
  refine wp_region_lit ?_
  refine s_callx 6 rfl rfl _ 8 Try.call8 rfl rfl _ rfl [.int .i64 2] rfl (new_any _ 2) (fun _ _ ⟨_, _, he, _⟩ => ⟨_, he⟩) ?_
  rintro v w1 ⟨p, sg, he, G, bp, bsg, HD⟩
  cases he
  have eN : clN 2 = 2 := by decide
  rw [eN] at HD
  clear eN
  replace bp := Nat.le_trans GG.size bp
  replace bsg := Nat.le_trans GG.size bsg
  replace GG := GG.trans G
  clear G
  refine nr ?_; intro U h; simp only [z0, z1] at h; subst h
  have hlp := lt_of_heap HD.box
  have hls := lt_of_heap HD.sec
  refine s_val 1 rfl rfl (.pointer (some ⟨p, 0, none⟩)) (rfl) ?_
  refine nr ?_; intro U h; simp only [z0, z1] at h; subst h
  refine wpList_nil ?_
  refine then_n ?_
  refine wp_seq ?_
  refine wp_seq ?_
  refine wp_region_lit ?_
  refine s_val 7 rfl rfl (.pointer (some ⟨p, 0, none⟩)) (rfl) ?_
  refine nr ?_; intro U h; simp only [z0, z1] at h; subst h
  refine s_val 8 rfl rfl (.bool false) (run_eqnp 23 _ _ _ rfl _ rfl rfl Try.underlying23 _) ?_
  refine nr ?_; intro U h; simp only [z0, z1] at h; subst h
  refine wpList_nil ?_
  refine then_n ?_
  refine wp_cond_false rfl ?_
  refine wp_skip ?_
  refine then_n ?_
  refine wp_seq ?_
  refine wp_region_lit ?_
  refine s_val 9 rfl rfl (.pointer (some ⟨p, 0, none⟩)) (rfl) ?_
  refine nr ?_; intro U h; simp only [z0, z1] at h; subst h
  refine s_callx 10 rfl rfl _ 13 Try.call13 rfl rfl _ rfl [.pointer (some ⟨p, 0, none⟩), .int .i64 1] rfl (power_any _ p sg 2 (zs (2 * 64)) (-1) 0 HD 1) (fun _ _ ⟨he, _⟩ => ⟨_, he⟩) ?_
  rintro v w2 ⟨he, G, HD2⟩
  cases he
  replace GG := G.gro GG (by simp; omega)
  clear G HD
  have HD := HD2
  clear HD2
  refine nr ?_; intro U h; simp only [z0, z1] at h; subst h
  refine wpList_nil ?_
  refine then_n ?_
  refine wp_seq ?_
  refine wp_region_lit ?_
  refine s_val 11 rfl rfl (.pointer (some ⟨p, 0, none⟩)) (rfl) ?_
  refine nr ?_; intro U h; simp only [z0, z1] at h; subst h
  refine s_bsl 12 rfl rfl 28 1 _ rfl [(0, .int .u8 7)] rfl #[.int .u8 7] 5 (by kernel_rfl) ?_
  intro w3 gb1 G egb1 kgb1
  have hbgb1 : gb1 ≠ p ∧ gb1 ≠ sg := by have := lt_of_heap HD.box; have := lt_of_heap HD.sec; omega
  replace HD := HD.gro G
  replace GG := GG.trans G
  clear G
  refine nr ?_; intro U h; simp only [z0, z1] at h; subst h
  refine s_callx 13 rfl rfl _ 11 Try.call11 rfl rfl _ rfl [.pointer (some ⟨p, 0, none⟩), .int .i64 0, .slice (some ⟨gb1, 0, none⟩) 1 1] rfl (write_ok _ p sg 2 _ _ _ HD (some ⟨gb1, 0, none⟩) 1 [7] ⟨nc_7 kgb1, fun ad ha _ => by cases ha; simp; exact hbgb1⟩ 0 (by decide) (by decide) (by decide) (by decide) (by decide) (by decide)) (fun _ _ ⟨he, _⟩ => ⟨_, he⟩) ?_
  rintro v w4 ⟨he, G, HD2⟩
  cases he
  replace GG := G.gro GG (by simp; omega)
  clear G HD
  have HD := HD2
  clear HD2
  refine nr ?_; intro U h; simp only [z0, z1] at h; subst h
  refine s_val 2 rfl rfl (.int .i64 0) (rfl) ?_
  refine nr ?_; intro U h; simp only [z0, z1] at h; subst h
  refine wpList_nil ?_
  refine then_n ?_
  refine wp_seq ?_
  refine wp_region_lit ?_
  refine s_val 14 rfl rfl (.pointer (some ⟨p, 0, none⟩)) (rfl) ?_
  refine nr ?_; intro U h; simp only [z0, z1] at h; subst h
  refine s_bsl 15 rfl rfl 28 1 _ rfl [(0, .int .u8 7)] rfl #[.int .u8 7] 5 (by kernel_rfl) ?_
  intro w5 gb2 G egb2 kgb2
  have hbgb2 : gb2 ≠ p ∧ gb2 ≠ sg := by have := lt_of_heap HD.box; have := lt_of_heap HD.sec; omega
  replace HD := HD.gro G
  replace GG := GG.trans G
  clear G
  refine nr ?_; intro U h; simp only [z0, z1] at h; subst h
  refine s_callv 16 rfl rfl _ 11 Try.call11 rfl rfl _ rfl [.pointer (some ⟨p, 0, none⟩), .int .i64 1, .slice (some ⟨gb2, 0, none⟩) 1 1] rfl (write_down _ p sg 2 _ _ _ HD (by decide) (some ⟨gb2, 0, none⟩) 1 [7] 1 (by decide) (by decide)) ?_
  intro w6 G
  replace HD := HD.gro G
  replace GG := GG.trans G
  clear G
  refine nr ?_; intro U h; simp only [z0, z1] at h; subst h
  refine s_val 3 rfl rfl (.int .i64 8) (rfl) ?_
  refine nr ?_; intro U h; simp only [z0, z1] at h; subst h
  refine wpList_nil ?_
  refine then_n ?_
  refine wp_seq ?_
  refine wp_region_lit ?_
  refine s_val 18 rfl rfl (.pointer (some ⟨p, 0, none⟩)) (rfl) ?_
  refine nr ?_; intro U h; simp only [z0, z1] at h; subst h
  refine s_callx 19 rfl rfl _ 14 Try.call14 rfl rfl _ rfl [.pointer (some ⟨p, 0, none⟩), .int .i64 1] rfl (read_ok _ p sg 2 _ _ _ HD 1 (by decide)) (fun _ _ ⟨_, he, _⟩ => ⟨_, he⟩) ?_
  rintro v w7 ⟨gr, he, G, _, kr⟩
  cases he
  replace HD := HD.gro G
  replace GG := GG.trans G
  clear G
  refine nr ?_; intro U h; simp only [z0, z1] at h; subst h
  refine s_val 17 rfl rfl (.tuple #[.slice (some ⟨gr, 0, none⟩) 64 64, .int .i64 0]) (rfl) ?_
  refine nr ?_; intro U h; simp only [z0, z1] at h; subst h
  refine s_val 20 rfl rfl (.slice (some ⟨gr, 0, none⟩) 64 64) (rfl) ?_
  refine nr ?_; intro U h; simp only [z0, z1] at h; subst h
  refine s_val 21 rfl rfl (.int .i64 0) (rfl) ?_
  refine nr ?_; intro U h; simp only [z0, z1] at h; subst h
  refine s_val 4 rfl rfl (.slice (some ⟨gr, 0, none⟩) 64 64) (rfl) ?_
  refine nr ?_; intro U h; simp only [z0, z1] at h; subst h
  refine s_val 5 rfl rfl (.int .i64 0) (rfl) ?_
  refine nr ?_; intro U h; simp only [z0, z1] at h; subst h
  refine wpList_nil ?_
  refine then_n ?_
  refine wp_seq ?_
  refine wp_region_exA (A := ?A) 15 [(0, 22), (1, 23), (2, 24), (3, 25), (4, 26), (5, 27), (6, 28), (7, 29), (8, 30), (9, 31), (10, 32), (11, 33), (12, 34), (13, 35), (14, 36)] [.val (.int .i64 0), .val (.bool true), .val (.bool true), .val (.int .i64 8), .val (.bool true), .val (.bool true), .val (.bool true), .val (.int .i64 0), .val (.bool true), .val (.bool true), .val (.bool true), .val (.slice (some ⟨gr, 0, none⟩) 64 64), .val (.string (bas (zs 64))), zrowE 64, .val (.string (bas (zs 64)))] follows (by kernel_rfl) rfl ?hA (opsA_cons ?o0 (opsA_cons ?o1 (opsA_cons ?o2 (opsA_cons ?o3 (opsA_cons ?o4 (opsA_cons ?o5 (opsA_cons ?o6 (opsA_cons ?o7 (opsA_cons ?o8 (opsA_cons ?o9 (opsA_cons ?o10 (opsA_cons ?o11 (opsA_cons ?o12 (opsA_cons ?o13 (opsA_cons ?o14 opsA_nil))))))))))))))) ?rest
  case hA =>
    intro ptrs
    simp only [full, foldSlots, filledE, postE, List.foldl_cons, List.foldl_nil, List.getD_cons_zero, List.getD_cons_succ, fill_val, fill_zrow, List.set_cons_zero, List.set_cons_succ]
    exact rfl
  case o0 => exact fun _ _ _ _ => opE_move (v := .int .i64 0) _ rfl rfl rfl
  case o1 => exact fun _ _ hw _ => opE_value (v := .bool true) rfl (run_eq_k 31 .i64 _ _ _ rfl Try.underlying31 _ _ rfl rfl true rfl _)
  case o2 => exact fun _ _ _ _ => opE_move (v := .bool true) _ rfl rfl rfl
  case o3 => exact fun _ _ _ _ => opE_move (v := .int .i64 8) _ rfl rfl rfl
  case o4 => exact fun _ _ hw _ => opE_value (v := .bool true) rfl (run_eq_k 31 .i64 _ _ _ rfl Try.underlying31 _ _ rfl rfl true rfl _)
  case o5 => exact fun _ _ _ _ => opE_pick (v := .bool true) _ _ _ rfl rfl true rfl rfl
  case o6 => exact fun _ _ _ _ => opE_move (v := .bool true) _ rfl rfl rfl
  case o7 => exact fun _ _ _ _ => opE_move (v := .int .i64 0) _ rfl rfl rfl
  case o8 => exact fun _ _ hw _ => opE_value (v := .bool true) rfl (run_eq_k 31 .i64 _ _ _ rfl Try.underlying31 _ _ rfl rfl true rfl _)
  case o9 => exact fun _ _ _ _ => opE_pick (v := .bool true) _ _ _ rfl rfl true rfl rfl
  case o10 => exact fun _ _ _ _ => opE_move (v := .bool true) _ rfl rfl rfl
  case o11 => exact fun _ _ _ _ => opE_move (v := .slice (some ⟨gr, 0, none⟩) 64 64) _ rfl rfl rfl
  case o12 => exact fun _ _ hw _ => opE_value (v := .string (bas (zs 64))) rfl (run_text_op bT 9 Try.underlying9 _ rfl (l := zs 64) (cap := 64) rfl (nc_F (hw.has kr)))
  case o13 => exact fun _ _ _ _ => mkbE rfl _ _ rfl 64 rfl rfl (by decide)
  case o14 =>
    intro ptrs w' hw hE
    obtain ⟨⟨g35, h35, o35⟩, _⟩ := hE
    exact opE_value (v := .string (bas (zs 64))) rfl (run_text_op bT 9 Try.underlying9 _ rfl (l := zs 64) (cap := 64) (by exact h35) (nc_z o35))
  intro ptrs w8 GD hxE
  simp only [List.drop_succ_cons, List.drop_zero]
  replace HD := HD.gro ((Gro.refl _).drew.trans GD)
  replace GG := GG.drew.trans GD
  clear GD
  refine s_gval 37 rfl rfl (.bool true) (run_eqs_op _ _ _ rfl _ _ rfl rfl true (decide_eq_true rfl) _) ?_
  refine nr ?_; intro U h; simp only [z0, z1] at h; subst h
  refine s_val 38 rfl rfl (.bool true) (rfl) ?_
  refine nr ?_; intro U h; simp only [z0, z1] at h; subst h
  refine s_val 39 rfl rfl (.bool true) (rfl) ?_
  refine nr ?_; intro U h; simp only [z0, z1] at h; subst h
  refine s_gval 40 rfl rfl (.pointer (some ⟨p, 0, none⟩)) (rfl) ?_
  refine nr ?_; intro U h; simp only [z0, z1] at h; subst h
  refine s_gcallv 41 rfl rfl _ 16 Try.call16 rfl rfl _ rfl [.pointer (some ⟨p, 0, none⟩)] rfl (done_any _ p sg 2 _ _ _ HD) ?_
  intro w9 G
  replace HD := HD.gro G
  replace GG := GG.trans G
  clear G
  refine nr ?_; intro U h; simp only [z0, z1] at h; subst h
  refine s_gval 42 rfl rfl (.bool true) (run_eq_k 3 .i64 _ _ _ rfl Try.underlying3 _ _ rfl rfl true rfl _) ?_
  refine nr ?_; intro U h; simp only [z0, z1] at h; subst h
  refine s_val 43 rfl rfl (.bool true) (rfl) ?_
  refine nr ?_; intro U h; simp only [z0, z1] at h; subst h
  refine s_val 44 rfl rfl (.bool true) (rfl) ?_
  refine nr ?_; intro U h; simp only [z0, z1] at h; subst h
  refine s_gval 45 rfl rfl (.pointer (some ⟨p, 0, none⟩)) (rfl) ?_
  refine nr ?_; intro U h; simp only [z0, z1] at h; subst h
  refine s_gcallv 46 rfl rfl _ 17 Try.call17 rfl rfl _ rfl [.pointer (some ⟨p, 0, none⟩)] rfl (size_any _ p sg 2 _ _ _ HD) ?_
  intro w10 G
  replace HD := HD.gro G
  replace GG := GG.trans G
  clear G
  refine nr ?_; intro U h; simp only [z0, z1] at h; subst h
  refine s_gval 47 rfl rfl (.bool true) (run_eq_k 3 .i64 _ _ _ rfl Try.underlying3 _ _ rfl rfl true rfl _) ?_
  refine nr ?_; intro U h; simp only [z0, z1] at h; subst h
  refine s_val 48 rfl rfl (.bool true) (rfl) ?_
  refine nr ?_; intro U h; simp only [z0, z1] at h; subst h
  refine s_val 0 rfl rfl (.bool true) (rfl) ?_
  refine nr ?_; intro U h; simp only [z0] at h; subst h
  refine wpList_nil ?_
  refine then_n ?_
  refine wp_ret ?_
  refine bodyPost_ret (results_tmp Try.results10 _ _ _) rfl ?_
  exact ⟨rfl, GG⟩
set_option maxRecDepth 100000 in
set_option maxHeartbeats 4000000 in
theorem diskNil_any (w : World) (i : Int) (ao : Option Addr) (cap : Nat) (l : List Nat) : Calls Try.prog 6 #[.int .i64 i, .slice ao l.length cap] w fun e w' => e = .returned (.bool true) ∧ Gro w w' := by
  refine s_enter Try.func6 rfl Try.ntmps6 [.int .i64 i, .slice ao l.length cap] [.int .i64 i, .slice ao l.length cap, undef, undef, undef, undef, undef, undef, undef, undef, undef, undef, undef, undef, undef, undef, undef, undef, undef, undef, undef, undef, undef, undef, undef, undef, undef, undef, undef, undef, undef, undef, undef, undef, undef, undef, undef, undef, undef, undef, undef, undef, undef, undef, undef, undef, undef, undef, undef, undef] rfl ?_
  have GG := Gro.refl w
  refine wp_seq ?_
  refine wp_region_lit ?_
  refine s_val 4 rfl rfl (.bool false) (rfl) ?_
  refine nr ?_; intro U h; simp only [z0, z1] at h; subst h
  refine wpList_nil ?_
  refine then_n ?_
  refine wp_seq ?_
  refine wp_region_lit ?_
  refine s_val 5 rfl rfl (.pointer none) (rfl) ?_
  refine nr ?_; intro U h; simp only [z0, z1] at h; subst h
  refine wpList_nil ?_
  refine then_n ?_
  refine wp_seq ?_
  refine wp_region_lit ?_
  refine s_val 8 rfl rfl (.pointer none) (rfl) ?_
  refine nr ?_; intro U h; simp only [z0, z1] at h; subst h
  refine s_val 9 rfl rfl (.int .i64 i) (rfl) ?_
  refine nr ?_; intro U h; simp only [z0, z1] at h; subst h
  refine s_callv 10 rfl rfl _ 13 Try.call13 rfl rfl _ rfl [.pointer none, .int .i64 i] rfl (power_nil _ i) ?_
  intro w1 G
  replace GG := GG.trans G
  clear G
  refine nr ?_; intro U h; simp only [z0, z1] at h; subst h
  refine wpList_nil ?_
  refine then_n ?_
  refine wp_seq ?_
  refine wp_region_lit ?_
  refine s_val 12 rfl rfl (.pointer none) (rfl) ?_
  refine nr ?_; intro U h; simp only [z0, z1] at h; subst h
  refine s_val 13 rfl rfl (.int .i64 i) (rfl) ?_
  refine nr ?_; intro U h; simp only [z0, z1] at h; subst h
  refine s_callv 14 rfl rfl _ 14 Try.call14 rfl rfl _ rfl [.pointer none, .int .i64 i] rfl (read_nil _ i) ?_
  intro w2 G
  replace GG := GG.trans G
  clear G
  refine nr ?_; intro U h; simp only [z0, z1] at h; subst h
  refine s_val 11 rfl rfl (.tuple #[.slice none 0 0, .int .i64 1]) (rfl) ?_
  refine nr ?_; intro U h; simp only [z0, z1] at h; subst h
  refine s_val 15 rfl rfl (.slice none 0 0) (rfl) ?_
  refine nr ?_; intro U h; simp only [z0, z1] at h; subst h
  refine s_val 16 rfl rfl (.int .i64 1) (rfl) ?_
  refine nr ?_; intro U h; simp only [z0, z1] at h; subst h
  refine s_val 6 rfl rfl (.slice none 0 0) (rfl) ?_
  refine nr ?_; intro U h; simp only [z0, z1] at h; subst h
  refine s_val 7 rfl rfl (.int .i64 1) (rfl) ?_
  refine nr ?_; intro U h; simp only [z0, z1] at h; subst h
  refine wpList_nil ?_
  refine then_n ?_
  refine wp_seq ?_
  refine wp_region_opq ?_
  intro OPS hY
  have y1 := hY 1 18 rfl
  have y6 := hY 6 23 rfl
  have y11 := hY 11 28 rfl
  have y17 := hY 17 34 rfl
  have y22 := hY 22 39 rfl
  have y26 := hY 26 43 rfl
  clear hY
  refine s_callv 17 rfl rfl _ 10 Try.call10 rfl rfl _ rfl [] rfl (fixed_true _) ?_
  intro w3 G
  replace GG := GG.trans G
  clear G
  refine nr ?_; intro U h; simp only [z0, z1] at h; subst h
  refine s_val 18 rfl rfl (.bool true) (rfl) ?_
  refine nr ?_; intro U h; simp only [z0, z1] at h; subst h
  refine s_gvalY 19 rfl rfl y1 rfl (.pointer none) (rfl) ?_
  refine nr ?_; intro U h; simp only [z0, z1] at h; subst h
  refine s_gcallvY 20 rfl rfl y1 rfl _ 17 Try.call17 rfl rfl _ rfl [.pointer none] rfl (size_nil _) ?_
  intro w4 G
  replace GG := GG.trans G
  clear G
  refine nr ?_; intro U h; simp only [z0, z1] at h; subst h
  refine s_gvalY 21 rfl rfl y1 rfl (.bool true) (run_eq_k 3 .i64 _ _ _ rfl Try.underlying3 _ _ rfl rfl true rfl _) ?_
  refine nr ?_; intro U h; simp only [z0, z1] at h; subst h
  refine s_val 22 rfl rfl (.bool true) (rfl) ?_
  refine nr ?_; intro U h; simp only [z0, z1] at h; subst h
  refine s_val 23 rfl rfl (.bool true) (rfl) ?_
  refine nr ?_; intro U h; simp only [z0, z1] at h; subst h
  refine s_gvalY 24 rfl rfl y6 rfl (.pointer none) (rfl) ?_
  refine nr ?_; intro U h; simp only [z0, z1] at h; subst h
  refine s_gcallvY 25 rfl rfl y6 rfl _ 16 Try.call16 rfl rfl _ rfl [.pointer none] rfl (done_nil _) ?_
  intro w5 G
  replace GG := GG.trans G
  clear G
  refine nr ?_; intro U h; simp only [z0, z1] at h; subst h
  refine s_gvalY 26 rfl rfl y6 rfl (.bool true) (run_eq_k 3 .i64 _ _ _ rfl Try.underlying3 _ _ rfl rfl true rfl _) ?_
  refine nr ?_; intro U h; simp only [z0, z1] at h; subst h
  refine s_val 27 rfl rfl (.bool true) (rfl) ?_
  refine nr ?_; intro U h; simp only [z0, z1] at h; subst h
  refine s_val 28 rfl rfl (.bool true) (rfl) ?_
  refine nr ?_; intro U h; simp only [z0, z1] at h; subst h
  refine s_gvalY 29 rfl rfl y11 rfl (.pointer none) (rfl) ?_
  refine nr ?_; intro U h; simp only [z0, z1] at h; subst h
  refine s_gcallxY 30 rfl rfl y11 rfl _ 18 Try.call18 rfl rfl _ rfl [.pointer none] rfl (bytes_nil _) (fun _ _ ⟨_, he, _⟩ => ⟨_, he⟩) ?_
  rintro v w6 ⟨gz, he, G⟩
  cases he
  replace GG := GG.trans G
  clear G
  refine nr ?_; intro U h; simp only [z0, z1] at h; subst h
  refine s_gvalY 31 rfl rfl y11 rfl (.int .i64 0) (run_len Try.underlying28 _ rfl _ _ _ rfl _) ?_
  refine nr ?_; intro U h; simp only [z0, z1] at h; subst h
  refine s_gvalY 32 rfl rfl y11 rfl (.bool true) (run_eq_k 3 .i64 _ _ _ rfl Try.underlying3 _ _ rfl rfl true rfl _) ?_
  refine nr ?_; intro U h; simp only [z0, z1] at h; subst h
  refine s_val 33 rfl rfl (.bool true) (rfl) ?_
  refine nr ?_; intro U h; simp only [z0, z1] at h; subst h
  refine s_val 34 rfl rfl (.bool true) (rfl) ?_
  refine nr ?_; intro U h; simp only [z0, z1] at h; subst h
  refine s_gvalY 35 rfl rfl y17 rfl (.slice none 0 0) (rfl) ?_
  refine nr ?_; intro U h; simp only [z0, z1] at h; subst h
  refine s_gvalY 36 rfl rfl y17 rfl (.int .i64 0) (run_len Try.underlying28 _ rfl _ _ _ rfl _) ?_
  refine nr ?_; intro U h; simp only [z0, z1] at h; subst h
  refine s_gvalY 37 rfl rfl y17 rfl (.bool true) (run_eq_k 3 .i64 _ _ _ rfl Try.underlying3 _ _ rfl rfl true rfl _) ?_
  refine nr ?_; intro U h; simp only [z0, z1] at h; subst h
  refine s_val 38 rfl rfl (.bool true) (rfl) ?_
  refine nr ?_; intro U h; simp only [z0, z1] at h; subst h
  refine s_val 39 rfl rfl (.bool true) (rfl) ?_
  refine nr ?_; intro U h; simp only [z0, z1] at h; subst h
  refine s_gvalY 40 rfl rfl y22 rfl (.int .i64 1) (rfl) ?_
  refine nr ?_; intro U h; simp only [z0, z1] at h; subst h
  refine s_gvalY 41 rfl rfl y22 rfl (.bool true) (run_eq_k 31 .i64 _ _ _ rfl Try.underlying31 _ _ rfl rfl true rfl _) ?_
  refine nr ?_; intro U h; simp only [z0, z1] at h; subst h
  refine s_val 42 rfl rfl (.bool true) (rfl) ?_
  refine nr ?_; intro U h; simp only [z0, z1] at h; subst h
  refine s_val 43 rfl rfl (.bool true) (rfl) ?_
  refine nr ?_; intro U h; simp only [z0, z1] at h; subst h
  refine s_gvalY 44 rfl rfl y26 rfl (.pointer none) (rfl) ?_
  refine nr ?_; intro U h; simp only [z0, z1] at h; subst h
  refine s_gvalY 45 rfl rfl y26 rfl (.int .i64 i) (rfl) ?_
  refine nr ?_; intro U h; simp only [z0, z1] at h; subst h
  refine s_gvalY 46 rfl rfl y26 rfl (.slice ao l.length cap) (rfl) ?_
  refine nr ?_; intro U h; simp only [z0, z1] at h; subst h
  refine s_gcallvY 47 rfl rfl y26 rfl _ 11 Try.call11 rfl rfl _ rfl [.pointer none, .int .i64 i, .slice ao l.length cap] rfl (write_nil _ ao cap l i) ?_
  intro w7 G
  replace GG := GG.trans G
  clear G
  refine nr ?_; intro U h; simp only [z0, z1] at h; subst h
  refine s_gvalY 48 rfl rfl y26 rfl (.bool true) (run_eq_k 31 .i64 _ _ _ rfl Try.underlying31 _ _ rfl rfl true rfl _) ?_
  refine nr ?_; intro U h; simp only [z0, z1] at h; subst h
  refine s_val 49 rfl rfl (.bool true) (rfl) ?_
  refine nr ?_; intro U h; simp only [z0, z1] at h; subst h
  refine s_val 4 rfl rfl (.bool true) (rfl) ?_
  refine nr ?_; intro U h; simp only [z0, z1] at h; subst h
  refine wpList_nil ?_
  refine then_n ?_
  refine wp_ret ?_
  refine bodyPost_ret (results_tmp Try.results6 _ _ _) rfl ?_
  exact ⟨rfl, GG⟩
end Go.Proofs.Ytcobgelcpgnndaa
