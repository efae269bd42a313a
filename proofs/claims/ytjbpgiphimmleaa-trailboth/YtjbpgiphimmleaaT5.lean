/- Steps, and whether each step of a trail is another one's: the program's and the document's. -/
import Derived.Test.YtjbpgiphimmleaaT4
namespace Go.Proofs.Ytjbpgiphimmleaa
open Go.RowKit Go.Maps

theorem stp_take {l : List Int} {j : Nat} (h : j + 1 < l.length) : (stp l).take j ++ [(l.getD j 0, l.getD (j + 1) 0)] = (stp l).take (j + 1) := by
  have hj : j < (stp l).length := by rw [stp_len]; omega
  have h2 := stp_get h
  rw [List.getD_eq_getElem?_getD, List.getElem?_eq_getElem hj] at h2
  rw [List.take_add_one, List.getElem?_eq_getElem hj, ← h2]
  rfl
theorem stp_64 {l : List Int} (h : ∀ x ∈ l, I64 x) : ∀ p ∈ stp l, P64 p := fun p hp => by
  obtain ⟨k, hk, rfl⟩ := stp_mem.1 hp
  exact ⟨h _ (getD_memZ (by omega)), h _ (getD_memZ hk)⟩
/-- How often among the first ones. -/
def cntF (L : List (Int × Int)) (j : Nat) (p : Int × Int) : Int := (((L.take j).count p : Nat) : Int)
theorem cntF_bd (L : List (Int × Int)) (j : Nat) (p : Int × Int) : 0 ≤ cntF L j p ∧ cntF L j p ≤ j := by
  unfold cntF
  have h1 := List.count_le_length (a := p) (l := L.take j)
  rw [List.length_take] at h1
  omega
theorem cntF_step {L : List (Int × Int)} {j : Nat} (h : j < L.length) : (fun y => if y = L.getD j (0, 0) then cntF L j (L.getD j (0, 0)) + 1 else cntF L j y) = cntF L (j + 1) := by
  funext y
  have h2 : L.getD j (0, 0) = L[j] := by simp [List.getD_eq_getElem?_getD, h]
  unfold cntF
  rw [h2, List.take_add_one, List.getElem?_eq_getElem h]
  simp only [Option.toList_some, List.count_append]
  by_cases e : y = L[j]
  · subst e
    rw [if_pos rfl]
    simp
  · rw [if_neg e]
    have : List.count y [L[j]] = 0 := List.count_eq_zero.2 (by simpa using e)
    rw [this]
    rfl
theorem cntF_0 {L : List (Int × Int)} {p : Int × Int} : cntF L L.length p = 0 ↔ p ∉ L := by
  unfold cntF
  rw [List.take_length]
  have := List.count_eq_zero (a := p) (l := L)
  rw [← this]
  omega
theorem jn_all {t s : List Int} (h : ∀ i, i < (stp t).length → (stp t).getD i (0, 0) ∈ stp s) : jn t s = true := decide_eq_true fun p hp => by
  obtain ⟨k, hk, rfl⟩ := List.mem_iff_getElem.1 hp
  have := h k hk
  rw [List.getD_eq_getElem?_getD, List.getElem?_eq_getElem hk] at this
  exact this
theorem getD_memP {L : List (Int × Int)} {i : Nat} (h : i < L.length) : L.getD i (0, 0) ∈ L := by
  rw [List.getD_eq_getElem?_getD, List.getElem?_eq_getElem h]
  exact List.getElem_mem h
theorem jn_not {t s : List Int} {i : Nat} (hi : i < (stp t).length) (h : (stp t).getD i (0, 0) ∉ stp s) : jn t s = false := decide_eq_false fun h2 => h (h2 _ (getD_memP hi))
theorem ex_no {k : Nat} {p : Nat → Prop} (h : ¬ p k) : (∃ q, q < k ∧ p q) ↔ ∃ q, q < k + 1 ∧ p q := by
  constructor
  · rintro ⟨q, h1, h2⟩
    exact ⟨q, by omega, h2⟩
  · rintro ⟨q, h1, h2⟩
    by_cases e : q = k
    · subst e
      exact absurd h2 h
    · exact ⟨q, by omega, h2⟩
/-- The steps of the other trail up to a place. -/
def okS (l m : List Int) (i q : Nat) : Prop := q + 1 < m.length ∧ m.getD q 0 = l.getD i 0 ∧ m.getD (q + 1) 0 = l.getD (i + 1) 0
theorem okS_mem {l m : List Int} {i k : Nat} (hk : ¬ k + 1 < m.length) : (∃ q, q < k ∧ okS l m i q) ↔ (l.getD i 0, l.getD (i + 1) 0) ∈ stp m := by
  rw [stp_mem]
  constructor
  · rintro ⟨q, _, h1, h2, h3⟩
    exact ⟨q, h1, by rw [h2, h3]⟩
  · rintro ⟨q, h1, h2⟩
    simp only [Prod.mk.injEq] at h2
    exact ⟨q, by omega, h1, h2.1.symm, h2.2.symm⟩
section
variable {w w' : World} {ao : Option Addr} {cap : Nat} {l : List (Int × Int)} {g : Nat}
/-- A row is no part of a block. -/
def NE (ao : Option Addr) (l : List (Int × Int)) (g : Nat) : Prop := ∀ ad, ao = some ad → 0 < (cp l).length → ad.block ≠ g
theorem RP.ne (h : RP w ao cap l) (e : w.heap.size = g) : NE ao l g := fun ad ha h0 => by
  have := h.xc.lt ad ha h0
  omega
theorem RP.st {x : Obj} (h : RP w ao cap l) (S : Stored w w' g x) (hn : NE ao l g) : RP w' ao cap l :=
  ⟨⟨h.xc.len, h.xc.fit, h.xc.bare, fun ad ha j v hv => (World.cell?_of_block (S.old _ (by rw [add_block]; exact hn ad ha (by have := (List.getElem?_eq_some_iff.1 hv).1; omega)))).trans (h.xc.cell ad ha j v hv), h.xc.one⟩, h.all⟩
end
/-- A map at b, of steps. -/
structure MP (w : World) (b n : Nat) (f : Int × Int → Int) : Prop where
  out : ∃ S, MX 36 pv P64 w b n f S
section
variable {w w' : World} {b n : Nat} {f : Int × Int → Int} {g : Nat}
theorem MP.gro (h : MP w b n f) (G : Gro w w') : MP w' b n f := let ⟨S, h⟩ := h.out; ⟨S, h.gro G⟩
theorem MP.ne (h : MP w b n f) (e : w.heap.size = g) : b ≠ g := let ⟨_, h⟩ := h.out; by have := h.lt; omega
theorem MP.st {x : Obj} (h : MP w b n f) (St : Stored w w' g x) (hn : b ≠ g) : MP w' b n f := by
  obtain ⟨S, D, ⟨es, c, h1, h2⟩, h3⟩ := h
  exact ⟨S, D, ⟨es, c, by rw [St.old b hn]; exact h1, h2⟩, h3⟩
theorem run_lkP {o : Oper} {A : Act} (h : MP w b n f) (x y : Operand) (ho : o.op = .lookup 32 x y false) (hx : A.eval x = .map (some b)) (q : Int × Int) (hy : A.eval y = pv q) (hq : P64 q) : (execOp A.eval o).run Try.prog w = .ok (.value (.int .i64 (f q))) w :=
  let ⟨_, h⟩ := h.out; run_lkp mP h x y ho hx q hy hq
end
theorem opX_val {P : Program} {ops : Array Oper} {R : World → Prop} {k : PostE} {o : Oper} {A : Act} {w w' : World} {v : Value} (hw : Region.wanted o (yielded ops A.tmps) = true) (h : (execOp A.eval o).run P w = .ok (.value v) w') (hR : R w') (hk : k.p v w') : OpX P ops R k o A w :=
  ⟨hw, by rw [h]; exact ⟨hR, hk⟩⟩
theorem s_unit {P : Program} {ops : Array Oper} {rest : List Oper} {o : Oper} {T : List Value} {ds : List Deferred} {w w' : World} {Q : Exit → Act → World → Prop} (hgd : o.guard = none) (hdst : o.dst = none) (he : (execOp (Act.eval ⟨T.toArray, ds⟩) o).run P w = .ok .skip w') (hk : wpList P ops Q rest ⟨T.toArray, ds⟩ w') : wpList P ops Q (o :: rest) ⟨T.toArray, ds⟩ w := by
  refine wpList_plain hgd fun _ hK => ?_
  have := hK _ _ hk
  unfold Oper.wp
  rw [he]
  simp only [Oper.upon, hdst]
  exact this
set_option maxRecDepth 100000 in
set_option maxHeartbeats 4000000 in
theorem steps_any (w : World) (ao : Option Addr) (cap : Nat) (l : List Int) (H : RC w ao cap l) (hl : l.length ≤ 1000000) : Calls Try.prog 24 #[.slice ao l.length cap] w (RowQ w (stp l)) := by
  refine s_enter Try.func24 rfl Try.ntmps24 [.slice ao l.length cap] [.slice ao l.length cap, undef, undef, undef, undef, undef, undef, undef, undef, undef, undef, undef, undef, undef, undef, undef, undef, undef, undef, undef, undef, undef, undef, undef, undef] rfl ?_
  have GG := Gro.refl w
  refine wp_seq ?_
  refine wp_region_lit ?_
  refine s_val 2 rfl rfl (.slice none 0 0) (rfl) ?_
  refine nr ?_; intro U h; simp only [z0, z1] at h; subst h
  refine wpList_nil ?_
  refine then_n ?_
  refine wp_seq ?_
  refine wp_region_lit ?_
  refine s_val 3 rfl rfl (.slice none 0 0) (rfl) ?_
  refine nr ?_; intro U h; simp only [z0, z1] at h; subst h
  refine wpList_nil ?_
  refine then_n ?_
  refine wp_seq ?_
  refine wp_seq ?_
  refine wp_region_lit ?_
  refine s_val 4 rfl rfl (.int .i64 1) (rfl) ?_
  refine nr ?_; intro U h; simp only [z0, z1] at h; subst h
  refine wpList_nil ?_
  refine then_n ?_
  refine wp_block ?_
  refine wp_loopN (fun mz az wv => ∃ (j : Nat) (L : List (Int × Int)) (ao2 : Option Addr) (cap2 : Nat) (us1 : Nat → Value), mz = l.length - j ∧ az = ⟨[.slice ao l.length cap, undef, .slice none 0 0, .slice ao2 L.length cap2, .int .i64 ((j + 1 : Nat) : Int), us1 0, us1 1, us1 2, us1 3, us1 4, us1 5, us1 6, us1 7, us1 8, us1 9, us1 10, us1 11, us1 12, us1 13, us1 14, us1 15, us1 16, us1 17, us1 18, undef].toArray, []⟩ ∧ j ≤ l.length - 1 ∧ L = (stp l).take j ∧ Gro w wv ∧ OP wv w.heap.size ao2 cap2 L) ?_ _ ⟨0, [], none, 0, (fun kz => ([undef, undef, undef, undef, undef, undef, undef, undef, undef, undef, undef, undef, undef, undef, undef, undef, undef, undef, undef] : List Value).getD kz undef), rfl, rfl, Nat.zero_le _, rfl, GG, (OP.nil _ _)⟩
  clear GG
  rintro mz az wv ⟨j, L, ao2, cap2, us1, rfl, rfl, hj, hL, GG, HO⟩
  have hLl : L.length ≤ l.length := by rw [hL, List.length_take, stp_len]; omega
  refine wp_seq ?_
  refine wp_seq ?_
  refine wp_region_lit ?_
  refine s_val 5 rfl rfl (.int .i64 ((j + 1 : Nat) : Int)) (rfl) ?_
  refine nr ?_; intro U h; simp only [z0, z1] at h; subst h
  refine s_val 6 rfl rfl (.slice ao l.length cap) (rfl) ?_
  refine nr ?_; intro U h; simp only [z0, z1] at h; subst h
  refine s_val 7 rfl rfl (.int .i64 ((l.length : Nat) : Int)) (run_len Try.underlying22 _ rfl _ _ _ rfl _) ?_
  refine nr ?_; intro U h; simp only [z0, z1] at h; subst h
  cases hj1 : decide (((j + 1 : Nat) : Int) < ((l.length : Nat) : Int))
  · have hje : j = l.length - 1 := by have := of_decide_eq_false hj1; omega
    refine s_val 8 rfl rfl (.bool false) (run_lssT 3 _ _ _ rfl ((j + 1 : Nat) : Int) ((l.length : Nat) : Int) rfl rfl false hj1 _) ?_
    refine nr ?_; intro U h; simp only [z0, z1] at h; subst h
    refine wpList_nil ?_
    refine then_n ?_
    refine wp_cond_false rfl ?_
    refine wp_exit ?_
    refine then_x ?_
    refine then_x ?_
    refine blk_x ?_
    refine then_n ?_
    refine wp_seq ?_
    refine wp_region_lit ?_
    refine s_val 24 rfl rfl (.slice ao2 L.length cap2) (rfl) ?_
    refine nr ?_; intro U h; simp only [z0, z1] at h; subst h
    refine s_val 2 rfl rfl (.slice ao2 L.length cap2) (rfl) ?_
    refine nr ?_; intro U h; simp only [z0, z1] at h; subst h
    refine wpList_nil ?_
    refine then_n ?_
    refine wp_ret ?_
    refine bodyPost_ret (results_tmp Try.results24 _ _ _) rfl ?_
    rw [hje, ← stp_len, List.take_length] at hL
    subst hL
    exact ⟨ao2, cap2, rfl, GG, HO⟩
  · have hjl : j + 1 < l.length := by have := of_decide_eq_true hj1; omega
    refine s_val 8 rfl rfl (.bool true) (run_lssT 3 _ _ _ rfl ((j + 1 : Nat) : Int) ((l.length : Nat) : Int) rfl rfl true hj1 _) ?_
    refine nr ?_; intro U h; simp only [z0, z1] at h; subst h
    refine wpList_nil ?_
    refine then_n ?_
    refine wp_cond_true rfl ?_
    refine wp_skip ?_
    refine then_n ?_
    refine wp_seq ?_
    refine wp_block ?_
    refine wp_region_exA (A := ?Ax1) 12 [(0, 11), (1, 12), (2, 13), (3, 14), (4, 15), (5, 16), (6, 17), (7, 18), (8, 19), (9, 20), (10, 21), (11, 22)] [.val (.slice ao2 L.length cap2), .val (.slice ao l.length cap), .val (.int .i64 ((j + 1 : Nat) : Int)), .val (.int .i64 ((j : Nat) : Int)), .val (.pointer (pA ao j)), .val (.int .i64 (l.getD j 0)), .val (.slice ao l.length cap), .val (.int .i64 ((j + 1 : Nat) : Int)), .val (.pointer (pA ao (j + 1))), .val (.int .i64 (l.getD (j + 1) 0)), .val (pv ((l.getD j 0), (l.getD (j + 1) 0))), rowQ [((l.getD j 0), (l.getD (j + 1) 0))]] follows (by kernel_rfl) rfl ?hAx1 (opsA_cons ?o0x1 (opsA_cons ?o1x1 (opsA_cons ?o2x1 (opsA_cons ?o3x1 (opsA_cons ?o4x1 (opsA_cons ?o5x1 (opsA_cons ?o6x1 (opsA_cons ?o7x1 (opsA_cons ?o8x1 (opsA_cons ?o9x1 (opsA_cons ?o10x1 (opsA_cons ?o11x1 opsA_nil)))))))))))) ?restx1
    case hAx1 =>
      intro ptrs
      simp only [full, foldSlots, filledE, postE, List.foldl_cons, List.foldl_nil, List.getD_cons_zero, List.getD_cons_succ, fill_val, fill_rowQ, List.set_cons_zero, List.set_cons_succ]
      exact rfl
    case o0x1 => exact fun _ _ _ _ => opE_move (v := .slice ao2 L.length cap2) _ rfl rfl rfl
    case o1x1 => exact fun _ _ _ _ => opE_move (v := .slice ao l.length cap) _ rfl rfl rfl
    case o2x1 => exact fun _ _ _ _ => opE_move (v := .int .i64 ((j + 1 : Nat) : Int)) _ rfl rfl rfl
    case o3x1 => exact fun _ _ _ _ => opE_value (v := .int .i64 ((j : Nat) : Int)) rfl (run_subI 3 _ _ _ rfl ((j + 1 : Nat) : Int) 1 ((j : Nat) : Int) rfl rfl (by omega) (by omega) (by omega) _)
    case o4x1 => exact fun _ _ hw _ => opE_value (v := .pointer (pA ao j)) rfl (run_ixI (H.gro (GG.drew.trans hw)) _ _ rfl rfl j rfl (by omega))
    case o5x1 => exact fun _ _ hw _ => opE_value (v := .int .i64 (l.getD j 0)) rfl (run_ldI (H.gro (GG.drew.trans hw)) _ rfl j rfl (by omega))
    case o6x1 => exact fun _ _ _ _ => opE_move (v := .slice ao l.length cap) _ rfl rfl rfl
    case o7x1 => exact fun _ _ _ _ => opE_move (v := .int .i64 ((j + 1 : Nat) : Int)) _ rfl rfl rfl
    case o8x1 => exact fun _ _ hw _ => opE_value (v := .pointer (pA ao (j + 1))) rfl (run_ixI (H.gro (GG.drew.trans hw)) _ _ rfl rfl (j + 1) rfl hjl)
    case o9x1 => exact fun _ _ hw _ => opE_value (v := .int .i64 (l.getD (j + 1) 0)) rfl (run_ldI (H.gro (GG.drew.trans hw)) _ rfl (j + 1) rfl hjl)
    case o10x1 => exact fun _ _ _ _ => opE_value (v := pv ((l.getD j 0), (l.getD (j + 1) 0))) rfl (run_bdP _ _ rfl (l.getD j 0) (l.getD (j + 1) 0) rfl rfl)
    case o11x1 => exact fun _ _ _ _ => opE_new (rowQ [((l.getD j 0), (l.getD (j + 1) 0))]) rfl (run_bsl 33 1 _ rfl [(0, pv ((l.getD j 0), (l.getD (j + 1) 0)))] rfl (bp1 ((l.getD j 0), (l.getD (j + 1) 0)) _)) (gro_alloc _ _) ⟨_, _, rfl, RP.blk (heap_alloc_new _ _) (allP [((l.getD j 0), (l.getD (j + 1) 0))] ⟨⟨H.at (by omega), H.at hjl⟩, trivial⟩) (Nat.le_refl _)⟩
    intro ptrs w1 GD hxE
    simp only [List.drop_succ_cons, List.drop_zero]
    replace HO := HO.gro ((Gro.refl _).drew.trans GD)
    replace GG := GG.drew.trans GD
    obtain ⟨⟨ao1, cap1, hx1, HR1⟩, _⟩ := hxE
    simp only [hx1]
    clear hx1
    clear GD
    refine s_appP 23 rfl rfl _ _ rfl (l := L) rfl HO rfl HR1 (by simp; omega) GG.size ?_
    intro ao3 cap3 w2 HO3 HB
    replace GG := below_gro GG HB (Nat.le_refl _)
    clear HO HR1 HB
    refine nr ?_; intro U h; simp only [z0, z1] at h; subst h
    refine s_val 3 rfl rfl (.slice ao3 ((L ++ [((l.getD j 0), (l.getD (j + 1) 0))]).length) cap3) (rfl) ?_
    refine nr ?_; intro U h; simp only [z0, z1] at h; subst h
    refine wpList_nil ?_
    refine blk_n ?_
    refine then_n ?_
    refine wp_region_lit ?_
    refine s_val 9 rfl rfl (.int .i64 ((j + 1 : Nat) : Int)) (rfl) ?_
    refine nr ?_; intro U h; simp only [z0, z1] at h; subst h
    refine s_val 10 rfl rfl (.int .i64 ((j + 1 + 1 : Nat) : Int)) (run_addI 3 _ _ _ rfl ((j + 1 : Nat) : Int) 1 ((j + 1 + 1 : Nat) : Int) rfl rfl (by omega) (by omega) (by omega) _) ?_
    refine nr ?_; intro U h; simp only [z0, z1] at h; subst h
    refine s_val 4 rfl rfl (.int .i64 ((j + 1 + 1 : Nat) : Int)) (rfl) ?_
    refine nr ?_; intro U h; simp only [z0, z1] at h; subst h
    refine wpList_nil ?_
    refine then_n ?_
    exact ⟨_, (by omega : l.length - (j + 1) < l.length - j), j + 1, L ++ [((l.getD j 0), (l.getD (j + 1) 0))], ao3, cap3, (fun kz => ([.int .i64 ((j + 1 : Nat) : Int), .slice ao l.length cap, .int .i64 ((l.length : Nat) : Int), .bool true, .int .i64 ((j + 1 : Nat) : Int), .int .i64 ((j + 1 + 1 : Nat) : Int), .slice ao2 L.length cap2, .slice ao l.length cap, .int .i64 ((j + 1 : Nat) : Int), .int .i64 ((j : Nat) : Int), .pointer (pA ao j), .int .i64 (l.getD j 0), .slice ao l.length cap, .int .i64 ((j + 1 : Nat) : Int), .pointer (pA ao (j + 1)), .int .i64 (l.getD (j + 1) 0), pv ((l.getD j 0), (l.getD (j + 1) 0)), .slice ao1 (([((l.getD j 0), (l.getD (j + 1) 0))]).length) cap1, .slice ao3 ((L ++ [((l.getD j 0), (l.getD (j + 1) 0))]).length) cap3] : List Value).getD kz undef), rfl, rfl, (by omega), (by rw [hL]; exact stp_take hjl), GG, HO3⟩
theorem run_mE {P : Program} {o : Oper} {A : Act} {w w' : World} {t : TypeId} {r : Value} (x y : Operand) (ho : o.op = .mapEntry t x y) (a b : Value) (hx : A.eval x = a) (hy : A.eval y = b) (h : (Instr.mapEntry t a b).run P w = .ok r w') : (execOp A.eval o).run P w = .ok (.value r) w' := by
  unfold execOp
  simp only [ho, hx, hy, Sem.run_bind, h, Result.andThen_ok, Sem.run_pure]
theorem run_eS {P : Program} {o : Oper} {A : Act} {w w' : World} {t : TypeId} (x y z : Operand) (ho : o.op = .entryStore t x y z) (a b c : Value) (hx : A.eval x = a) (hy : A.eval y = b) (hz : A.eval z = c) (h : (Instr.entryStore t a b c).run P w = .ok () w') : (execOp A.eval o).run P w = .ok .skip w' := by
  unfold execOp
  simp only [ho, hx, hy, hz, Sem.run_bind, h, Result.andThen_ok, Sem.run_pure]
set_option maxRecDepth 100000 in
set_option maxHeartbeats 4000000 in
theorem joins_any (w : World) (ao : Option Addr) (cap : Nat) (l : List Int) (H : RC w ao cap l) (hl : l.length ≤ 1000000) (bo : Option Addr) (bap : Nat) (m : List Int) (HM : RC w bo bap m) (hm : m.length ≤ 1000000) : Calls Try.prog 20 #[.slice ao l.length cap, .slice bo m.length bap] w (fun e w' => e = .returned (.bool (jn l m)) ∧ Gro w w') := by
  refine s_enter Try.func20 rfl Try.ntmps20 [.slice ao l.length cap, .slice bo m.length bap] [.slice ao l.length cap, .slice bo m.length bap, undef, undef, undef, undef, undef, undef, undef, undef, undef, undef, undef, undef, undef, undef, undef, undef, undef, undef, undef, undef, undef, undef, undef, undef, undef, undef, undef, undef, undef, undef, undef, undef, undef, undef, undef] rfl ?_
  have GG := Gro.refl w
  refine wp_seq ?_
  refine wp_region_lit ?_
  refine s_val 4 rfl rfl (.bool false) (rfl) ?_
  refine nr ?_; intro U h; simp only [z0, z1] at h; subst h
  refine wpList_nil ?_
  refine then_n ?_
  refine wp_seq ?_
  refine wp_region_lit ?_
  refine s_mkM (k := 36) (kv := pv) (ok := P64) 10 rfl rfl rfl ?_
  intro w1 b G eb HX0
  have bb := size_base GG eb
  replace GG := GG.trans G
  clear G
  clear eb
  have HX : MP _ b 0 (fun _ => 0) := ⟨_, HX0⟩
  clear HX0
  refine nr ?_; intro U h; simp only [z0, z1] at h; subst h
  refine s_val 5 rfl rfl (.map (some b)) (rfl) ?_
  refine nr ?_; intro U h; simp only [z0, z1] at h; subst h
  refine wpList_nil ?_
  refine then_n ?_
  refine wp_seq ?_
  refine wp_seq ?_
  refine wp_region_lit ?_
  refine s_val 11 rfl rfl (.slice bo m.length bap) (rfl) ?_
  refine nr ?_; intro U h; simp only [z0, z1] at h; subst h
  refine s_callx 12 rfl rfl _ 24 Try.call24 rfl rfl _ rfl [.slice bo m.length bap] rfl (steps_any _ bo bap m (HM.gro GG) hm) (by rintro _ _ ⟨_, _, he, _⟩; exact ⟨_, he⟩) ?_
  rintro v w2 ⟨ao1, cap1, he, G, HO1⟩
  cases he
  replace HO1 := HO1.mono GG.size
  replace HX := HX.gro G
  replace GG := GG.trans G
  clear G
  have HR1 := HO1.rc
  refine nr ?_; intro U h; simp only [z0, z1] at h; subst h
  refine s_val 13 rfl rfl (.int .i64 (((stp m).length : Nat) : Int)) (run_len Try.underlying33 _ rfl _ _ _ rfl _) ?_
  refine nr ?_; intro U h; simp only [z0, z1] at h; subst h
  refine s_val 14 rfl rfl (.int .i64 0) (rfl) ?_
  refine nr ?_; intro U h; simp only [z0, z1] at h; subst h
  refine wpList_nil ?_
  refine then_n ?_
  refine wp_block ?_
  clear HO1
  refine wp_loopN (fun mz az wv => ∃ (j : Nat) (us1 : Nat → Value), mz = (stp m).length - j ∧ az = ⟨[.slice ao l.length cap, .slice bo m.length bap, undef, undef, .bool false, .map (some b), undef, us1 0, undef, undef, .map (some b), .slice bo m.length bap, .slice ao1 ((stp m).length) cap1, .int .i64 (((stp m).length : Nat) : Int), .int .i64 ((j : Nat) : Int), us1 1, us1 2, us1 3, us1 4, us1 5, us1 6, us1 7, us1 8, us1 9, us1 10, undef, undef, undef, undef, undef, undef, undef, undef, undef, undef, undef, undef].toArray, []⟩ ∧ j ≤ (stp m).length ∧ Gro w wv ∧ MP wv b j (cntF (stp m) j) ∧ RP wv ao1 cap1 (stp m)) ?_ _ ⟨0, (fun kz => ([undef, undef, undef, undef, undef, undef, undef, undef, undef, undef, undef] : List Value).getD kz undef), rfl, rfl, Nat.zero_le _, GG, HX, HR1⟩
  clear GG HX HR1
  rintro mz az wv ⟨j, us1, rfl, rfl, hj, GG, HX, HR1⟩
  refine wp_seq ?_
  refine wp_region_lit ?_
  cases hj1 : decide (((j : Nat) : Int) < (((stp m).length : Nat) : Int))
  · have hje : j = (stp m).length := by have := of_decide_eq_false hj1; omega
    refine s_val 15 rfl rfl (.bool false) (run_lssT 3 _ _ _ rfl ((j : Nat) : Int) (((stp m).length : Nat) : Int) rfl rfl false hj1 _) ?_
    refine nr ?_; intro U h; simp only [z0, z1] at h; subst h
    refine wpList_nil ?_
    refine then_n ?_
    refine wp_seq ?_
    refine wp_cond_false rfl ?_
    refine wp_exit ?_
    refine then_x ?_
    refine then_x ?_
    refine blk_x ?_
    refine then_n ?_
    refine wp_seq ?_
    refine wp_seq ?_
    refine wp_region_lit ?_
    refine s_val 25 rfl rfl (.slice ao l.length cap) (rfl) ?_
    refine nr ?_; intro U h; simp only [z0, z1] at h; subst h
    refine s_callx 26 rfl rfl _ 24 Try.call24 rfl rfl _ rfl [.slice ao l.length cap] rfl (steps_any _ ao cap l (H.gro GG) hl) (by rintro _ _ ⟨_, _, he, _⟩; exact ⟨_, he⟩) ?_
    rintro v w3 ⟨ao2, cap2, he, G, HO2⟩
    cases he
    replace HO2 := HO2.mono GG.size
    replace HX := HX.gro G
    replace HR1 := HR1.gro G
    replace GG := GG.trans G
    clear G
    have HR2 := HO2.rc
    refine nr ?_; intro U h; simp only [z0, z1] at h; subst h
    refine s_val 27 rfl rfl (.int .i64 (((stp l).length : Nat) : Int)) (run_len Try.underlying33 _ rfl _ _ _ rfl _) ?_
    refine nr ?_; intro U h; simp only [z0, z1] at h; subst h
    refine s_val 28 rfl rfl (.int .i64 0) (rfl) ?_
    refine nr ?_; intro U h; simp only [z0, z1] at h; subst h
    refine wpList_nil ?_
    refine then_n ?_
    refine wp_block ?_
    rw [hje] at HX
    clear HO2
    have hs2 : (stp l).length ≤ 1000000 := by rw [stp_len]; omega
    refine wp_loopN (fun mz az wx => ∃ (i : Nat) (us2 : Nat → Value), mz = (stp l).length - i ∧ az = ⟨[.slice ao l.length cap, .slice bo m.length bap, undef, undef, us2 0, .map (some b), undef, us1 0, undef, us2 1, .map (some b), .slice bo m.length bap, .slice ao1 ((stp m).length) cap1, .int .i64 (((stp m).length : Nat) : Int), .int .i64 ((j : Nat) : Int), .bool false, us1 2, us1 3, us1 4, us1 5, us1 6, us1 7, us1 8, us1 9, us1 10, .slice ao l.length cap, .slice ao2 ((stp l).length) cap2, .int .i64 (((stp l).length : Nat) : Int), .int .i64 ((i : Nat) : Int), us2 2, us2 3, us2 4, us2 5, us2 6, us2 7, us2 8, us2 9].toArray, []⟩ ∧ i ≤ (stp l).length ∧ (∀ q, q < i → (stp l).getD q (0, 0) ∈ (stp m)) ∧ Gro w wx ∧ MP wx b (stp m).length (cntF (stp m) (stp m).length) ∧ RP wx ao2 cap2 (stp l)) ?_ _ ⟨0, (fun kz => ([.bool false, undef, undef, undef, undef, undef, undef, undef, undef, undef] : List Value).getD kz undef), rfl, rfl, Nat.zero_le _, (fun q hq => absurd hq (Nat.not_lt_zero q)), GG, HX, HR2⟩
    clear GG HX HR2
    rintro mz az wx ⟨i, us2, rfl, rfl, hi, hall, GG, HX, HR2⟩
    refine wp_seq ?_
    refine wp_region_lit ?_
    cases hi1 : decide (((i : Nat) : Int) < (((stp l).length : Nat) : Int))
    · have hie : i = (stp l).length := by have := of_decide_eq_false hi1; omega
      refine s_val 29 rfl rfl (.bool false) (run_lssT 3 _ _ _ rfl ((i : Nat) : Int) (((stp l).length : Nat) : Int) rfl rfl false hi1 _) ?_
      refine nr ?_; intro U h; simp only [z0, z1] at h; subst h
      refine wpList_nil ?_
      refine then_n ?_
      refine wp_seq ?_
      refine wp_cond_false rfl ?_
      refine wp_exit ?_
      refine then_x ?_
      refine then_x ?_
      refine blk_x ?_
      refine then_n ?_
      refine wp_seq ?_
      refine wp_region_lit ?_
      refine s_val 4 rfl rfl (.bool true) (rfl) ?_
      refine nr ?_; intro U h; simp only [z0, z1] at h; subst h
      refine wpList_nil ?_
      refine then_n ?_
      refine wp_ret ?_
      refine bodyPost_ret (results_tmp Try.results20 _ _ _) rfl ?_
      subst hie
      exact ⟨congrArg (fun b => Ending.returned (.bool b)) (jn_all hall).symm, GG⟩
    · have hil : i < (stp l).length := by have := of_decide_eq_true hi1; omega
      refine s_val 29 rfl rfl (.bool true) (run_lssT 3 _ _ _ rfl ((i : Nat) : Int) (((stp l).length : Nat) : Int) rfl rfl true hi1 _) ?_
      refine nr ?_; intro U h; simp only [z0, z1] at h; subst h
      refine wpList_nil ?_
      refine then_n ?_
      refine wp_seq ?_
      refine wp_cond_true rfl ?_
      refine wp_skip ?_
      refine then_n ?_
      refine wp_seq ?_
      refine wp_block ?_
      refine wp_seq ?_
      refine wp_region_lit ?_
      refine s_val 30 rfl rfl (.pointer (pP ao2 i)) (run_ixP (HR2) _ _ rfl rfl i rfl hil) ?_
      refine nr ?_; intro U h; simp only [z0, z1] at h; subst h
      refine s_val 31 rfl rfl (pv ((stp l).getD i (0, 0))) (run_ldP (HR2) _ rfl i rfl hil) ?_
      refine nr ?_; intro U h; simp only [z0, z1] at h; subst h
      refine s_alloc 9 rfl rfl 36 rfl _ zero36 (pc (0, 0)) rfl ?_
      intro w4 g2 G eg2 kg2
      have bg2 := size_base GG eg2
      have dHXg2 := HX.ne eg2
      have dHR2g2 := HR2.ne eg2
      replace HX := HX.gro G
      replace HR2 := HR2.gro G
      replace GG := GG.trans G
      clear G
      clear eg2
      refine nr ?_; intro U h; simp only [z0, z1] at h; subst h
      refine s_store rfl rfl 36 _ _ rfl g2 0 rfl (pv ((stp l).getD i (0, 0))) rfl 36 _ kg2 (pc ((stp l).getD i (0, 0))) rfl size36 (Nat.le_refl _) (pc_one _) (pc ((stp l).getD i (0, 0))) (splice_whole _ _ rfl) ?_
      intro w5 St
      have kS := kg2
      replace HX := HX.st St dHXg2
      replace HR2 := HR2.st St dHR2g2
      replace GG := GG.store St bg2
      replace kg2 := St.new
      clear St
      refine wpList_nil ?_
      refine then_n ?_
      refine wp_seq ?_
      refine wp_region_lit ?_
      refine s_val 32 rfl rfl (.map (some b)) (rfl) ?_
      refine nr ?_; intro U h; simp only [z0, z1] at h; subst h
      refine s_val 33 rfl rfl (pv ((stp l).getD i (0, 0))) (run_ldB _ rfl g2 _ rfl (kg2)) ?_
      refine nr ?_; intro U h; simp only [z0, z1] at h; subst h
      refine s_val 34 rfl rfl (.int .i64 (cntF (stp m) (stp m).length ((stp l).getD i (0, 0)))) (run_lkP HX _ _ rfl rfl ((stp l).getD i (0, 0)) rfl (HR2.all _ (getD_memP hil))) ?_
      refine nr ?_; intro U h; simp only [z0, z1] at h; subst h
      cases hz : decide (cntF (stp m) (stp m).length ((stp l).getD i (0, 0)) = 0)
      · refine s_val 35 rfl rfl (.bool false) (run_eq_k 3 .i64 _ _ _ rfl Try.underlying3 (cntF (stp m) (stp m).length ((stp l).getD i (0, 0))) 0 rfl rfl false hz _) ?_
        refine nr ?_; intro U h; simp only [z0, z1] at h; subst h
        refine wpList_nil ?_
        refine then_n ?_
        refine wp_cond_false rfl ?_
        refine wp_skip ?_
        refine blk_n ?_
        refine then_n ?_
        refine wp_region_lit ?_
        refine s_val 36 rfl rfl (.int .i64 ((i + 1 : Nat) : Int)) (run_addI 3 _ _ _ rfl ((i : Nat) : Int) 1 ((i + 1 : Nat) : Int) rfl rfl (by omega) (by omega) (by omega) _) ?_
        refine nr ?_; intro U h; simp only [z0, z1] at h; subst h
        refine s_val 28 rfl rfl (.int .i64 ((i + 1 : Nat) : Int)) (rfl) ?_
        refine nr ?_; intro U h; simp only [z0, z1] at h; subst h
        refine wpList_nil ?_
        refine then_n ?_
        exact ⟨_, (by omega : (stp l).length - (i + 1) < (stp l).length - i), i + 1, (fun kz => ([us2 0, .pointer (some ⟨g2, 0, none⟩), .bool true, .pointer (pP ao2 i), pv ((stp l).getD i (0, 0)), .map (some b), pv ((stp l).getD i (0, 0)), .int .i64 (cntF (stp m) (stp m).length ((stp l).getD i (0, 0))), .bool false, .int .i64 ((i + 1 : Nat) : Int)] : List Value).getD kz undef), rfl, rfl, hil, (upto_succ hall (Classical.not_not.1 fun h => of_decide_eq_false hz (cntF_0.2 h))), GG, HX, HR2⟩
      · refine s_val 35 rfl rfl (.bool true) (run_eq_k 3 .i64 _ _ _ rfl Try.underlying3 (cntF (stp m) (stp m).length ((stp l).getD i (0, 0))) 0 rfl rfl true hz _) ?_
        refine nr ?_; intro U h; simp only [z0, z1] at h; subst h
        refine wpList_nil ?_
        refine then_n ?_
        refine wp_cond_true rfl ?_
        refine wp_seq ?_
        refine wp_region_lit ?_
        refine s_val 4 rfl rfl (.bool false) (rfl) ?_
        refine nr ?_; intro U h; simp only [z0, z1] at h; subst h
        refine wpList_nil ?_
        refine then_n ?_
        refine wp_ret ?_
        refine blk_r ?_
        refine then_r ?_
        refine then_r ?_
        refine blk_r ?_
        refine then_r ?_
        refine bodyPost_ret (results_tmp Try.results20 _ _ _) rfl ?_
        exact ⟨congrArg (fun b => Ending.returned (.bool b)) (jn_not hil (cntF_0.1 (of_decide_eq_true hz))).symm, GG⟩
  · have hjl : j < (stp m).length := by have := of_decide_eq_true hj1; omega
    refine s_val 15 rfl rfl (.bool true) (run_lssT 3 _ _ _ rfl ((j : Nat) : Int) (((stp m).length : Nat) : Int) rfl rfl true hj1 _) ?_
    refine nr ?_; intro U h; simp only [z0, z1] at h; subst h
    refine wpList_nil ?_
    refine then_n ?_
    refine wp_seq ?_
    refine wp_cond_true rfl ?_
    refine wp_skip ?_
    refine then_n ?_
    refine wp_seq ?_
    refine wp_block ?_
    refine wp_seq ?_
    refine wp_region_lit ?_
    refine s_val 16 rfl rfl (.pointer (pP ao1 j)) (run_ixP (HR1) _ _ rfl rfl j rfl hjl) ?_
    refine nr ?_; intro U h; simp only [z0, z1] at h; subst h
    refine s_val 17 rfl rfl (pv ((stp m).getD j (0, 0))) (run_ldP (HR1) _ rfl j rfl hjl) ?_
    refine nr ?_; intro U h; simp only [z0, z1] at h; subst h
    refine s_alloc 7 rfl rfl 36 rfl _ zero36 (pc (0, 0)) rfl ?_
    intro w3 g1 G eg1 kg1
    have bg1 := size_base GG eg1
    have dHXg1 := HX.ne eg1
    have dHR1g1 := HR1.ne eg1
    replace HX := HX.gro G
    replace HR1 := HR1.gro G
    replace GG := GG.trans G
    clear G
    clear eg1
    refine nr ?_; intro U h; simp only [z0, z1] at h; subst h
    refine s_store rfl rfl 36 _ _ rfl g1 0 rfl (pv ((stp m).getD j (0, 0))) rfl 36 _ kg1 (pc ((stp m).getD j (0, 0))) rfl size36 (Nat.le_refl _) (pc_one _) (pc ((stp m).getD j (0, 0))) (splice_whole _ _ rfl) ?_
    intro w4 St
    have kS := kg1
    replace HX := HX.st St dHXg1
    replace HR1 := HR1.st St dHR1g1
    replace GG := GG.store St bg1
    replace kg1 := St.new
    clear St
    refine wpList_nil ?_
    refine then_n ?_
    have hp : P64 ((stp m).getD j (0, 0)) := HR1.all _ (getD_memP hjl)
    have hcb := cntF_bd (stp m) j ((stp m).getD j (0, 0))
    have hsl : (stp m).length ≤ 1000000 := by rw [stp_len]; omega
    obtain ⟨SX, HXS⟩ := (HX.gro (Gro.refl _).drew).out
    obtain ⟨v0, st, wE, hE, KE, ⟨n1, S1x, HE⟩, hSt⟩ := HXS.entry mP (by simp only [maxLen]; omega) hp
    have kgE := KE.has ((Gro.refl _).drew.has kg1)
    refine wp_region_pm (A := ?A5) (fun L x => x = cond (L 4) wE w4.drew) 6 [(0, 18), (1, 19), (2, 20), (3, 21), (4, 22), (5, 23)] [.val (.map (some b)), .val (pv ((stp m).getD j (0, 0))), .val (.int .i64 (cntF (stp m) j ((stp m).getD j (0, 0)))), .val (.int .i64 (cntF (stp m) j ((stp m).getD j (0, 0)) + 1)), .val (.tuple #[v0, goInt st]), .val (goInt st)] [] [] follows (by kernel_rfl) rfl (by kernel_rfl) (by decide) rfl ?hA5 (opsM_w ?p0 (opsM_w ?p1 (opsM_w ?p2 (opsM_w ?p3 (opsM_w ?p4 (opsM_w ?p5 opsM_nil)))))) ?rest5
    case hA5 =>
      intro ptrs
      simp only [full, foldSlots, filledE, postE, List.foldl_cons, List.foldl_nil, List.getD_cons_zero, List.getD_cons_succ, fill_val, List.set_cons_zero, List.set_cons_succ]
      exact rfl
    case p0 =>
      intro L ptrs x hx hL4 _ _ _
      exact opX_val (v := (.map (some b))) rfl (rfl) ⟨hx, StM.vals [0, 1, 2, 3, 4, 5] (by kernel_rfl) ⟨⟨_, rfl⟩, ⟨_, rfl⟩, ⟨_, rfl⟩, ⟨_, rfl⟩, ⟨_, rfl⟩, ⟨_, rfl⟩, trivial⟩⟩ rfl
    case p1 =>
      intro L ptrs x hx hL4 _ _ _
      cases h4 : L 4
      · have hx2 := hx
        rw [h4] at hx2
        simp only [cond] at hx2
        subst hx2
        exact opX_val (v := (pv ((stp m).getD j (0, 0)))) rfl (run_ldB _ rfl g1 _ rfl ((Gro.refl _).drew.has kg1)) ⟨hx, StM.vals [0, 1, 2, 3, 4, 5] (by kernel_rfl) ⟨⟨_, rfl⟩, ⟨_, rfl⟩, ⟨_, rfl⟩, ⟨_, rfl⟩, ⟨_, rfl⟩, ⟨_, rfl⟩, trivial⟩⟩ rfl
      · have hx2 := hx
        rw [h4] at hx2
        simp only [cond] at hx2
        subst hx2
        exact opX_val (v := (pv ((stp m).getD j (0, 0)))) rfl (run_ldB _ rfl g1 _ rfl kgE) ⟨hx, StM.vals [0, 1, 2, 3, 4, 5] (by kernel_rfl) ⟨⟨_, rfl⟩, ⟨_, rfl⟩, ⟨_, rfl⟩, ⟨_, rfl⟩, ⟨_, rfl⟩, ⟨_, rfl⟩, trivial⟩⟩ rfl
    case p2 =>
      intro L ptrs x hx hL4 _ _ _
      cases h4 : L 4
      · have hx2 := hx
        rw [h4] at hx2
        simp only [cond] at hx2
        subst hx2
        exact opX_val (v := (.int .i64 (cntF (stp m) j ((stp m).getD j (0, 0))))) rfl (run_lkp mP HXS _ _ rfl rfl ((stp m).getD j (0, 0)) rfl hp) ⟨hx, StM.vals [0, 1, 2, 3, 4, 5] (by kernel_rfl) ⟨⟨_, rfl⟩, ⟨_, rfl⟩, ⟨_, rfl⟩, ⟨_, rfl⟩, ⟨_, rfl⟩, ⟨_, rfl⟩, trivial⟩⟩ rfl
      · have hx2 := hx
        rw [h4] at hx2
        simp only [cond] at hx2
        subst hx2
        exact opX_val (v := (.int .i64 (cntF (stp m) j ((stp m).getD j (0, 0))))) rfl (run_lkp mP HE _ _ rfl rfl ((stp m).getD j (0, 0)) rfl hp) ⟨hx, StM.vals [0, 1, 2, 3, 4, 5] (by kernel_rfl) ⟨⟨_, rfl⟩, ⟨_, rfl⟩, ⟨_, rfl⟩, ⟨_, rfl⟩, ⟨_, rfl⟩, ⟨_, rfl⟩, trivial⟩⟩ rfl
    case p3 =>
      intro L ptrs x hx hL4 _ _ _
      exact opX_val (v := (.int .i64 (cntF (stp m) j ((stp m).getD j (0, 0)) + 1))) rfl (run_addI 3 _ _ _ rfl (cntF (stp m) j ((stp m).getD j (0, 0))) 1 (cntF (stp m) j ((stp m).getD j (0, 0)) + 1) rfl rfl rfl (by omega) (by omega) _) ⟨hx, StM.vals [0, 1, 2, 3, 4, 5] (by kernel_rfl) ⟨⟨_, rfl⟩, ⟨_, rfl⟩, ⟨_, rfl⟩, ⟨_, rfl⟩, ⟨_, rfl⟩, ⟨_, rfl⟩, trivial⟩⟩ rfl
    case p4 =>
      intro L ptrs x hx hL4 _ _ _
      rw [show L 4 = false from hL4] at hx
      simp only [cond] at hx
      subst hx
      refine opX_val (v := (.tuple #[v0, goInt st])) rfl ?_ ⟨rfl, StM.vals [0, 1, 2, 3, 4, 5] (by kernel_rfl) ⟨⟨_, rfl⟩, ⟨_, rfl⟩, ⟨_, rfl⟩, ⟨_, rfl⟩, ⟨_, rfl⟩, ⟨_, rfl⟩, trivial⟩⟩ rfl
      exact run_mE _ _ rfl (.map (some b)) (pv ((stp m).getD j (0, 0))) rfl rfl hE
    case p5 =>
      intro L ptrs x hx hL4 _ _ _
      exact opX_val (v := (goInt st)) rfl (rfl) ⟨hx, StM.vals [0, 1, 2, 3, 4, 5] (by kernel_rfl) ⟨⟨_, rfl⟩, ⟨_, rfl⟩, ⟨_, rfl⟩, ⟨_, rfl⟩, ⟨_, rfl⟩, ⟨_, rfl⟩, trivial⟩⟩ rfl
    intro ptrs w5 hJ _
    have hJ2 : w5 = wE := hJ
    subst hJ2
    simp only [List.drop_succ_cons, List.drop_zero]
    obtain ⟨w2e, hR, HM2, KP⟩ := hSt (cntF (stp m) j ((stp m).getD j (0, 0)) + 1) ⟨by omega, by omega⟩
    refine s_unit rfl rfl (run_eS _ _ _ rfl (.map (some b)) (goInt st) (.int .i64 (cntF (stp m) j ((stp m).getD j (0, 0)) + 1)) rfl rfl rfl hR) ?_
    rw [cntF_step hjl] at HM2
    replace HR1 := (HR1.gro (Gro.refl _).drew).kp KP
    replace GG := KP.gro GG.drew bb
    have HXn : MP _ b (j + 1) (cntF (stp m) (j + 1)) := ⟨_, HM2⟩
    clear HX
    have HX := HXn
    refine wpList_nil ?_
    refine blk_n ?_
    refine then_n ?_
    refine wp_region_lit ?_
    refine s_val 24 rfl rfl (.int .i64 ((j + 1 : Nat) : Int)) (run_addI 3 _ _ _ rfl ((j : Nat) : Int) 1 ((j + 1 : Nat) : Int) rfl rfl (by omega) (by omega) (by omega) _) ?_
    refine nr ?_; intro U h; simp only [z0, z1] at h; subst h
    refine s_val 14 rfl rfl (.int .i64 ((j + 1 : Nat) : Int)) (rfl) ?_
    refine nr ?_; intro U h; simp only [z0, z1] at h; subst h
    refine wpList_nil ?_
    refine then_n ?_
    exact ⟨_, (by omega : (stp m).length - (j + 1) < (stp m).length - j), j + 1, (fun kz => ([.pointer (some ⟨g1, 0, none⟩), .bool true, .pointer (pP ao1 j), pv ((stp m).getD j (0, 0)), .map (some b), pv ((stp m).getD j (0, 0)), .int .i64 (cntF (stp m) j ((stp m).getD j (0, 0))), .int .i64 (cntF (stp m) j ((stp m).getD j (0, 0)) + 1), .tuple #[v0, goInt st], goInt st, .int .i64 ((j + 1 : Nat) : Int)] : List Value).getD kz undef), rfl, rfl, hjl, GG, HX, HR1⟩
set_option maxRecDepth 100000 in
set_option maxHeartbeats 4000000 in
theorem refjoins_any (w : World) (ao : Option Addr) (cap : Nat) (l : List Int) (H : RC w ao cap l) (hl : l.length ≤ 1000000) (bo : Option Addr) (bap : Nat) (m : List Int) (HM : RC w bo bap m) (hm : m.length ≤ 1000000) : Calls Try.prog 21 #[.slice ao l.length cap, .slice bo m.length bap] w (fun e w' => e = .returned (.bool (jn l m)) ∧ Gro w w') := by
  refine s_enter Try.func21 rfl Try.ntmps21 [.slice ao l.length cap, .slice bo m.length bap] [.slice ao l.length cap, .slice bo m.length bap, undef, undef, undef, undef, undef, undef, undef, undef, undef, undef, undef, undef, undef, undef, undef, undef, undef, undef, undef, undef, undef, undef, undef, undef, undef, undef, undef, undef, undef, undef, undef, undef, undef, undef, undef, undef, undef, undef, undef, undef, undef, undef, undef, undef] rfl ?_
  have GG := Gro.refl w
  refine wp_seq ?_
  refine wp_region_lit ?_
  refine s_val 4 rfl rfl (.bool false) (rfl) ?_
  refine nr ?_; intro U h; simp only [z0, z1] at h; subst h
  refine wpList_nil ?_
  refine then_n ?_
  refine wp_seq ?_
  refine wp_seq ?_
  refine wp_region_lit ?_
  refine s_val 5 rfl rfl (.int .i64 0) (rfl) ?_
  refine nr ?_; intro U h; simp only [z0, z1] at h; subst h
  refine wpList_nil ?_
  refine then_n ?_
  refine wp_block ?_
  refine wp_loopN (fun mz az wv => ∃ (i : Nat) (us1 : Nat → Value), mz = l.length - i ∧ az = ⟨[.slice ao l.length cap, .slice bo m.length bap, undef, undef, us1 0, .int .i64 ((i : Nat) : Int), us1 1, us1 2, us1 3, us1 4, us1 5, us1 6, us1 7, us1 8, us1 9, us1 10, us1 11, us1 12, us1 13, us1 14, us1 15, us1 16, us1 17, us1 18, us1 19, us1 20, us1 21, us1 22, us1 23, us1 24, us1 25, us1 26, us1 27, us1 28, us1 29, us1 30, us1 31, us1 32, us1 33, us1 34, us1 35, us1 36, us1 37, us1 38, us1 39, us1 40].toArray, []⟩ ∧ i ≤ l.length ∧ (∀ q, q < i → q + 1 < l.length → (l.getD q 0, l.getD (q + 1) 0) ∈ stp m) ∧ Gro w wv) ?_ _ ⟨0, (fun kz => ([.bool false, undef, undef, undef, undef, undef, undef, undef, undef, undef, undef, undef, undef, undef, undef, undef, undef, undef, undef, undef, undef, undef, undef, undef, undef, undef, undef, undef, undef, undef, undef, undef, undef, undef, undef, undef, undef, undef, undef, undef, undef] : List Value).getD kz undef), rfl, rfl, Nat.zero_le _, (fun q hq => absurd hq (Nat.not_lt_zero q)), GG⟩
  clear GG
  rintro mz az wv ⟨i, us1, rfl, rfl, hi, hall, GG⟩
  refine wp_seq ?_
  refine wp_seq ?_
  refine wp_region_lit ?_
  refine s_val 8 rfl rfl (.int .i64 ((i : Nat) : Int)) (rfl) ?_
  refine nr ?_; intro U h; simp only [z0, z1] at h; subst h
  refine s_val 9 rfl rfl (.int .i64 ((i + 1 : Nat) : Int)) (run_addI 3 _ _ _ rfl ((i : Nat) : Int) 1 ((i + 1 : Nat) : Int) rfl rfl (by omega) (by omega) (by omega) _) ?_
  refine nr ?_; intro U h; simp only [z0, z1] at h; subst h
  refine s_val 10 rfl rfl (.slice ao l.length cap) (rfl) ?_
  refine nr ?_; intro U h; simp only [z0, z1] at h; subst h
  refine s_val 11 rfl rfl (.int .i64 ((l.length : Nat) : Int)) (run_len Try.underlying22 _ rfl _ _ _ rfl _) ?_
  refine nr ?_; intro U h; simp only [z0, z1] at h; subst h
  cases hi1 : decide (((i + 1 : Nat) : Int) < ((l.length : Nat) : Int))
  · have hie : ¬ i + 1 < l.length := by have := of_decide_eq_false hi1; omega
    refine s_val 12 rfl rfl (.bool false) (run_lssT 3 _ _ _ rfl ((i + 1 : Nat) : Int) ((l.length : Nat) : Int) rfl rfl false hi1 _) ?_
    refine nr ?_; intro U h; simp only [z0, z1] at h; subst h
    refine wpList_nil ?_
    refine then_n ?_
    refine wp_cond_false rfl ?_
    refine wp_exit ?_
    refine then_x ?_
    refine then_x ?_
    refine blk_x ?_
    refine then_n ?_
    refine wp_seq ?_
    refine wp_region_lit ?_
    refine s_val 4 rfl rfl (.bool true) (rfl) ?_
    refine nr ?_; intro U h; simp only [z0, z1] at h; subst h
    refine wpList_nil ?_
    refine then_n ?_
    refine wp_ret ?_
    refine bodyPost_ret (results_tmp Try.results21 _ _ _) rfl ?_
    exact ⟨congrArg (fun b => Ending.returned (.bool b)) (jn_of fun q hq => hall q (by omega) hq).symm, GG⟩
  · have hil : i + 1 < l.length := by have := of_decide_eq_true hi1; omega
    refine s_val 12 rfl rfl (.bool true) (run_lssT 3 _ _ _ rfl ((i + 1 : Nat) : Int) ((l.length : Nat) : Int) rfl rfl true hi1 _) ?_
    refine nr ?_; intro U h; simp only [z0, z1] at h; subst h
    refine wpList_nil ?_
    refine then_n ?_
    refine wp_cond_true rfl ?_
    refine wp_skip ?_
    refine then_n ?_
    refine wp_seq ?_
    refine wp_block ?_
    refine wp_seq ?_
    refine wp_region_lit ?_
    refine s_val 6 rfl rfl (.bool false) (rfl) ?_
    refine nr ?_; intro U h; simp only [z0, z1] at h; subst h
    refine wpList_nil ?_
    refine then_n ?_
    refine wp_seq ?_
    refine wp_seq ?_
    refine wp_region_lit ?_
    refine s_val 7 rfl rfl (.int .i64 0) (rfl) ?_
    refine nr ?_; intro U h; simp only [z0, z1] at h; subst h
    refine wpList_nil ?_
    refine then_n ?_
    refine wp_block ?_
    refine wp_loopN (fun mz az wx => ∃ (ok : Bool) (k : Nat) (us2 : Nat → Value), mz = m.length - k ∧ az = ⟨[.slice ao l.length cap, .slice bo m.length bap, undef, undef, us1 0, .int .i64 ((i : Nat) : Int), .bool ok, .int .i64 ((k : Nat) : Int), .int .i64 ((i : Nat) : Int), .int .i64 ((i + 1 : Nat) : Int), .slice ao l.length cap, .int .i64 ((l.length : Nat) : Int), .bool true, us1 8, us1 9, us2 0, us2 1, us2 2, us2 3, us2 4, us2 5, us2 6, us2 7, us2 8, us2 9, us2 10, us2 11, us2 12, us2 13, us2 14, us2 15, us2 16, us2 17, us2 18, us2 19, us2 20, us2 21, us2 22, us2 23, us2 24, us2 25, us2 26, us2 27, us2 28, us1 39, us1 40].toArray, []⟩ ∧ k ≤ m.length ∧ (ok = true ↔ ∃ q, q < k ∧ okS l m i q) ∧ Gro w wx) ?_ _ ⟨false, 0, (fun kz => ([us1 10, us1 11, us1 12, us1 13, us1 14, us1 15, us1 16, us1 17, us1 18, us1 19, us1 20, us1 21, us1 22, us1 23, us1 24, us1 25, us1 26, us1 27, us1 28, us1 29, us1 30, us1 31, us1 32, us1 33, us1 34, us1 35, us1 36, us1 37, us1 38] : List Value).getD kz undef), rfl, rfl, Nat.zero_le _, ⟨fun h => (by cases h), fun ⟨q, hq, _⟩ => absurd hq (Nat.not_lt_zero q)⟩, GG⟩
    clear GG
    rintro mz az wx ⟨ok, k, us2, rfl, rfl, hk, hok, GG⟩
    refine wp_seq ?_
    refine wp_seq ?_
    refine wp_region_lit ?_
    refine s_val 15 rfl rfl (.int .i64 ((k : Nat) : Int)) (rfl) ?_
    refine nr ?_; intro U h; simp only [z0, z1] at h; subst h
    refine s_val 16 rfl rfl (.int .i64 ((k + 1 : Nat) : Int)) (run_addI 3 _ _ _ rfl ((k : Nat) : Int) 1 ((k + 1 : Nat) : Int) rfl rfl (by omega) (by omega) (by omega) _) ?_
    refine nr ?_; intro U h; simp only [z0, z1] at h; subst h
    refine s_val 17 rfl rfl (.slice bo m.length bap) (rfl) ?_
    refine nr ?_; intro U h; simp only [z0, z1] at h; subst h
    refine s_val 18 rfl rfl (.int .i64 ((m.length : Nat) : Int)) (run_len Try.underlying22 _ rfl _ _ _ rfl _) ?_
    refine nr ?_; intro U h; simp only [z0, z1] at h; subst h
    cases hk1 : decide (((k + 1 : Nat) : Int) < ((m.length : Nat) : Int))
    · have hke : ¬ k + 1 < m.length := by have := of_decide_eq_false hk1; omega
      refine s_val 19 rfl rfl (.bool false) (run_lssT 3 _ _ _ rfl ((k + 1 : Nat) : Int) ((m.length : Nat) : Int) rfl rfl false hk1 _) ?_
      refine nr ?_; intro U h; simp only [z0, z1] at h; subst h
      refine wpList_nil ?_
      refine then_n ?_
      refine wp_cond_false rfl ?_
      refine wp_exit ?_
      refine then_x ?_
      refine then_x ?_
      refine blk_x ?_
      refine then_n ?_
      refine wp_seq ?_
      cases ok
      · refine wp_region_lit ?_
        refine s_val 44 rfl rfl (.bool false) (rfl) ?_
        refine nr ?_; intro U h; simp only [z0, z1] at h; subst h
        refine s_val 45 rfl rfl (.bool true) (run_nt _ _ rfl false rfl) ?_
        refine nr ?_; intro U h; simp only [z0, z1] at h; subst h
        refine wpList_nil ?_
        refine then_n ?_
        refine wp_cond_true rfl ?_
        refine wp_seq ?_
        refine wp_region_lit ?_
        refine s_val 4 rfl rfl (.bool false) (rfl) ?_
        refine nr ?_; intro U h; simp only [z0, z1] at h; subst h
        refine wpList_nil ?_
        refine then_n ?_
        refine wp_ret ?_
        refine blk_r ?_
        refine then_r ?_
        refine then_r ?_
        refine blk_r ?_
        refine then_r ?_
        refine bodyPost_ret (results_tmp Try.results21 _ _ _) rfl ?_
        exact ⟨congrArg (fun b => Ending.returned (.bool b)) (jn_no hil (fun h => by have := hok.2 ((okS_mem hke).2 h); cases this)).symm, GG⟩
      · refine wp_region_lit ?_
        refine s_val 44 rfl rfl (.bool true) (rfl) ?_
        refine nr ?_; intro U h; simp only [z0, z1] at h; subst h
        refine s_val 45 rfl rfl (.bool false) (run_nt _ _ rfl true rfl) ?_
        refine nr ?_; intro U h; simp only [z0, z1] at h; subst h
        refine wpList_nil ?_
        refine then_n ?_
        refine wp_cond_false rfl ?_
        refine wp_skip ?_
        refine blk_n ?_
        refine then_n ?_
        refine wp_region_lit ?_
        refine s_val 13 rfl rfl (.int .i64 ((i : Nat) : Int)) (rfl) ?_
        refine nr ?_; intro U h; simp only [z0, z1] at h; subst h
        refine s_val 14 rfl rfl (.int .i64 ((i + 1 : Nat) : Int)) (run_addI 3 _ _ _ rfl ((i : Nat) : Int) 1 ((i + 1 : Nat) : Int) rfl rfl (by omega) (by omega) (by omega) _) ?_
        refine nr ?_; intro U h; simp only [z0, z1] at h; subst h
        refine s_val 5 rfl rfl (.int .i64 ((i + 1 : Nat) : Int)) (rfl) ?_
        refine nr ?_; intro U h; simp only [z0, z1] at h; subst h
        refine wpList_nil ?_
        refine then_n ?_
        exact ⟨_, (by omega : l.length - (i + 1) < l.length - i), i + 1, (fun kz => ([us1 0, .bool true, .int .i64 ((k : Nat) : Int), .int .i64 ((i : Nat) : Int), .int .i64 ((i + 1 : Nat) : Int), .slice ao l.length cap, .int .i64 ((l.length : Nat) : Int), .bool true, .int .i64 ((i : Nat) : Int), .int .i64 ((i + 1 : Nat) : Int), .int .i64 ((k : Nat) : Int), .int .i64 ((k + 1 : Nat) : Int), .slice bo m.length bap, .int .i64 ((m.length : Nat) : Int), .bool false, us2 5, us2 6, us2 7, us2 8, us2 9, us2 10, us2 11, us2 12, us2 13, us2 14, us2 15, us2 16, us2 17, us2 18, us2 19, us2 20, us2 21, us2 22, us2 23, us2 24, us2 25, us2 26, us2 27, us2 28, .bool true, .bool false] : List Value).getD kz undef), rfl, rfl, (by omega), (upto_succ hall fun _ => (okS_mem hke).1 (hok.1 rfl)), GG⟩
    · have hkl : k + 1 < m.length := by have := of_decide_eq_true hk1; omega
      refine s_val 19 rfl rfl (.bool true) (run_lssT 3 _ _ _ rfl ((k + 1 : Nat) : Int) ((m.length : Nat) : Int) rfl rfl true hk1 _) ?_
      refine nr ?_; intro U h; simp only [z0, z1] at h; subst h
      refine wpList_nil ?_
      refine then_n ?_
      refine wp_cond_true rfl ?_
      refine wp_skip ?_
      refine then_n ?_
      refine wp_seq ?_
      refine wp_block ?_
      refine wp_seq ?_
      cases hq1 : decide ((m.getD k 0) = (l.getD i 0))
      · refine wp_region_exA (A := ?Ax2) 21 [(0, 22), (1, 23), (2, 24), (3, 25), (4, 26), (5, 27), (6, 28), (7, 29), (8, 30), (9, 31), (10, 32), (11, 33), (12, 34), (13, 35), (14, 36), (15, 37), (16, 38), (17, 39), (18, 40), (19, 41), (20, 42)] [.val (.slice bo m.length bap), .val (.int .i64 ((k : Nat) : Int)), .val (.pointer (pA bo k)), .val (.int .i64 (m.getD k 0)), .val (.slice ao l.length cap), .val (.int .i64 ((i : Nat) : Int)), .val (.pointer (pA ao i)), .val (.int .i64 (l.getD i 0)), .val (.bool false), .val (.bool false), .val undef, .val undef, .val undef, .val undef, .val undef, .val undef, .val undef, .val undef, .val undef, .val undef, .val undef] follows (by kernel_rfl) rfl ?hAx2 (opsA_cons ?o0x2 (opsA_cons ?o1x2 (opsA_cons ?o2x2 (opsA_cons ?o3x2 (opsA_cons ?o4x2 (opsA_cons ?o5x2 (opsA_cons ?o6x2 (opsA_cons ?o7x2 (opsA_cons ?o8x2 (opsA_cons ?o9x2 (opsA_cons ?o10x2 (opsA_cons ?o11x2 (opsA_cons ?o12x2 (opsA_cons ?o13x2 (opsA_cons ?o14x2 (opsA_cons ?o15x2 (opsA_cons ?o16x2 (opsA_cons ?o17x2 (opsA_cons ?o18x2 (opsA_cons ?o19x2 (opsA_cons ?o20x2 opsA_nil))))))))))))))))))))) ?restx2
        case hAx2 =>
          intro ptrs
          simp only [full, foldSlots, filledE, postE, List.foldl_cons, List.foldl_nil, List.getD_cons_zero, List.getD_cons_succ, fill_val, List.set_cons_zero, List.set_cons_succ]
          exact rfl
        case o0x2 => exact fun _ _ _ _ => opE_move (v := .slice bo m.length bap) _ rfl rfl rfl
        case o1x2 => exact fun _ _ _ _ => opE_move (v := .int .i64 ((k : Nat) : Int)) _ rfl rfl rfl
        case o2x2 => exact fun _ _ hw _ => opE_value (v := .pointer (pA bo k)) rfl (run_ixI (HM.gro (GG.drew.trans hw)) _ _ rfl rfl k rfl (by omega))
        case o3x2 => exact fun _ _ hw _ => opE_value (v := .int .i64 (m.getD k 0)) rfl (run_ldI (HM.gro (GG.drew.trans hw)) _ rfl k rfl (by omega))
        case o4x2 => exact fun _ _ _ _ => opE_move (v := .slice ao l.length cap) _ rfl rfl rfl
        case o5x2 => exact fun _ _ _ _ => opE_move (v := .int .i64 ((i : Nat) : Int)) _ rfl rfl rfl
        case o6x2 => exact fun _ _ hw _ => opE_value (v := .pointer (pA ao i)) rfl (run_ixI (H.gro (GG.drew.trans hw)) _ _ rfl rfl i rfl (by omega))
        case o7x2 => exact fun _ _ hw _ => opE_value (v := .int .i64 (l.getD i 0)) rfl (run_ldI (H.gro (GG.drew.trans hw)) _ rfl i rfl (by omega))
        case o8x2 => exact fun _ _ _ _ => opE_value (v := .bool false) rfl (run_eq_k 3 .i64 _ _ _ rfl Try.underlying3 (m.getD k 0) (l.getD i 0) rfl rfl false hq1 _)
        case o9x2 => exact fun _ _ _ _ => opE_move (v := .bool false) _ rfl rfl rfl
        case o10x2 => exact fun _ _ _ _ => opE_skip rfl
        case o11x2 => exact fun _ _ _ _ => opE_skip rfl
        case o12x2 => exact fun _ _ _ _ => opE_skip rfl
        case o13x2 => exact fun _ _ _ _ => opE_skip rfl
        case o14x2 => exact fun _ _ _ _ => opE_skip rfl
        case o15x2 => exact fun _ _ _ _ => opE_skip rfl
        case o16x2 => exact fun _ _ _ _ => opE_skip rfl
        case o17x2 => exact fun _ _ _ _ => opE_skip rfl
        case o18x2 => exact fun _ _ _ _ => opE_skip rfl
        case o19x2 => exact fun _ _ _ _ => opE_skip rfl
        case o20x2 => exact fun _ _ _ _ => opE_skip rfl
        intro ptrs w1 GD hxE
        simp only [List.drop_succ_cons, List.drop_zero]
        replace GG := GG.drew.trans GD
        clear GD
        refine s_val 43 rfl rfl (.bool false) (rfl) ?_
        refine nr ?_; intro U h; simp only [z0, z1] at h; subst h
        refine wpList_nil ?_
        refine then_n ?_
        refine wp_cond_false rfl ?_
        refine wp_skip ?_
        refine blk_n ?_
        refine then_n ?_
        refine wp_region_lit ?_
        refine s_val 20 rfl rfl (.int .i64 ((k : Nat) : Int)) (rfl) ?_
        refine nr ?_; intro U h; simp only [z0, z1] at h; subst h
        refine s_val 21 rfl rfl (.int .i64 ((k + 1 : Nat) : Int)) (run_addI 3 _ _ _ rfl ((k : Nat) : Int) 1 ((k + 1 : Nat) : Int) rfl rfl (by omega) (by omega) (by omega) _) ?_
        refine nr ?_; intro U h; simp only [z0, z1] at h; subst h
        refine s_val 7 rfl rfl (.int .i64 ((k + 1 : Nat) : Int)) (rfl) ?_
        refine nr ?_; intro U h; simp only [z0, z1] at h; subst h
        refine wpList_nil ?_
        refine then_n ?_
        exact ⟨_, (by omega : m.length - (k + 1) < m.length - k), ok, k + 1, (fun kz => ([.int .i64 ((k : Nat) : Int), .int .i64 ((k + 1 : Nat) : Int), .slice bo m.length bap, .int .i64 ((m.length : Nat) : Int), .bool true, .int .i64 ((k : Nat) : Int), .int .i64 ((k + 1 : Nat) : Int), .slice bo m.length bap, .int .i64 ((k : Nat) : Int), .pointer (pA bo k), .int .i64 (m.getD k 0), .slice ao l.length cap, .int .i64 ((i : Nat) : Int), .pointer (pA ao i), .int .i64 (l.getD i 0), .bool false, .bool false, undef, undef, undef, undef, undef, undef, undef, undef, undef, undef, undef, .bool false] : List Value).getD kz undef), rfl, rfl, (by omega), hok.trans (ex_no fun h => of_decide_eq_false hq1 h.2.1), GG⟩
      · cases hq2 : decide ((m.getD (k + 1) 0) = (l.getD (i + 1) 0))
        · refine wp_region_exA (A := ?Ax3) 21 [(0, 22), (1, 23), (2, 24), (3, 25), (4, 26), (5, 27), (6, 28), (7, 29), (8, 30), (9, 31), (10, 32), (11, 33), (12, 34), (13, 35), (14, 36), (15, 37), (16, 38), (17, 39), (18, 40), (19, 41), (20, 42)] [.val (.slice bo m.length bap), .val (.int .i64 ((k : Nat) : Int)), .val (.pointer (pA bo k)), .val (.int .i64 (m.getD k 0)), .val (.slice ao l.length cap), .val (.int .i64 ((i : Nat) : Int)), .val (.pointer (pA ao i)), .val (.int .i64 (l.getD i 0)), .val (.bool true), .val (.bool true), .val (.slice bo m.length bap), .val (.int .i64 ((k : Nat) : Int)), .val (.int .i64 ((k + 1 : Nat) : Int)), .val (.pointer (pA bo (k + 1))), .val (.int .i64 (m.getD (k + 1) 0)), .val (.slice ao l.length cap), .val (.int .i64 ((i : Nat) : Int)), .val (.int .i64 ((i + 1 : Nat) : Int)), .val (.pointer (pA ao (i + 1))), .val (.int .i64 (l.getD (i + 1) 0)), .val (.bool false)] follows (by kernel_rfl) rfl ?hAx3 (opsA_cons ?o0x3 (opsA_cons ?o1x3 (opsA_cons ?o2x3 (opsA_cons ?o3x3 (opsA_cons ?o4x3 (opsA_cons ?o5x3 (opsA_cons ?o6x3 (opsA_cons ?o7x3 (opsA_cons ?o8x3 (opsA_cons ?o9x3 (opsA_cons ?o10x3 (opsA_cons ?o11x3 (opsA_cons ?o12x3 (opsA_cons ?o13x3 (opsA_cons ?o14x3 (opsA_cons ?o15x3 (opsA_cons ?o16x3 (opsA_cons ?o17x3 (opsA_cons ?o18x3 (opsA_cons ?o19x3 (opsA_cons ?o20x3 opsA_nil))))))))))))))))))))) ?restx3
          case hAx3 =>
            intro ptrs
            simp only [full, foldSlots, filledE, postE, List.foldl_cons, List.foldl_nil, List.getD_cons_zero, List.getD_cons_succ, fill_val, List.set_cons_zero, List.set_cons_succ]
            exact rfl
          case o0x3 => exact fun _ _ _ _ => opE_move (v := .slice bo m.length bap) _ rfl rfl rfl
          case o1x3 => exact fun _ _ _ _ => opE_move (v := .int .i64 ((k : Nat) : Int)) _ rfl rfl rfl
          case o2x3 => exact fun _ _ hw _ => opE_value (v := .pointer (pA bo k)) rfl (run_ixI (HM.gro (GG.drew.trans hw)) _ _ rfl rfl k rfl (by omega))
          case o3x3 => exact fun _ _ hw _ => opE_value (v := .int .i64 (m.getD k 0)) rfl (run_ldI (HM.gro (GG.drew.trans hw)) _ rfl k rfl (by omega))
          case o4x3 => exact fun _ _ _ _ => opE_move (v := .slice ao l.length cap) _ rfl rfl rfl
          case o5x3 => exact fun _ _ _ _ => opE_move (v := .int .i64 ((i : Nat) : Int)) _ rfl rfl rfl
          case o6x3 => exact fun _ _ hw _ => opE_value (v := .pointer (pA ao i)) rfl (run_ixI (H.gro (GG.drew.trans hw)) _ _ rfl rfl i rfl (by omega))
          case o7x3 => exact fun _ _ hw _ => opE_value (v := .int .i64 (l.getD i 0)) rfl (run_ldI (H.gro (GG.drew.trans hw)) _ rfl i rfl (by omega))
          case o8x3 => exact fun _ _ _ _ => opE_value (v := .bool true) rfl (run_eq_k 3 .i64 _ _ _ rfl Try.underlying3 (m.getD k 0) (l.getD i 0) rfl rfl true hq1 _)
          case o9x3 => exact fun _ _ _ _ => opE_move (v := .bool true) _ rfl rfl rfl
          case o10x3 => exact fun _ _ _ _ => opE_move (v := .slice bo m.length bap) _ rfl rfl rfl
          case o11x3 => exact fun _ _ _ _ => opE_move (v := .int .i64 ((k : Nat) : Int)) _ rfl rfl rfl
          case o12x3 => exact fun _ _ _ _ => opE_value (v := .int .i64 ((k + 1 : Nat) : Int)) rfl (run_addI 3 _ _ _ rfl ((k : Nat) : Int) 1 ((k + 1 : Nat) : Int) rfl rfl (by omega) (by omega) (by omega) _)
          case o13x3 => exact fun _ _ hw _ => opE_value (v := .pointer (pA bo (k + 1))) rfl (run_ixI (HM.gro (GG.drew.trans hw)) _ _ rfl rfl (k + 1) rfl hkl)
          case o14x3 => exact fun _ _ hw _ => opE_value (v := .int .i64 (m.getD (k + 1) 0)) rfl (run_ldI (HM.gro (GG.drew.trans hw)) _ rfl (k + 1) rfl hkl)
          case o15x3 => exact fun _ _ _ _ => opE_move (v := .slice ao l.length cap) _ rfl rfl rfl
          case o16x3 => exact fun _ _ _ _ => opE_move (v := .int .i64 ((i : Nat) : Int)) _ rfl rfl rfl
          case o17x3 => exact fun _ _ _ _ => opE_value (v := .int .i64 ((i + 1 : Nat) : Int)) rfl (run_addI 3 _ _ _ rfl ((i : Nat) : Int) 1 ((i + 1 : Nat) : Int) rfl rfl (by omega) (by omega) (by omega) _)
          case o18x3 => exact fun _ _ hw _ => opE_value (v := .pointer (pA ao (i + 1))) rfl (run_ixI (H.gro (GG.drew.trans hw)) _ _ rfl rfl (i + 1) rfl hil)
          case o19x3 => exact fun _ _ hw _ => opE_value (v := .int .i64 (l.getD (i + 1) 0)) rfl (run_ldI (H.gro (GG.drew.trans hw)) _ rfl (i + 1) rfl hil)
          case o20x3 => exact fun _ _ _ _ => opE_value (v := .bool false) rfl (run_eq_k 3 .i64 _ _ _ rfl Try.underlying3 (m.getD (k + 1) 0) (l.getD (i + 1) 0) rfl rfl false hq2 _)
          intro ptrs w1 GD hxE
          simp only [List.drop_succ_cons, List.drop_zero]
          replace GG := GG.drew.trans GD
          clear GD
          refine s_val 43 rfl rfl (.bool false) (rfl) ?_
          refine nr ?_; intro U h; simp only [z0, z1] at h; subst h
          refine wpList_nil ?_
          refine then_n ?_
          refine wp_cond_false rfl ?_
          refine wp_skip ?_
          refine blk_n ?_
          refine then_n ?_
          refine wp_region_lit ?_
          refine s_val 20 rfl rfl (.int .i64 ((k : Nat) : Int)) (rfl) ?_
          refine nr ?_; intro U h; simp only [z0, z1] at h; subst h
          refine s_val 21 rfl rfl (.int .i64 ((k + 1 : Nat) : Int)) (run_addI 3 _ _ _ rfl ((k : Nat) : Int) 1 ((k + 1 : Nat) : Int) rfl rfl (by omega) (by omega) (by omega) _) ?_
          refine nr ?_; intro U h; simp only [z0, z1] at h; subst h
          refine s_val 7 rfl rfl (.int .i64 ((k + 1 : Nat) : Int)) (rfl) ?_
          refine nr ?_; intro U h; simp only [z0, z1] at h; subst h
          refine wpList_nil ?_
          refine then_n ?_
          exact ⟨_, (by omega : m.length - (k + 1) < m.length - k), ok, k + 1, (fun kz => ([.int .i64 ((k : Nat) : Int), .int .i64 ((k + 1 : Nat) : Int), .slice bo m.length bap, .int .i64 ((m.length : Nat) : Int), .bool true, .int .i64 ((k : Nat) : Int), .int .i64 ((k + 1 : Nat) : Int), .slice bo m.length bap, .int .i64 ((k : Nat) : Int), .pointer (pA bo k), .int .i64 (m.getD k 0), .slice ao l.length cap, .int .i64 ((i : Nat) : Int), .pointer (pA ao i), .int .i64 (l.getD i 0), .bool true, .bool true, .slice bo m.length bap, .int .i64 ((k : Nat) : Int), .int .i64 ((k + 1 : Nat) : Int), .pointer (pA bo (k + 1)), .int .i64 (m.getD (k + 1) 0), .slice ao l.length cap, .int .i64 ((i : Nat) : Int), .int .i64 ((i + 1 : Nat) : Int), .pointer (pA ao (i + 1)), .int .i64 (l.getD (i + 1) 0), .bool false, .bool false] : List Value).getD kz undef), rfl, rfl, (by omega), hok.trans (ex_no fun h => of_decide_eq_false hq2 h.2.2), GG⟩
        · refine wp_region_exA (A := ?Ax4) 21 [(0, 22), (1, 23), (2, 24), (3, 25), (4, 26), (5, 27), (6, 28), (7, 29), (8, 30), (9, 31), (10, 32), (11, 33), (12, 34), (13, 35), (14, 36), (15, 37), (16, 38), (17, 39), (18, 40), (19, 41), (20, 42)] [.val (.slice bo m.length bap), .val (.int .i64 ((k : Nat) : Int)), .val (.pointer (pA bo k)), .val (.int .i64 (m.getD k 0)), .val (.slice ao l.length cap), .val (.int .i64 ((i : Nat) : Int)), .val (.pointer (pA ao i)), .val (.int .i64 (l.getD i 0)), .val (.bool true), .val (.bool true), .val (.slice bo m.length bap), .val (.int .i64 ((k : Nat) : Int)), .val (.int .i64 ((k + 1 : Nat) : Int)), .val (.pointer (pA bo (k + 1))), .val (.int .i64 (m.getD (k + 1) 0)), .val (.slice ao l.length cap), .val (.int .i64 ((i : Nat) : Int)), .val (.int .i64 ((i + 1 : Nat) : Int)), .val (.pointer (pA ao (i + 1))), .val (.int .i64 (l.getD (i + 1) 0)), .val (.bool true)] follows (by kernel_rfl) rfl ?hAx4 (opsA_cons ?o0x4 (opsA_cons ?o1x4 (opsA_cons ?o2x4 (opsA_cons ?o3x4 (opsA_cons ?o4x4 (opsA_cons ?o5x4 (opsA_cons ?o6x4 (opsA_cons ?o7x4 (opsA_cons ?o8x4 (opsA_cons ?o9x4 (opsA_cons ?o10x4 (opsA_cons ?o11x4 (opsA_cons ?o12x4 (opsA_cons ?o13x4 (opsA_cons ?o14x4 (opsA_cons ?o15x4 (opsA_cons ?o16x4 (opsA_cons ?o17x4 (opsA_cons ?o18x4 (opsA_cons ?o19x4 (opsA_cons ?o20x4 opsA_nil))))))))))))))))))))) ?restx4
          case hAx4 =>
            intro ptrs
            simp only [full, foldSlots, filledE, postE, List.foldl_cons, List.foldl_nil, List.getD_cons_zero, List.getD_cons_succ, fill_val, List.set_cons_zero, List.set_cons_succ]
            exact rfl
          case o0x4 => exact fun _ _ _ _ => opE_move (v := .slice bo m.length bap) _ rfl rfl rfl
          case o1x4 => exact fun _ _ _ _ => opE_move (v := .int .i64 ((k : Nat) : Int)) _ rfl rfl rfl
          case o2x4 => exact fun _ _ hw _ => opE_value (v := .pointer (pA bo k)) rfl (run_ixI (HM.gro (GG.drew.trans hw)) _ _ rfl rfl k rfl (by omega))
          case o3x4 => exact fun _ _ hw _ => opE_value (v := .int .i64 (m.getD k 0)) rfl (run_ldI (HM.gro (GG.drew.trans hw)) _ rfl k rfl (by omega))
          case o4x4 => exact fun _ _ _ _ => opE_move (v := .slice ao l.length cap) _ rfl rfl rfl
          case o5x4 => exact fun _ _ _ _ => opE_move (v := .int .i64 ((i : Nat) : Int)) _ rfl rfl rfl
          case o6x4 => exact fun _ _ hw _ => opE_value (v := .pointer (pA ao i)) rfl (run_ixI (H.gro (GG.drew.trans hw)) _ _ rfl rfl i rfl (by omega))
          case o7x4 => exact fun _ _ hw _ => opE_value (v := .int .i64 (l.getD i 0)) rfl (run_ldI (H.gro (GG.drew.trans hw)) _ rfl i rfl (by omega))
          case o8x4 => exact fun _ _ _ _ => opE_value (v := .bool true) rfl (run_eq_k 3 .i64 _ _ _ rfl Try.underlying3 (m.getD k 0) (l.getD i 0) rfl rfl true hq1 _)
          case o9x4 => exact fun _ _ _ _ => opE_move (v := .bool true) _ rfl rfl rfl
          case o10x4 => exact fun _ _ _ _ => opE_move (v := .slice bo m.length bap) _ rfl rfl rfl
          case o11x4 => exact fun _ _ _ _ => opE_move (v := .int .i64 ((k : Nat) : Int)) _ rfl rfl rfl
          case o12x4 => exact fun _ _ _ _ => opE_value (v := .int .i64 ((k + 1 : Nat) : Int)) rfl (run_addI 3 _ _ _ rfl ((k : Nat) : Int) 1 ((k + 1 : Nat) : Int) rfl rfl (by omega) (by omega) (by omega) _)
          case o13x4 => exact fun _ _ hw _ => opE_value (v := .pointer (pA bo (k + 1))) rfl (run_ixI (HM.gro (GG.drew.trans hw)) _ _ rfl rfl (k + 1) rfl hkl)
          case o14x4 => exact fun _ _ hw _ => opE_value (v := .int .i64 (m.getD (k + 1) 0)) rfl (run_ldI (HM.gro (GG.drew.trans hw)) _ rfl (k + 1) rfl hkl)
          case o15x4 => exact fun _ _ _ _ => opE_move (v := .slice ao l.length cap) _ rfl rfl rfl
          case o16x4 => exact fun _ _ _ _ => opE_move (v := .int .i64 ((i : Nat) : Int)) _ rfl rfl rfl
          case o17x4 => exact fun _ _ _ _ => opE_value (v := .int .i64 ((i + 1 : Nat) : Int)) rfl (run_addI 3 _ _ _ rfl ((i : Nat) : Int) 1 ((i + 1 : Nat) : Int) rfl rfl (by omega) (by omega) (by omega) _)
          case o18x4 => exact fun _ _ hw _ => opE_value (v := .pointer (pA ao (i + 1))) rfl (run_ixI (H.gro (GG.drew.trans hw)) _ _ rfl rfl (i + 1) rfl hil)
          case o19x4 => exact fun _ _ hw _ => opE_value (v := .int .i64 (l.getD (i + 1) 0)) rfl (run_ldI (H.gro (GG.drew.trans hw)) _ rfl (i + 1) rfl hil)
          case o20x4 => exact fun _ _ _ _ => opE_value (v := .bool true) rfl (run_eq_k 3 .i64 _ _ _ rfl Try.underlying3 (m.getD (k + 1) 0) (l.getD (i + 1) 0) rfl rfl true hq2 _)
          intro ptrs w1 GD hxE
          simp only [List.drop_succ_cons, List.drop_zero]
          replace GG := GG.drew.trans GD
          clear GD
          refine s_val 43 rfl rfl (.bool true) (rfl) ?_
          refine nr ?_; intro U h; simp only [z0, z1] at h; subst h
          refine wpList_nil ?_
          refine then_n ?_
          refine wp_cond_true rfl ?_
          refine wp_region_lit ?_
          refine s_val 6 rfl rfl (.bool true) (rfl) ?_
          refine nr ?_; intro U h; simp only [z0, z1] at h; subst h
          refine wpList_nil ?_
          refine blk_n ?_
          refine then_n ?_
          refine wp_region_lit ?_
          refine s_val 20 rfl rfl (.int .i64 ((k : Nat) : Int)) (rfl) ?_
          refine nr ?_; intro U h; simp only [z0, z1] at h; subst h
          refine s_val 21 rfl rfl (.int .i64 ((k + 1 : Nat) : Int)) (run_addI 3 _ _ _ rfl ((k : Nat) : Int) 1 ((k + 1 : Nat) : Int) rfl rfl (by omega) (by omega) (by omega) _) ?_
          refine nr ?_; intro U h; simp only [z0, z1] at h; subst h
          refine s_val 7 rfl rfl (.int .i64 ((k + 1 : Nat) : Int)) (rfl) ?_
          refine nr ?_; intro U h; simp only [z0, z1] at h; subst h
          refine wpList_nil ?_
          refine then_n ?_
          exact ⟨_, (by omega : m.length - (k + 1) < m.length - k), true, k + 1, (fun kz => ([.int .i64 ((k : Nat) : Int), .int .i64 ((k + 1 : Nat) : Int), .slice bo m.length bap, .int .i64 ((m.length : Nat) : Int), .bool true, .int .i64 ((k : Nat) : Int), .int .i64 ((k + 1 : Nat) : Int), .slice bo m.length bap, .int .i64 ((k : Nat) : Int), .pointer (pA bo k), .int .i64 (m.getD k 0), .slice ao l.length cap, .int .i64 ((i : Nat) : Int), .pointer (pA ao i), .int .i64 (l.getD i 0), .bool true, .bool true, .slice bo m.length bap, .int .i64 ((k : Nat) : Int), .int .i64 ((k + 1 : Nat) : Int), .pointer (pA bo (k + 1)), .int .i64 (m.getD (k + 1) 0), .slice ao l.length cap, .int .i64 ((i : Nat) : Int), .int .i64 ((i + 1 : Nat) : Int), .pointer (pA ao (i + 1)), .int .i64 (l.getD (i + 1) 0), .bool true, .bool true] : List Value).getD kz undef), rfl, rfl, (by omega), ⟨fun _ => ⟨k, Nat.lt_succ_self k, hkl, of_decide_eq_true hq1, of_decide_eq_true hq2⟩, fun _ => rfl⟩, GG⟩
end Go.Proofs.Ytjbpgiphimmleaa
