/- Wire: the laws on numbers. -/
import Derived.Test.YtkhbpkhkbidbdaaB12
namespace Go.Proofs.Ytkhbpkhkbidbdaa
open Go.RowKit

theorem run_len {P : Program} {o : Oper} {A : Act} {t e : TypeId} (hu : P.underlying t = some (.slice e)) (x : Operand) (ho : o.op = .call { callee := .builtin .len, args := #[x], argTypes := #[t] }) (ao : Option Addr) (n cap : Nat) (hx : A.eval x = .slice ao n cap) (w : World) : (execOp A.eval o).run P w = .ok (.value (.int .i64 (n : Int))) w := by
  have hr := run_underlying hu w
  unfold execOp
  simp [ho, resolve, invoke, builtin, hx, Builtin.len_, hr, goInt]
theorem run_oneU {o : Oper} {A : Act} (x : Operand) (ho : o.op = .buildSlice 22 1 #[(0, x)]) (z : Int) (hx : A.eval x = .int .u64 z) (w : World) :
    (execOp A.eval o).run Try.prog w = .ok (.value (.slice (some ⟨w.heap.size, 0, none⟩) 1 1)) (w.alloc (.cells #[.int .u64 z] 25)) := by
  have h1 : (Instr.buildSlice 22 1 #[(0, .int .u64 z)]).run Try.prog w = .ok (.slice (some ⟨w.heap.size, 0, none⟩) 1 1) (w.alloc (.cells #[.int .u64 z] 25)) := by kernel_rfl
  unfold execOp
  simp only [ho, List.map_toArray, List.map_cons, List.map_nil, hx, Sem.run_bind, h1, Result.andThen_ok, Sem.run_pure]
theorem nc_oneU (w : World) (n : Nat) (hn : n < lim) : NC (w.alloc (.cells #[.int .u64 (n : Int)] 25)) .u64 (some ⟨w.heap.size, 0, none⟩) 1 [n] :=
  OB.nc (e := 25) (B := 0) (OB.one (heap_alloc_new _ _) (Nat.zero_le _) (by rw [max_u64]; unfold lim at hn; omega))
theorem wpList_oneU {ops : Array Oper} {rest : List Oper} {o : Oper} {a : Act} {w : World} {Q : Exit → Act → World → Prop} (dst : Nat) (hd : o.dst = some dst) (hgd : o.guard = none) (x : Operand) (ho : o.op = .buildSlice 22 1 #[(0, x)]) (z : Nat) (hz : z < lim) (hx : a.eval x = .int .u64 (z : Int))
    (h : ∀ w' g, Gro w w' → w.heap.size = g → NC w' .u64 (some ⟨g, 0, none⟩) 1 [z] → wpList Try.prog ops Q rest (a.put (some dst) (.slice (some ⟨g, 0, none⟩) 1 1)) w') : wpList Try.prog ops Q (o :: rest) a w :=
  wpList_plain hgd fun _ hK => by
    unfold Oper.wp
    rw [run_oneU x ho z hx, Oper.upon_value, hd]
    exact hK _ _ (h _ _ (gro_alloc _ _) rfl (nc_oneU w z hz))
theorem fixed_E (w : World) : Calls Try.prog 11 #[] w fun e w' => ∃ v, e = .returned v ∧ Gro w w' ∧ (PostE.val (.bool true)).p v w' := (fixed_any w).mono fun _e _w' ⟨he, hg⟩ => ⟨_, he, hg, rfl⟩
theorem putN_one (n : Nat) : putN [n] = numL n := by simp [putN]
/-- A new slice of one number. -/
def oneU (n : Nat) : PostE := .ex (fun v w => ∃ g, v = .slice (some ⟨g, 0, none⟩) 1 1 ∧ NC w .u64 (some ⟨g, 0, none⟩) 1 [n]) fun _ _ _ hg ⟨g, h1, h2⟩ => ⟨g, h1, h2.gro hg⟩
/-- A slice of these bytes. -/
def bytesE (l : List Nat) : PostE := .ex (fun v w => ∃ ao cap, v = .slice ao l.length cap ∧ NC w .u8 ao cap l) fun _ _ _ hg ⟨ao, cap, h1, h2⟩ => ⟨ao, cap, h1, h2.gro hg⟩
theorem putNum_E (g n : Nat) (w : World) (h : NC w .u64 (some ⟨g, 0, none⟩) 1 [n]) : Calls Try.prog 12 #[.slice (some ⟨g, 0, none⟩) 1 1] w fun e w' => ∃ v, e = .returned v ∧ Gro w w' ∧ (bytesE (numL n)).p v w' :=
  (putNum_any (some ⟨g, 0, none⟩) 1 [n] w h (by simp)).mono fun e w' ⟨ao, cap, L, he, hL, ho, hb⟩ => by
    have e1 : L = numL n := hL.out.trans (putN_one n)
    subst e1
    exact ⟨_, he, hb, ao, cap, rfl, ho.nc⟩
set_option maxHeartbeats 3200000 in
theorem wireOne_any (ao : Option Addr) (cap : Nat) (l : List Nat) (w : World) (HC : NC w .u8 ao cap l) (hlen : l.length ≤ 140737488355000) : Calls Try.prog 6 #[.slice ao l.length cap] w fun e w' => e = .returned (.bool true) ∧ Gro w w' := by
  have GG : Gro w w := Gro.refl w
  obtain ⟨⟨n, q, er⟩, hg⟩ : ∃ g, getE l 0 = g := ⟨_, rfl⟩
  have HG : Shut (getE l 0 = (n, q, er)) := ⟨hg⟩
  obtain ⟨hb1, hb2, hb3⟩ := getE_back l HC.lt256 0 n q er hg
  clear hg
  by_cases he : er = 0
  · subst he
    obtain ⟨hn, _, _, hq, ht⟩ := hb1 rfl
    have HN : Shut (n < lim) := ⟨hn⟩
    have HT : Shut (l.take q = numL n) := ⟨ht⟩
    clear hb1 hb2 hn ht
    have HQ : NC w .u8 ao cap (l.take q) := HC.take q hq
    have hql : (l.take q).length = q := by rw [List.length_take]; omega
    rw [HT.out] at HQ hql
    have hfit : q ≤ cap := by have := HC.fit; omega
    have HQL : Shut ((numL n).length = q) := ⟨hql⟩
    clear hql HT
    go_enter Try.func6, Try.ntmps6
    go_wp2_with (first | (go_at_call 14; refine (getNum_any ao cap l _ HC 0 (by omega)).mono ?_; rintro e wN ⟨rfl, hwN⟩; replace hwN := hwN.symm; subst hwN; rw [HG.out]))
    refine wp_region_exA (A := ?A) 19 [(0, 23), (1, 24), (2, 25), (3, 26), (4, 27), (5, 28), (6, 29), (7, 30), (8, 31), (9, 32), (10, 33), (11, 34), (12, 35), (13, 36), (14, 37), (15, 38), (16, 39), (17, 40), (18, 2)] [.val (.bool true), .val (.bool true), .val (.int .i64 (q : Int)), .val (.slice ao l.length cap), .val (.int .i64 (l.length : Int)), .val (.bool true), .val (.bool true), .val (.bool true), .val (.int .u64 (n : Int)), oneU n, bytesE (numL n), .val (.string (bas (numL n))), .val (.slice ao l.length cap), .val (.int .i64 (q : Int)), .val (.slice ao q cap), .val (.string (bas (numL n))), .val (.bool true), .val (.bool true), .val (.bool true)] follows (by kernel_rfl) rfl ?hA
      (opsA_cons ?o0 (opsA_cons ?o1 (opsA_cons ?o2 (opsA_cons ?o3 (opsA_cons ?o4 (opsA_cons ?o5 (opsA_cons ?o6 (opsA_cons ?o7 (opsA_cons ?o8 (opsA_cons ?o9 (opsA_cons ?o10 (opsA_cons ?o11 (opsA_cons ?o12 (opsA_cons ?o13 (opsA_cons ?o14 (opsA_cons ?o15 (opsA_cons ?o16 (opsA_cons ?o17 (opsA_cons ?o18 opsA_nil))))))))))))))))))) ?rest
    case hA =>
      intro ptrs
      simp only [full, foldSlots, filledE, postE, List.foldl_cons, List.foldl_nil, List.getD_cons_zero, List.getD_cons_succ, PostE.fill, PostE.val, PostE.ex, bytesE, oneU, Option.getD_some, Option.getD_none, List.set_cons_zero, List.set_cons_succ]
      exact rfl
    case o0 => exact fun _ _ _ _ => opE_call (.val (.bool true)) rfl _ 11 Try.call11 rfl rfl [] rfl [] rfl (fixed_E _)
    case o1 => exact fun _ _ _ _ => opE_move (v := (.bool true)) _ rfl rfl rfl
    case o2 => exact fun _ _ _ _ => opE_move (v := (.int .i64 (q : Int))) _ rfl rfl rfl
    case o3 => exact fun _ _ _ _ => opE_move (v := (.slice ao l.length cap)) _ rfl rfl rfl
    case o4 => exact fun _ _ hw _ => opE_value (v := (.int .i64 (l.length : Int))) rfl (run_len Try.underlying24 _ rfl ao l.length cap rfl _)
    case o5 => exact fun _ _ hw _ => opE_value (v := (.bool true)) rfl (run_leq64 _ _ _ rfl (q : Int) (l.length : Int) rfl rfl true (by simp; omega) _)
    case o6 => exact fun _ _ _ _ => opE_pick (v := (.bool true)) _ _ _ rfl rfl true rfl rfl
    case o7 => exact fun _ _ _ _ => opE_move (v := (.bool true)) _ rfl rfl rfl
    case o8 => exact fun _ _ _ _ => opE_move (v := (.int .u64 (n : Int))) _ rfl rfl rfl
    case o9 => exact fun _ _ _ _ => opE_new (oneU n) rfl (run_oneU _ rfl (n : Int) rfl _) (gro_alloc _ _) ⟨_, rfl, nc_oneU _ n HN.out⟩
    case o10 =>
      intro ptrs w' _ hn
      obtain ⟨⟨g, hv, hc⟩, _⟩ := hn
      exact opE_call (bytesE (numL n)) rfl _ 12 Try.call12 rfl rfl _ rfl [.slice (some ⟨g, 0, none⟩) 1 1] (congrArg (fun v => [v]) hv) (putNum_E g n w' hc)
    case o11 =>
      intro ptrs w' _ hn
      obtain ⟨⟨ao2, cap2, hv, hc⟩, _⟩ := hn
      exact opE_value (v := (.string (bas (numL n)))) rfl (run_text_op bT 9 Try.underlying9 (.tmp 33) rfl hv hc)
    case o12 => exact fun _ _ _ _ => opE_move (v := (.slice ao l.length cap)) _ rfl rfl rfl
    case o13 => exact fun _ _ _ _ => opE_move (v := (.int .i64 (q : Int))) _ rfl rfl rfl
    case o14 => exact fun _ _ hw _ => opE_value (v := (.slice ao q cap)) rfl (run_cut0 bT _ _ rfl ao l.length cap q rfl rfl hfit _)
    case o15 => exact fun ptrs w' hw _ => opE_value (v := (.string (bas (numL n)))) rfl (run_text_op bT 9 Try.underlying9 _ rfl (l := numL n) (by rw [HQL.out]; rfl) (HQ.gro ((Gro.refl w).drew.trans hw)))
    case o16 => exact fun _ _ hw _ => opE_value (v := (.bool true)) rfl (run_eqs_op _ _ _ rfl _ _ rfl rfl true (by simp) _)
    case o17 => exact fun _ _ _ _ => opE_pick (v := (.bool true)) _ _ _ rfl rfl true rfl rfl
    case o18 => exact fun _ _ _ _ => opE_assign (v := (.bool true)) _ rfl rfl rfl
    
    intro ptrs w5 G5 _
    simp only [List.drop_succ_cons, List.drop_zero]
    replace GG : Gro w w5 := GG.drew.trans G5
    go_wp2
    go_ret
    exact ⟨rfl, GG⟩
  · obtain ⟨rfl, rfl⟩ := hb2 he
    clear hb1 hb2
    go_enter Try.func6, Try.ntmps6
    go_wp2_with (first | (go_at_call 14; refine (getNum_any ao cap l _ HC 0 (by omega)).mono ?_; rintro e wN ⟨rfl, hwN⟩; replace hwN := hwN.symm; subst hwN; rw [HG.out]) | (go_at_call 11; refine (fixed_any _).mono ?_; rintro e wN ⟨rfl, GN⟩; replace GG := GG.trans GN; clear GN) | (with_reducible refine wpList_at ?_; first | (refine wpList_value_d 13 rfl rfl (.bool true) (run_neq_k 32 .i64 _ _ _ rfl Try.underlying32 (er : Int) 0 rfl rfl true (by simp; omega) _) ?_; (try simp only [Act.put, List.setIfInBounds_toArray, List.set_cons_zero, List.set_cons_succ]))))
    go_ret
    exact ⟨rfl, GG⟩
end Go.Proofs.Ytkhbpkhkbidbdaa
