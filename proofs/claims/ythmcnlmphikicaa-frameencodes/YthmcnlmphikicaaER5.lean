/- Reading: texts, pairs of numbers, paths, versions, numbers within bounds, flags. -/
import Derived.Test.YthmcnlmphikicaaER2
import Derived.Test.YthmcnlmphikicaaEF8
namespace Go.Proofs.Ythmcnlmphikicaa
open Go.RowKit
theorem RdP.mk_ok {α : Type} {rb : Nat} {so : Option Addr} {sc n : Nat} {w w' : World} {r : Except Nat (α × Nat)} {vp : α → Value → World → Prop} {a : α} {q : Nat} {v : Value} (hr : r = .ok (a, q)) (G : GroR rb w w') (hv : vp a v w') (k : w'.heap[rb]? = some (.cells (c123 ⟨so, n, sc⟩ (q : Int)) 123 (0, 0))) : RdP rb so sc n w r vp (.returned v) w' := by
  subst hr
  exact ⟨G, v, rfl, hv, k⟩
theorem RdP.mk_err {α : Type} {rb : Nat} {so : Option Addr} {sc n : Nat} {w w' : World} {r : Except Nat (α × Nat)} {vp : α → Value → World → Prop} {x : Nat} (hr : r = .error x) (G : GroR rb w w') : RdP rb so sc n w r vp (.panicked (thrown x)) w' := by
  subst hr
  exact ⟨G, rfl⟩
theorem rd_err {α : Type} {f : FuncId} {args : Array Value} {rb : Nat} {so : Option Addr} {sc n : Nat} {w : World} {vp : α → Value → World → Prop} {x : Nat} (H : Calls Try.prog f args w (RdP rb so sc n w (.error x) vp)) : Calls Try.prog f args w fun e w' => e = .panicked (thrown x) ∧ GroR rb w w' := H.mono fun _ _ ⟨G, h⟩ => ⟨h, G⟩
theorem rd_ok {α : Type} {f : FuncId} {args : Array Value} {rb : Nat} {so : Option Addr} {sc n : Nat} {w : World} {vp : α → Value → World → Prop} {a : α} {q : Nat} (H : Calls Try.prog f args w (RdP rb so sc n w (.ok (a, q)) vp)) : Calls Try.prog f args w fun e w' => ∃ v, e = .returned v ∧ vp a v w' ∧ GroR rb w w' ∧ w'.heap[rb]? = some (.cells (c123 ⟨so, n, sc⟩ (q : Int)) 123 (0, 0)) := H.mono fun _ _ ⟨G, v, h1, h2, h3⟩ => ⟨v, h1, h2, G, h3⟩
def thenR {α β : Type} (r : Except Nat (α × Nat)) (f : α → Nat → Except Nat (β × Nat)) : Except Nat (β × Nat) :=
  match r with
  | .error e => .error e
  | .ok (a, q) => f a q
def rdPa (l : List Nat) (i : Nat) : Except Nat ((List Nat × Nat) × Nat) := thenR (rdI l i) fun a q => thenR (rdN l q) fun b q => .ok ((a, b), q)
set_option maxRecDepth 100000 in
set_option maxHeartbeats 4000000 in
theorem rdPath (rb : Nat) (so : Option Addr) (sc : Nat) (l : List Nat) (i : Nat) (w : World) (krb : w.heap[rb]? = some (.cells (c123 ⟨so, l.length, sc⟩ (i : Int)) 123 (0, 0))) (HB : BS rb w so sc l) (hl : l.length ≤ 140737488355000) : Calls Try.prog 72 #[.pointer (some ⟨rb, 0, none⟩)] w (RdP rb so sc l.length w (rdPa l i) fun a v _ => v = .agg (c25 (idF a.1) ((a.2 : Nat) : Int)) ∧ a.1.length = 16) := by
  refine s_enter Try.func72 rfl Try.ntmps72 [.pointer (some ⟨rb, 0, none⟩)] [.pointer (some ⟨rb, 0, none⟩), undef, undef, undef, undef, undef, undef, undef] rfl ?_
  have GG := GroR.refl rb w
  have hrb := lt_of_heap krb
  refine wp_seq (wp_region_lit ?_)
  refine s_alloc 2 rfl rfl 25 rfl _ zv25 _ rfl ?_
  intro w1 g1 G eg1 kg1
  have bg1 := size_baseR GG eg1
  have drbg1 := lt_new krb eg1
  replace krb := G.has krb
  replace GG := GG.tg G
  clear G eg1
  refine wpList_nil (then_n (wp_seq (wp_region_lit (mv 3 (.pointer (some ⟨rb, 0, none⟩)) ?_))))
  simp only [z0, z1]
  obtain ⟨r1, hr1⟩ : ∃ r, rdI l i = r := ⟨_, rfl⟩
  have HC := rdID rb so sc l i _ krb (HB.gror GG) hl
  rw [hr1] at HC
  rcases r1 with e | ⟨x1, i1⟩
  refine s_callp rfl _ 70 Try.call70 rfl rfl _ rfl [.pointer (some ⟨rb, 0, none⟩)] rfl (rd_err HC) ?_
  intro w2 G
  replace GG := GG.trans G
  refine then_p ?_
  refine post_p rfl ?_
  exact RdP.mk_err (by simp only [rdPa, hr1, thenR]) GG
  refine s_callx 4 rfl rfl _ 70 Try.call70 rfl rfl _ rfl [.pointer (some ⟨rb, 0, none⟩)] rfl (rd_ok HC) (fun _ _ ⟨_, he, _⟩ => ⟨_, he⟩) ?_
  rintro v w2 ⟨_, he, hv, G, kn⟩
  cases he
  replace kg1 := G.has kg1 (by omega)
  replace GG := GG.trans G
  replace krb := kn
  clear HC kn
  obtain ⟨rfl, h16x1⟩ := hv
  clear G
  refine mv 5 (.pointer (some ⟨rb, 0, none⟩)) ?_
  simp only [z0, z1]
  obtain ⟨r2, hr2⟩ : ∃ r, rdN l i1 = r := ⟨_, rfl⟩
  have HC := rdNum rb so sc l i1 _ krb (HB.gror GG) hl
  rw [hr2] at HC
  rcases r2 with e | ⟨x2, i2⟩
  refine s_callp rfl _ 68 Try.call68 rfl rfl _ rfl [.pointer (some ⟨rb, 0, none⟩)] rfl (rd_err HC) ?_
  intro w3 G
  replace GG := GG.trans G
  refine then_p ?_
  refine post_p rfl ?_
  exact RdP.mk_err (by simp only [rdPa, hr1, hr2, thenR]) GG
  refine s_callx 6 rfl rfl _ 68 Try.call68 rfl rfl _ rfl [.pointer (some ⟨rb, 0, none⟩)] rfl (rd_ok HC) (fun _ _ ⟨_, he, _⟩ => ⟨_, he⟩) ?_
  rintro v w3 ⟨_, he, hv, G, kn⟩
  cases he
  replace kg1 := G.has kg1 (by omega)
  replace GG := GG.trans G
  replace krb := kn
  clear HC kn
  subst hv
  clear G
  refine sv 7 (.agg (c25 (idF x1) ((x2 : Nat) : Int))) (run_bd 25 _ rfl [(0, .agg (c23 (idF x1))), (1, .int .i64 ((x2 : Nat) : Int))] rfl _ (by kernel_rfl)) ?_
  refine s_store rfl rfl 25 _ _ rfl g1 0 rfl (.agg (c25 (idF x1) ((x2 : Nat) : Int))) rfl 25 _ kg1 (c25 (idF x1) ((x2 : Nat) : Int)) rfl (by kernel_rfl) (Nat.le_of_ble_eq_true rfl) (by kernel_rfl) (c25 (idF x1) ((x2 : Nat) : Int)) (by kernel_rfl) ?_
  intro w5 S
  replace krb := S.has (by omega) krb
  replace GG := GG.st S bg1
  replace kg1 := S.new
  clear S
  refine wpList_nil (then_n (wp_ret ?_))
  refine bodyPost_ret (results_cell_row Try.results72 _ _ g1 25 _ (0, 0) _ rfl kg1 Try.underlying25 rfl (by kernel_rfl)) rfl ?_
  exact RdP.mk_ok (a := (x1, x2)) (by simp only [rdPa, hr1, hr2, thenR]) GG (⟨rfl, h16x1⟩) krb
end Go.Proofs.Ythmcnlmphikicaa
namespace Go.Proofs.Ythmcnlmphikicaa
open Go.RowKit
set_option maxRecDepth 100000 in
set_option maxHeartbeats 4000000 in
theorem end_bad (rb : Nat) (so : Option Addr) (sc : Nat) (l : List Nat) (i : Nat) (w : World) (krb : w.heap[rb]? = some (.cells (c123 ⟨so, l.length, sc⟩ (i : Int)) 123 (0, 0))) (_HB : BS rb w so sc l) (_hl : l.length ≤ 140737488355000) (hlt : decide (((i : Nat) : Int) < ((l.length : Nat) : Int)) = true) : Calls Try.prog 57 #[.pointer (some ⟨rb, 0, none⟩)] w fun e w' => e = .panicked (thrown 4) ∧ GroR rb w w' := by
  refine s_enter Try.func57 rfl Try.ntmps57 [.pointer (some ⟨rb, 0, none⟩)] [.pointer (some ⟨rb, 0, none⟩), undef, undef, undef, undef, undef, undef, undef, undef, undef, undef, undef, undef] rfl ?_
  have GG := GroR.refl rb w
  have hrb := lt_of_heap krb
  refine wp_seq ?_
  refine wp_region_exA (A := ?A) 10 [(0, 2), (1, 3), (2, 4), (3, 5), (4, 6), (5, 7), (6, 8), (7, 9), (8, 10), (9, 11)] [.val (.pointer (some ⟨rb, 0, none⟩)), .val (.pointer (some ⟨rb, 0, none⟩)), .val (.pointer (some ⟨rb, 1, none⟩)), .val (.int .i64 ((i : Nat) : Int)), .val (.pointer (some ⟨rb, 0, none⟩)), .val (.pointer (some ⟨rb, 0, none⟩)), .val (.pointer (some ⟨rb, 0, none⟩)), .val (.slice so l.length sc), .val (.int .i64 ((l.length : Nat) : Int)), .val (.bool true)] follows (by kernel_rfl) rfl ?hA (opsA_cons ?o0 (opsA_cons ?o1 (opsA_cons ?o2 (opsA_cons ?o3 (opsA_cons ?o4 (opsA_cons ?o5 (opsA_cons ?o6 (opsA_cons ?o7 (opsA_cons ?o8 (opsA_cons ?o9 opsA_nil)))))))))) ?rest
  case hA =>
    intro ptrs
    simp only [full, foldSlots, filledE, postE, List.foldl_cons, List.foldl_nil, List.getD_cons_zero, List.getD_cons_succ, fill_val, List.set_cons_zero, List.set_cons_succ]
    exact rfl
  case o0 => exact fun _ _ _ _ => opE_move (v := .pointer (some ⟨rb, 0, none⟩)) _ rfl rfl rfl
  case o1 => exact fun _ _ hw _ => opE_value (v := .pointer (some ⟨rb, 0, none⟩)) rfl (run_nc _ rfl _ rfl)
  case o2 => exact fun _ _ hw _ => opE_value (v := .pointer (some ⟨rb, 1, none⟩)) rfl (run_fld 123 _ 1 rfl _ _ rfl _)
  case o3 => exact fun _ _ hw _ => opE_value (v := .int .i64 ((i : Nat) : Int)) rfl (run_ldc 3 _ rfl rb 1 rfl 123 _ (hw.has krb) (na3 _) _ rfl)
  case o4 => exact fun _ _ _ _ => opE_move (v := .pointer (some ⟨rb, 0, none⟩)) _ rfl rfl rfl
  case o5 => exact fun _ _ hw _ => opE_value (v := .pointer (some ⟨rb, 0, none⟩)) rfl (run_nc _ rfl _ rfl)
  case o6 => exact fun _ _ hw _ => opE_value (v := .pointer (some ⟨rb, 0, none⟩)) rfl (run_fld 123 _ 0 rfl _ _ rfl _)
  case o7 => exact fun _ _ hw _ => opE_value (v := .slice so l.length sc) rfl (run_ldc 32 _ rfl rb 0 rfl 123 _ (hw.has krb) (na32 _) _ rfl)
  case o8 => exact fun _ _ hw _ => opE_value (v := .int .i64 ((l.length : Nat) : Int)) rfl (run_len Try.underlying32 _ rfl _ _ _ rfl _)
  case o9 => exact fun _ _ hw _ => opE_value (v := .bool true) rfl (run_lssT 3 _ _ _ rfl ((i : Nat) : Int) ((l.length : Nat) : Int) rfl rfl true hlt _)
  intro ptrs w1 GD hxE
  simp only [List.drop_succ_cons, List.drop_zero]
  replace krb := GD.has krb
  replace GG := GG.tg ((Gro.refl _).drew.trans GD)
  clear GD
  refine wpList_nil (then_n (wp_cond_true rfl (wp_region_lit (sv 12 (.iface 38 (.int .i64 4)) (run_mk 38 _ rfl _ rfl) ?_))))
  simp only [z0, z1]
  refine s_panic rfl _ rfl 38 (.int .i64 4) rfl ?_
  refine post_p rfl ?_
  exact ⟨rfl, GG⟩
end Go.Proofs.Ythmcnlmphikicaa
namespace Go.Proofs.Ythmcnlmphikicaa
open Go.RowKit
theorem min_ex {p : Nat → Prop} (h : ∃ n, p n) : ∃ n, p n ∧ ∀ m, m < n → ¬ p m := by
  obtain ⟨n, hn⟩ := h
  induction n using Nat.strongRecOn with
  | _ n ih =>
    by_cases hx : ∃ m, m < n ∧ p m
    · obtain ⟨m, hm, hp⟩ := hx
      exact ih m hm hp
    · exact ⟨n, hn, fun m hm hp => hx ⟨m, hm, hp⟩⟩
/-- A loop whose measure is told by the invariant. -/
theorem wp_loopN {P : Program} {c : Code} {Q : Exit → Act → World → Prop} (J : Nat → Act → World → Prop) (round : ∀ n a w, J n a w → c.wp P (Exit.then (fun a' w' => ∃ m, m < n ∧ J m a' w') Q) a w) (n : Nat) {a : Act} {w : World} (h : J n a w) : (Code.loop c).wp P Q a w := by
  classical
  refine wp_loop (fun a w => ∃ n, J n a w) (fun a w => if h : ∃ n, J n a w then Classical.choose (min_ex h) else 0) ⟨n, h⟩ fun a w hI => ?_
  have hc := Classical.choose_spec (min_ex hI)
  have hm : (if h : ∃ n, J n a w then Classical.choose (min_ex h) else 0) = Classical.choose (min_ex hI) := dif_pos hI
  rw [hm]
  refine Code.wp_mono (fun e a' w' hq => ?_) (round _ a w hc.1)
  cases e with
  | normal =>
    obtain ⟨m, hlt, hJ⟩ := hq
    have hI' : ∃ n, J n a' w' := ⟨m, hJ⟩
    refine ⟨hI', ?_⟩
    have hc' := Classical.choose_spec (min_ex hI')
    rw [dif_pos hI']
    have : ¬ m < Classical.choose (min_ex hI') := fun hx => hc'.2 m hx hJ
    omega
  | exit _ => exact hq
  | goto _ => exact hq
  | ret => exact hq
  | panic _ => exact hq
  | outgrown => exact hq
section
variable {P : Program} {ops : Array Oper} {rest : List Oper} {o : Oper} {T : List Value} {ds : List Deferred} {w : World} {Q : Exit → Act → World → Prop}
theorem s_bsl (dst : Nat) (hd : o.dst = some dst) (hgd : o.guard = none) (t : TypeId) (n : Nat) (l : List (Nat × Operand)) (ho : o.op = .buildSlice t n l.toArray) (vals : List (Nat × Value)) (hv : (l.map fun p => (p.1, (⟨T.toArray, ds⟩ : Act).eval p.2)) = vals) (cs : Array Value) (e : TypeId)
    (hr : (Instr.buildSlice t n vals.toArray).run P w = .ok (.slice (some ⟨w.heap.size, 0, none⟩) n n) (w.alloc (.cells cs e)))
    (h : ∀ w' g, Gro w w' → w.heap.size = g → w'.heap[g]? = some (.cells cs e (0, 0)) → wpList P ops Q rest ⟨(T.set dst (.slice (some ⟨g, 0, none⟩) n n)).toArray, ds⟩ w') : wpList P ops Q (o :: rest) ⟨T.toArray, ds⟩ w :=
  wpList_plain hgd fun _ hK => by
    have he := run_bsl (A := ⟨T.toArray, ds⟩) t n l ho vals hv hr
    unfold Oper.wp
    rw [he, Oper.upon_value, hd, put_list]
    exact hK _ _ (h _ _ (gro_alloc _ _) rfl (heap_alloc_new _ _))
end
end Go.Proofs.Ythmcnlmphikicaa
