/- Reading: texts, pairs of numbers, paths, versions, numbers within bounds, flags. -/
import Derived.Test.YthmcnlmphikicabZR2
namespace Go.Proofs.Ythmcnlmphikicab
open Go.RowKit
theorem RdP.mk_ok {α : Type} {rb : Nat} {so : Option Addr} {sc n : Nat} {w w' : World} {r : Except Nat (α × Nat)} {vp : α → Value → World → Prop} {a : α} {q : Nat} {v : Value} (hr : r = .ok (a, q)) (G : GroR rb w w') (hv : vp a v w') (k : w'.heap[rb]? = some (.cells (c123 ⟨so, n, sc⟩ (q : Int)) 117 (0, 0))) : RdP rb so sc n w r vp (.returned v) w' := by
  subst hr
  exact ⟨G, v, rfl, hv, k⟩
theorem RdP.mk_err {α : Type} {rb : Nat} {so : Option Addr} {sc n : Nat} {w w' : World} {r : Except Nat (α × Nat)} {vp : α → Value → World → Prop} {x : Nat} (hr : r = .error x) (G : GroR rb w w') : RdP rb so sc n w r vp (.panicked (thrown x)) w' := by
  subst hr
  exact ⟨G, rfl⟩
theorem rd_err {α : Type} {f : FuncId} {args : Array Value} {rb : Nat} {so : Option Addr} {sc n : Nat} {w : World} {vp : α → Value → World → Prop} {x : Nat} (H : Calls Try.prog f args w (RdP rb so sc n w (.error x) vp)) : Calls Try.prog f args w fun e w' => e = .panicked (thrown x) ∧ GroR rb w w' := H.mono fun _ _ ⟨G, h⟩ => ⟨h, G⟩
theorem rd_ok {α : Type} {f : FuncId} {args : Array Value} {rb : Nat} {so : Option Addr} {sc n : Nat} {w : World} {vp : α → Value → World → Prop} {a : α} {q : Nat} (H : Calls Try.prog f args w (RdP rb so sc n w (.ok (a, q)) vp)) : Calls Try.prog f args w fun e w' => ∃ v, e = .returned v ∧ vp a v w' ∧ GroR rb w w' ∧ w'.heap[rb]? = some (.cells (c123 ⟨so, n, sc⟩ (q : Int)) 117 (0, 0)) := H.mono fun _ _ ⟨G, v, h1, h2, h3⟩ => ⟨v, h1, h2, G, h3⟩
def thenR {α β : Type} (r : Except Nat (α × Nat)) (f : α → Nat → Except Nat (β × Nat)) : Except Nat (β × Nat) :=
  match r with
  | .error e => .error e
  | .ok (a, q) => f a q
theorem ob_gror {rb : Nat} {w w' : World} {e : TypeId} {k : IntKind} {B : Nat} {ao : Option Addr} {cap : Nat} {l : List Nat} (h : OB w e k B ao cap l) (G : GroR rb w w') (hne : rb < B) : OB w' e k B ao cap l :=
  ⟨h.own.kept (row := some rb) ⟨G.os, G.tape, G.output, G.size, fun k hk hn => G.old k hk (fun e => hn (by rw [e]))⟩ (by
    cases ao with
    | none => exact .inl rfl
    | some ad => exact .inr fun e => by have := h.ge ad rfl; simp [Value.ownBlock] at e; omega), h.wf⟩
theorem run_ext {P : Program} {o : Oper} {A : Act} {w : World} (x : Operand) (k : Nat) (ho : o.op = .extract x k) (cs : Array Value) (hx : A.eval x = .tuple cs) (v : Value) (hc : cs[k]? = some v) : (execOp A.eval o).run P w = .ok (.value v) w := by
  unfold execOp
  simp only [ho, hx]
  simp [Instr.extract, hc]
def txtE (B : Nat) (x : List Nat) (q e : Nat) : PostE := .ex (fun v w => ∃ ao cap, v = .tuple #[.slice ao x.length cap, .int .i64 (q : Int), .int .i64 (e : Int)] ∧ OB w 5 .u8 B ao cap x) fun _ _ _ hg ⟨ao, cap, h1, h2⟩ => ⟨ao, cap, h1, h2.gro hg⟩
theorem fill_txt (B : Nat) (x : List Nat) (q e : Nat) (v : Value) : (txtE B x q e).fill v = v := rfl
theorem getText_E (B : Nat) (so : Option Addr) (sc : Nat) (l : List Nat) (w : World) (H : NC w .u8 so sc l) (i m q e : Nat) (x : List Nat) (HG : getT l (i : Int) (m : Int) = (x, q, e)) (hl : l.length ≤ 140737488355000) (hm : m ≤ 100000) (hB : B ≤ w.heap.size) : Calls Try.prog 64 #[.slice so l.length sc, .int .i64 (i : Int), .int .i64 (m : Int)] w fun e' w' => ∃ v, e' = .returned v ∧ Gro w w' ∧ (txtE B x q e).p v w' := by
  have := getText_any so sc l w H (i : Int) (m : Int) hl (by omega)
  rw [HG] at this
  exact this.mono fun e' w' ⟨ao, cap, L, h1, h2, h3, h4⟩ => by
    have e1 : L = x := h2.out
    subst e1
    exact ⟨_, h1, h4, ao, cap, rfl, h3.mono hB⟩
set_option maxRecDepth 100000 in
set_option maxHeartbeats 4000000 in
theorem text_err (rb : Nat) (so : Option Addr) (sc : Nat) (l : List Nat) (i m : Nat) (w : World) (krb : w.heap[rb]? = some (.cells (c123 ⟨so, l.length, sc⟩ (i : Int)) 117 (0, 0))) (HB : BS rb w so sc l) (hl : l.length ≤ 140737488355000) (hm : m ≤ 100000) (x : List Nat) (q e : Nat) (HG : getT l (i : Int) (m : Int) = (x, q, e)) (he : e ≠ 0) : Calls Try.prog 53 #[.pointer (some ⟨rb, 0, none⟩), .int .i64 ((m : Nat) : Int)] w fun e' w' => GroR rb w w' ∧ e' = .panicked (thrown e) := by
  refine s_enterR Try.func53 rfl Try.ntmps53 [.pointer (some ⟨rb, 0, none⟩), .int .i64 ((m : Nat) : Int)] ?_
  intro U h; simp only [List.length_cons, List.length_nil, List.cons_append, List.nil_append, Nat.reduceAdd, Nat.reduceSub, List.reduceReplicate] at h; subst h
  have GG := GroR.refl rb w
  have hrb := lt_of_heap krb
  refine wp_seq (wp_region_lit (mv 4 (.slice none 0 0) (wpList_nil (then_n (wp_seq ?_)))))
  refine wp_region_exA (A := ?A) 16 [(0, 9), (1, 10), (2, 11), (3, 12), (4, 13), (5, 14), (6, 15), (7, 16), (8, 17), (9, 18), (10, 8), (11, 19), (12, 20), (13, 21), (14, 5), (15, 6)] [.val (.pointer (some ⟨rb, 0, none⟩)), .val (.pointer (some ⟨rb, 0, none⟩)), .val (.pointer (some ⟨rb, 0, none⟩)), .val (.slice so l.length sc), .val (.pointer (some ⟨rb, 0, none⟩)), .val (.pointer (some ⟨rb, 0, none⟩)), .val (.pointer (some ⟨rb, 1, none⟩)), .val (.int .i64 ((i : Nat) : Int)), .val (.int .i64 ((m : Nat) : Int)), txtE w.heap.size x q e, txtE w.heap.size x q e, rowE w.heap.size x, .val (.int .i64 ((q : Nat) : Int)), .val (.int .i64 ((e : Nat) : Int)), rowE w.heap.size x, .val (.int .i64 ((q : Nat) : Int))] follows (by kernel_rfl) rfl ?hA (opsA_cons ?o0 (opsA_cons ?o1 (opsA_cons ?o2 (opsA_cons ?o3 (opsA_cons ?o4 (opsA_cons ?o5 (opsA_cons ?o6 (opsA_cons ?o7 (opsA_cons ?o8 (opsA_cons ?o9 (opsA_cons ?o10 (opsA_cons ?o11 (opsA_cons ?o12 (opsA_cons ?o13 (opsA_cons ?o14 (opsA_cons ?o15 opsA_nil)))))))))))))))) ?rest
  case hA =>
    intro ptrs
    simp only [full, foldSlots, filledE, postE, List.foldl_cons, List.foldl_nil, List.getD_cons_zero, List.getD_cons_succ, fill_val, fill_row, fill_txt, List.set_cons_zero, List.set_cons_succ]
    exact rfl
  case o0 =>
    exact fun _ _ _ _ => opE_move (v := .pointer (some ⟨rb, 0, none⟩)) _ rfl rfl rfl
  case o1 =>
    exact fun _ _ hw _ => opE_value (v := .pointer (some ⟨rb, 0, none⟩)) rfl (run_nc _ rfl _ rfl)
  case o2 =>
    exact fun _ _ hw _ => opE_value (v := .pointer (some ⟨rb, 0, none⟩)) rfl (run_fld 117 _ 0 rfl _ _ rfl _)
  case o3 =>
    exact fun _ _ hw _ => opE_value (v := .slice so l.length sc) rfl (run_ldc 36 _ rfl rb 0 rfl 117 _ (hw.has krb) (na32 _) _ rfl)
  case o4 =>
    exact fun _ _ _ _ => opE_move (v := .pointer (some ⟨rb, 0, none⟩)) _ rfl rfl rfl
  case o5 =>
    exact fun _ _ hw _ => opE_value (v := .pointer (some ⟨rb, 0, none⟩)) rfl (run_nc _ rfl _ rfl)
  case o6 =>
    exact fun _ _ hw _ => opE_value (v := .pointer (some ⟨rb, 1, none⟩)) rfl (run_fld 117 _ 1 rfl _ _ rfl _)
  case o7 =>
    exact fun _ _ hw _ => opE_value (v := .int .i64 ((i : Nat) : Int)) rfl (run_ldc 3 _ rfl rb 1 rfl 117 _ (hw.has krb) (na3 _) _ rfl)
  case o8 =>
    exact fun _ _ _ _ => opE_move (v := .int .i64 ((m : Nat) : Int)) _ rfl rfl rfl
  case o9 =>
    exact fun _ _ hw _ => opE_call (txtE w.heap.size x q e) rfl _ 64 Try.call64 rfl rfl _ rfl [.slice so l.length sc, .int .i64 ((i : Nat) : Int), .int .i64 ((m : Nat) : Int)] rfl (getText_E w.heap.size so sc l _ ((HB.gror (GG.tg ((Gro.refl _).drew.trans hw))).nc) i m q e x HG hl hm (GG.tg ((Gro.refl _).drew.trans hw)).size)
  case o10 =>
    exact fun _ _ _ hE => opE_new _ rfl rfl (Gro.refl _) hE.1
  case o11 =>
    intro ptrs w' hw hE
    obtain ⟨⟨ao9, cap9, h9, o9⟩, _⟩ := hE
    refine opE_new _ rfl (run_ext (.tmp 8) 0 rfl #[.slice ao9 x.length cap9, .int .i64 ((q : Nat) : Int), .int .i64 ((e : Nat) : Int)] ?_ _ rfl) (Gro.refl _) ⟨ao9, cap9, rfl, o9⟩
    exact h9
  case o12 =>
    intro ptrs w' hw hE
    obtain ⟨⟨ao9, cap9, h9, o9⟩, _⟩ := hE
    refine opE_value (v := .int .i64 ((q : Nat) : Int)) rfl (run_ext (.tmp 8) 1 rfl #[.slice ao9 x.length cap9, .int .i64 ((q : Nat) : Int), .int .i64 ((e : Nat) : Int)] ?_ _ rfl)
    exact h9
  case o13 =>
    intro ptrs w' hw hE
    obtain ⟨⟨ao9, cap9, h9, o9⟩, _⟩ := hE
    refine opE_value (v := .int .i64 ((e : Nat) : Int)) rfl (run_ext (.tmp 8) 2 rfl #[.slice ao9 x.length cap9, .int .i64 ((q : Nat) : Int), .int .i64 ((e : Nat) : Int)] ?_ _ rfl)
    exact h9
  case o14 =>
    exact fun _ _ _ hE => opE_new _ rfl rfl (Gro.refl _) hE.1
  case o15 =>
    exact fun _ _ _ _ => opE_assign (v := .int .i64 ((q : Nat) : Int)) _ rfl rfl rfl
  intro ptrs w1 GD hxE
  simp only [List.drop_succ_cons, List.drop_zero]
  replace krb := GD.has krb
  replace GG := GG.tg ((Gro.refl _).drew.trans GD)
  obtain ⟨_, _, _, ⟨ao1, cap1, h14, o1⟩, _⟩ := hxE
  simp only [h14]
  clear GD
  refine mv 7 (.int .i64 ((e : Nat) : Int)) (wpList_nil (then_n (wp_seq (wp_region_lit (mv 22 (.int .i64 ((e : Nat) : Int)) ?_)))))
  simp only [z0, z1]
  refine s_callp rfl _ 62 Try.call62 rfl rfl _ rfl [.int .i64 ((e : Nat) : Int)] rfl (must_bad e he _) ?_
  intro w2 G
  replace GG := GG.tg G
  refine then_p ?_
  refine post_p rfl ?_
  exact ⟨GG, rfl⟩
set_option maxRecDepth 100000 in
set_option maxHeartbeats 4000000 in
theorem text_ok (rb : Nat) (so : Option Addr) (sc : Nat) (l : List Nat) (i m : Nat) (w : World) (krb : w.heap[rb]? = some (.cells (c123 ⟨so, l.length, sc⟩ (i : Int)) 117 (0, 0))) (HB : BS rb w so sc l) (hl : l.length ≤ 140737488355000) (hm : m ≤ 100000) (x : List Nat) (q : Nat) (HG : getT l (i : Int) (m : Int) = (x, q, 0)) : Calls Try.prog 53 #[.pointer (some ⟨rb, 0, none⟩), .int .i64 ((m : Nat) : Int)] w fun e' w' => GroR rb w w' ∧ ∃ v, e' = .returned v ∧ (∃ ao cap, v = .slice ao x.length cap ∧ OB w' 5 .u8 w.heap.size ao cap x) ∧ w'.heap[rb]? = some (.cells (c123 ⟨so, l.length, sc⟩ (q : Int)) 117 (0, 0)) := by
  refine s_enterR Try.func53 rfl Try.ntmps53 [.pointer (some ⟨rb, 0, none⟩), .int .i64 ((m : Nat) : Int)] ?_
  intro U h; simp only [List.length_cons, List.length_nil, List.cons_append, List.nil_append, Nat.reduceAdd, Nat.reduceSub, List.reduceReplicate] at h; subst h
  have GG := GroR.refl rb w
  have hrb := lt_of_heap krb
  refine wp_seq (wp_region_lit (mv 4 (.slice none 0 0) (wpList_nil (then_n (wp_seq ?_)))))
  refine wp_region_exA (A := ?A) 16 [(0, 9), (1, 10), (2, 11), (3, 12), (4, 13), (5, 14), (6, 15), (7, 16), (8, 17), (9, 18), (10, 8), (11, 19), (12, 20), (13, 21), (14, 5), (15, 6)] [.val (.pointer (some ⟨rb, 0, none⟩)), .val (.pointer (some ⟨rb, 0, none⟩)), .val (.pointer (some ⟨rb, 0, none⟩)), .val (.slice so l.length sc), .val (.pointer (some ⟨rb, 0, none⟩)), .val (.pointer (some ⟨rb, 0, none⟩)), .val (.pointer (some ⟨rb, 1, none⟩)), .val (.int .i64 ((i : Nat) : Int)), .val (.int .i64 ((m : Nat) : Int)), txtE w.heap.size x q 0, txtE w.heap.size x q 0, rowE w.heap.size x, .val (.int .i64 ((q : Nat) : Int)), .val (.int .i64 0), rowE w.heap.size x, .val (.int .i64 ((q : Nat) : Int))] follows (by kernel_rfl) rfl ?hA (opsA_cons ?o0 (opsA_cons ?o1 (opsA_cons ?o2 (opsA_cons ?o3 (opsA_cons ?o4 (opsA_cons ?o5 (opsA_cons ?o6 (opsA_cons ?o7 (opsA_cons ?o8 (opsA_cons ?o9 (opsA_cons ?o10 (opsA_cons ?o11 (opsA_cons ?o12 (opsA_cons ?o13 (opsA_cons ?o14 (opsA_cons ?o15 opsA_nil)))))))))))))))) ?rest
  case hA =>
    intro ptrs
    simp only [full, foldSlots, filledE, postE, List.foldl_cons, List.foldl_nil, List.getD_cons_zero, List.getD_cons_succ, fill_val, fill_row, fill_txt, List.set_cons_zero, List.set_cons_succ]
    exact rfl
  case o0 =>
    exact fun _ _ _ _ => opE_move (v := .pointer (some ⟨rb, 0, none⟩)) _ rfl rfl rfl
  case o1 =>
    exact fun _ _ hw _ => opE_value (v := .pointer (some ⟨rb, 0, none⟩)) rfl (run_nc _ rfl _ rfl)
  case o2 =>
    exact fun _ _ hw _ => opE_value (v := .pointer (some ⟨rb, 0, none⟩)) rfl (run_fld 117 _ 0 rfl _ _ rfl _)
  case o3 =>
    exact fun _ _ hw _ => opE_value (v := .slice so l.length sc) rfl (run_ldc 36 _ rfl rb 0 rfl 117 _ (hw.has krb) (na32 _) _ rfl)
  case o4 =>
    exact fun _ _ _ _ => opE_move (v := .pointer (some ⟨rb, 0, none⟩)) _ rfl rfl rfl
  case o5 =>
    exact fun _ _ hw _ => opE_value (v := .pointer (some ⟨rb, 0, none⟩)) rfl (run_nc _ rfl _ rfl)
  case o6 =>
    exact fun _ _ hw _ => opE_value (v := .pointer (some ⟨rb, 1, none⟩)) rfl (run_fld 117 _ 1 rfl _ _ rfl _)
  case o7 =>
    exact fun _ _ hw _ => opE_value (v := .int .i64 ((i : Nat) : Int)) rfl (run_ldc 3 _ rfl rb 1 rfl 117 _ (hw.has krb) (na3 _) _ rfl)
  case o8 =>
    exact fun _ _ _ _ => opE_move (v := .int .i64 ((m : Nat) : Int)) _ rfl rfl rfl
  case o9 =>
    exact fun _ _ hw _ => opE_call (txtE w.heap.size x q 0) rfl _ 64 Try.call64 rfl rfl _ rfl [.slice so l.length sc, .int .i64 ((i : Nat) : Int), .int .i64 ((m : Nat) : Int)] rfl (getText_E w.heap.size so sc l _ ((HB.gror (GG.tg ((Gro.refl _).drew.trans hw))).nc) i m q 0 x HG hl hm (GG.tg ((Gro.refl _).drew.trans hw)).size)
  case o10 =>
    exact fun _ _ _ hE => opE_new _ rfl rfl (Gro.refl _) hE.1
  case o11 =>
    intro ptrs w' hw hE
    obtain ⟨⟨ao9, cap9, h9, o9⟩, _⟩ := hE
    refine opE_new _ rfl (run_ext (.tmp 8) 0 rfl #[.slice ao9 x.length cap9, .int .i64 ((q : Nat) : Int), .int .i64 ((0 : Nat) : Int)] ?_ _ rfl) (Gro.refl _) ⟨ao9, cap9, rfl, o9⟩
    exact h9
  case o12 =>
    intro ptrs w' hw hE
    obtain ⟨⟨ao9, cap9, h9, o9⟩, _⟩ := hE
    refine opE_value (v := .int .i64 ((q : Nat) : Int)) rfl (run_ext (.tmp 8) 1 rfl #[.slice ao9 x.length cap9, .int .i64 ((q : Nat) : Int), .int .i64 ((0 : Nat) : Int)] ?_ _ rfl)
    exact h9
  case o13 =>
    intro ptrs w' hw hE
    obtain ⟨⟨ao9, cap9, h9, o9⟩, _⟩ := hE
    refine opE_value (v := .int .i64 0) rfl (run_ext (.tmp 8) 2 rfl #[.slice ao9 x.length cap9, .int .i64 ((q : Nat) : Int), .int .i64 ((0 : Nat) : Int)] ?_ _ rfl)
    exact h9
  case o14 =>
    exact fun _ _ _ hE => opE_new _ rfl rfl (Gro.refl _) hE.1
  case o15 =>
    exact fun _ _ _ _ => opE_assign (v := .int .i64 ((q : Nat) : Int)) _ rfl rfl rfl
  intro ptrs w1 GD hxE
  simp only [List.drop_succ_cons, List.drop_zero]
  replace krb := GD.has krb
  replace GG := GG.tg ((Gro.refl _).drew.trans GD)
  obtain ⟨_, _, _, ⟨ao1, cap1, h14, o1⟩, _⟩ := hxE
  simp only [h14]
  clear GD
  refine mv 7 (.int .i64 0) (wpList_nil (then_n (wp_seq (wp_region_lit (mv 22 (.int .i64 0) ?_)))))
  simp only [z0, z1]
  refine s_callv 23 rfl rfl _ 62 Try.call62 rfl rfl _ rfl [.int .i64 0] rfl (must_ok _) ?_
  intro w2 G
  replace o1 := o1.gro G
  replace krb := G.has krb
  replace GG := GG.tg G
  clear G
  refine wpList_nil (then_n (wp_seq (wp_region_lit (mv 24 (.pointer (some ⟨rb, 0, none⟩)) (mv 25 (.int .i64 ((q : Nat) : Int)) ?_)))))
  simp only [z0, z1]
  refine sv 26 (.pointer (some ⟨rb, 0, none⟩)) (run_nc _ rfl _ rfl) (sv 27 (.pointer (some ⟨rb, 1, none⟩)) (run_fld 117 _ 1 rfl _ _ rfl _) ?_)
  refine s_store rfl rfl 3 _ _ rfl rb 1 rfl (.int .i64 ((q : Nat) : Int)) rfl 117 _ krb #[.int .i64 ((q : Nat) : Int)] rfl (by kernel_rfl) (Nat.le_of_ble_eq_true rfl) (by kernel_rfl) (c123 ⟨so, l.length, sc⟩ ((q : Nat) : Int)) (by kernel_rfl) ?_
  intro w4 S
  replace GG := GG.stR S
  replace krb := S.new
  replace o1 := o1.apart S (fun ad ha => by have := o1.ge ad ha; omega)
  clear S
  refine wpList_nil (then_n (wp_seq (wp_region_lit (mv 28 (.slice ao1 x.length cap1) ?_))))
  simp only [z0, z1]
  refine mv 4 (.slice ao1 x.length cap1) (wpList_nil (then_n (wp_ret ?_)))
  refine bodyPost_ret (results_tmp Try.results53 _ _ _) rfl ?_
  exact ⟨GG, _, rfl, ⟨ao1, cap1, rfl, o1⟩, krb⟩
theorem rdText (rb : Nat) (so : Option Addr) (sc : Nat) (l : List Nat) (i m : Nat) (w : World) (krb : w.heap[rb]? = some (.cells (c123 ⟨so, l.length, sc⟩ (i : Int)) 117 (0, 0))) (HB : BS rb w so sc l) (hl : l.length ≤ 140737488355000) (hm : m ≤ 100000) : Calls Try.prog 53 #[.pointer (some ⟨rb, 0, none⟩), .int .i64 ((m : Nat) : Int)] w (RdP rb so sc l.length w (rdT l i m) fun x v w' => ∃ ao cap, v = .slice ao x.length cap ∧ OB w' 5 .u8 w.heap.size ao cap x) := by
  obtain ⟨⟨x, q, e⟩, HG⟩ : ∃ g, getT l (i : Int) (m : Int) = g := ⟨_, rfl⟩
  unfold RdP rdT
  rw [HG]
  cases e with
  | succ e => exact text_err rb so sc l i m w krb HB hl hm x q (e + 1) HG (by omega)
  | zero => exact text_ok rb so sc l i m w krb HB hl hm x q HG
def rdS (l : List Nat) (i : Nat) : Except Nat ((Nat × Nat) × Nat) := thenR (rdN l i) fun a q => thenR (rdN l q) fun b q => .ok ((a, b), q)
set_option maxRecDepth 100000 in
set_option maxHeartbeats 4000000 in
theorem rdSess (rb : Nat) (so : Option Addr) (sc : Nat) (l : List Nat) (i : Nat) (w : World) (krb : w.heap[rb]? = some (.cells (c123 ⟨so, l.length, sc⟩ (i : Int)) 117 (0, 0))) (HB : BS rb w so sc l) (hl : l.length ≤ 140737488355000) : Calls Try.prog 51 #[.pointer (some ⟨rb, 0, none⟩)] w (RdP rb so sc l.length w (rdS l i) fun a v _ => v = .agg (c27 ((a.1 : Nat) : Int) ((a.2 : Nat) : Int))) := by
  refine s_enter Try.func51 rfl Try.ntmps51 [.pointer (some ⟨rb, 0, none⟩)] [.pointer (some ⟨rb, 0, none⟩), undef, undef, undef, undef, undef, undef, undef] rfl ?_
  have GG := GroR.refl rb w
  have hrb := lt_of_heap krb
  refine wp_seq (wp_region_lit ?_)
  refine s_alloc 2 rfl rfl 31 rfl _ zv27 _ rfl ?_
  intro w1 g1 G eg1 kg1
  have bg1 := size_baseR GG eg1
  have drbg1 := lt_new krb eg1
  replace krb := G.has krb
  replace GG := GG.tg G
  clear G eg1
  refine wpList_nil (then_n (wp_seq (wp_region_lit (mv 3 (.pointer (some ⟨rb, 0, none⟩)) ?_))))
  simp only [z0, z1]
  obtain ⟨r1, hr1⟩ : ∃ r, rdN l i = r := ⟨_, rfl⟩
  have HC := rdNum rb so sc l i _ krb (HB.gror GG) hl
  rw [hr1] at HC
  rcases r1 with e | ⟨x1, i1⟩
  refine s_callp rfl _ 50 Try.call50 rfl rfl _ rfl [.pointer (some ⟨rb, 0, none⟩)] rfl (rd_err HC) ?_
  intro w2 G
  replace GG := GG.trans G
  refine then_p ?_
  refine post_p rfl ?_
  exact RdP.mk_err (by simp only [rdS, hr1, thenR]) GG
  refine s_callx 4 rfl rfl _ 50 Try.call50 rfl rfl _ rfl [.pointer (some ⟨rb, 0, none⟩)] rfl (rd_ok HC) (fun _ _ ⟨_, he, _⟩ => ⟨_, he⟩) ?_
  rintro v w2 ⟨_, he, hv, G, kn⟩
  cases he
  replace kg1 := G.has kg1 (by omega)
  replace GG := GG.trans G
  replace krb := kn
  clear HC kn
  subst hv
  clear G
  refine mv 5 (.pointer (some ⟨rb, 0, none⟩)) ?_
  simp only [z0, z1]
  obtain ⟨r2, hr2⟩ : ∃ r, rdN l i1 = r := ⟨_, rfl⟩
  have HC := rdNum rb so sc l i1 _ krb (HB.gror GG) hl
  rw [hr2] at HC
  rcases r2 with e | ⟨x2, i2⟩
  refine s_callp rfl _ 50 Try.call50 rfl rfl _ rfl [.pointer (some ⟨rb, 0, none⟩)] rfl (rd_err HC) ?_
  intro w3 G
  replace GG := GG.trans G
  refine then_p ?_
  refine post_p rfl ?_
  exact RdP.mk_err (by simp only [rdS, hr1, hr2, thenR]) GG
  refine s_callx 6 rfl rfl _ 50 Try.call50 rfl rfl _ rfl [.pointer (some ⟨rb, 0, none⟩)] rfl (rd_ok HC) (fun _ _ ⟨_, he, _⟩ => ⟨_, he⟩) ?_
  rintro v w3 ⟨_, he, hv, G, kn⟩
  cases he
  replace kg1 := G.has kg1 (by omega)
  replace GG := GG.trans G
  replace krb := kn
  clear HC kn
  subst hv
  clear G
  refine sv 7 (.agg (c27 ((x1 : Nat) : Int) ((x2 : Nat) : Int))) (run_bd 31 _ rfl [(0, .int .i64 ((x1 : Nat) : Int)), (1, .int .i64 ((x2 : Nat) : Int))] rfl _ (by kernel_rfl)) ?_
  refine s_store rfl rfl 31 _ _ rfl g1 0 rfl (.agg (c27 ((x1 : Nat) : Int) ((x2 : Nat) : Int))) rfl 31 _ kg1 (c27 ((x1 : Nat) : Int) ((x2 : Nat) : Int)) rfl (by kernel_rfl) (Nat.le_of_ble_eq_true rfl) (by kernel_rfl) (c27 ((x1 : Nat) : Int) ((x2 : Nat) : Int)) (by kernel_rfl) ?_
  intro w5 S
  replace krb := S.has (by omega) krb
  replace GG := GG.st S bg1
  replace kg1 := S.new
  clear S
  refine wpList_nil (then_n (wp_ret ?_))
  refine bodyPost_ret (results_cell_row Try.results51 _ _ g1 31 _ (0, 0) _ rfl kg1 Try.underlying31 rfl (by kernel_rfl)) rfl ?_
  exact RdP.mk_ok (a := (x1, x2)) (by simp only [rdS, hr1, hr2, thenR]) GG (rfl) krb
def rdPa (l : List Nat) (i : Nat) : Except Nat ((List Nat × Nat) × Nat) := thenR (rdI l i) fun a q => thenR (rdN l q) fun b q => .ok ((a, b), q)
set_option maxRecDepth 100000 in
set_option maxHeartbeats 4000000 in
theorem rdPath (rb : Nat) (so : Option Addr) (sc : Nat) (l : List Nat) (i : Nat) (w : World) (krb : w.heap[rb]? = some (.cells (c123 ⟨so, l.length, sc⟩ (i : Int)) 117 (0, 0))) (HB : BS rb w so sc l) (hl : l.length ≤ 140737488355000) : Calls Try.prog 54 #[.pointer (some ⟨rb, 0, none⟩)] w (RdP rb so sc l.length w (rdPa l i) fun a v _ => v = .agg (c25 (idF a.1) ((a.2 : Nat) : Int)) ∧ a.1.length = 16) := by
  refine s_enter Try.func54 rfl Try.ntmps54 [.pointer (some ⟨rb, 0, none⟩)] [.pointer (some ⟨rb, 0, none⟩), undef, undef, undef, undef, undef, undef, undef] rfl ?_
  have GG := GroR.refl rb w
  have hrb := lt_of_heap krb
  refine wp_seq (wp_region_lit ?_)
  refine s_alloc 2 rfl rfl 29 rfl _ zv25 _ rfl ?_
  intro w1 g1 G eg1 kg1
  have bg1 := size_baseR GG eg1
  have drbg1 := lt_new krb eg1
  replace krb := G.has krb
  replace GG := GG.tg G
  clear G eg1
  refine wpList_nil (then_n (wp_seq (wp_region_lit (mv 3 (.pointer (some ⟨rb, 0, none⟩)) ?_))))
  simp only [z0, z1]
  obtain ⟨r1, hr1⟩ : ∃ r, rdI l i = r := ⟨_, rfl⟩
  have HC := rdID rb so sc l i _ krb (HB.gror GG) hl
  rw [hr1] at HC
  rcases r1 with e | ⟨x1, i1⟩
  refine s_callp rfl _ 52 Try.call52 rfl rfl _ rfl [.pointer (some ⟨rb, 0, none⟩)] rfl (rd_err HC) ?_
  intro w2 G
  replace GG := GG.trans G
  refine then_p ?_
  refine post_p rfl ?_
  exact RdP.mk_err (by simp only [rdPa, hr1, thenR]) GG
  refine s_callx 4 rfl rfl _ 52 Try.call52 rfl rfl _ rfl [.pointer (some ⟨rb, 0, none⟩)] rfl (rd_ok HC) (fun _ _ ⟨_, he, _⟩ => ⟨_, he⟩) ?_
  rintro v w2 ⟨_, he, hv, G, kn⟩
  cases he
  replace kg1 := G.has kg1 (by omega)
  replace GG := GG.trans G
  replace krb := kn
  clear HC kn
  obtain ⟨rfl, h16x1⟩ := hv
  clear G
  refine mv 5 (.pointer (some ⟨rb, 0, none⟩)) ?_
  simp only [z0, z1]
  obtain ⟨r2, hr2⟩ : ∃ r, rdN l i1 = r := ⟨_, rfl⟩
  have HC := rdNum rb so sc l i1 _ krb (HB.gror GG) hl
  rw [hr2] at HC
  rcases r2 with e | ⟨x2, i2⟩
  refine s_callp rfl _ 50 Try.call50 rfl rfl _ rfl [.pointer (some ⟨rb, 0, none⟩)] rfl (rd_err HC) ?_
  intro w3 G
  replace GG := GG.trans G
  refine then_p ?_
  refine post_p rfl ?_
  exact RdP.mk_err (by simp only [rdPa, hr1, hr2, thenR]) GG
  refine s_callx 6 rfl rfl _ 50 Try.call50 rfl rfl _ rfl [.pointer (some ⟨rb, 0, none⟩)] rfl (rd_ok HC) (fun _ _ ⟨_, he, _⟩ => ⟨_, he⟩) ?_
  rintro v w3 ⟨_, he, hv, G, kn⟩
  cases he
  replace kg1 := G.has kg1 (by omega)
  replace GG := GG.trans G
  replace krb := kn
  clear HC kn
  subst hv
  clear G
  refine sv 7 (.agg (c25 (idF x1) ((x2 : Nat) : Int))) (run_bd 29 _ rfl [(0, .agg (c23 (idF x1))), (1, .int .i64 ((x2 : Nat) : Int))] rfl _ (by kernel_rfl)) ?_
  refine s_store rfl rfl 29 _ _ rfl g1 0 rfl (.agg (c25 (idF x1) ((x2 : Nat) : Int))) rfl 29 _ kg1 (c25 (idF x1) ((x2 : Nat) : Int)) rfl (by kernel_rfl) (Nat.le_of_ble_eq_true rfl) (by kernel_rfl) (c25 (idF x1) ((x2 : Nat) : Int)) (by kernel_rfl) ?_
  intro w5 S
  replace krb := S.has (by omega) krb
  replace GG := GG.st S bg1
  replace kg1 := S.new
  clear S
  refine wpList_nil (then_n (wp_ret ?_))
  refine bodyPost_ret (results_cell_row Try.results54 _ _ g1 29 _ (0, 0) _ rfl kg1 Try.underlying29 rfl (by kernel_rfl)) rfl ?_
  exact RdP.mk_ok (a := (x1, x2)) (by simp only [rdPa, hr1, hr2, thenR]) GG (⟨rfl, h16x1⟩) krb
def rdVe (l : List Nat) (i : Nat) : Except Nat ((Nat × List Nat) × Nat) := thenR (rdN l i) fun a q => thenR (rdI l q) fun b q => .ok ((a, b), q)
set_option maxRecDepth 100000 in
set_option maxHeartbeats 4000000 in
theorem rdVer (rb : Nat) (so : Option Addr) (sc : Nat) (l : List Nat) (i : Nat) (w : World) (krb : w.heap[rb]? = some (.cells (c123 ⟨so, l.length, sc⟩ (i : Int)) 117 (0, 0))) (HB : BS rb w so sc l) (hl : l.length ≤ 140737488355000) : Calls Try.prog 60 #[.pointer (some ⟨rb, 0, none⟩)] w (RdP rb so sc l.length w (rdVe l i) fun a v _ => v = .agg (c31 ((a.1 : Nat) : Int) (idF a.2)) ∧ a.2.length = 16) := by
  refine s_enter Try.func60 rfl Try.ntmps60 [.pointer (some ⟨rb, 0, none⟩)] [.pointer (some ⟨rb, 0, none⟩), undef, undef, undef, undef, undef, undef, undef] rfl ?_
  have GG := GroR.refl rb w
  have hrb := lt_of_heap krb
  refine wp_seq (wp_region_lit ?_)
  refine s_alloc 2 rfl rfl 35 rfl _ zv31 _ rfl ?_
  intro w1 g1 G eg1 kg1
  have bg1 := size_baseR GG eg1
  have drbg1 := lt_new krb eg1
  replace krb := G.has krb
  replace GG := GG.tg G
  clear G eg1
  refine wpList_nil (then_n (wp_seq (wp_region_lit (mv 3 (.pointer (some ⟨rb, 0, none⟩)) ?_))))
  simp only [z0, z1]
  obtain ⟨r1, hr1⟩ : ∃ r, rdN l i = r := ⟨_, rfl⟩
  have HC := rdNum rb so sc l i _ krb (HB.gror GG) hl
  rw [hr1] at HC
  rcases r1 with e | ⟨x1, i1⟩
  refine s_callp rfl _ 50 Try.call50 rfl rfl _ rfl [.pointer (some ⟨rb, 0, none⟩)] rfl (rd_err HC) ?_
  intro w2 G
  replace GG := GG.trans G
  refine then_p ?_
  refine post_p rfl ?_
  exact RdP.mk_err (by simp only [rdVe, hr1, thenR]) GG
  refine s_callx 4 rfl rfl _ 50 Try.call50 rfl rfl _ rfl [.pointer (some ⟨rb, 0, none⟩)] rfl (rd_ok HC) (fun _ _ ⟨_, he, _⟩ => ⟨_, he⟩) ?_
  rintro v w2 ⟨_, he, hv, G, kn⟩
  cases he
  replace kg1 := G.has kg1 (by omega)
  replace GG := GG.trans G
  replace krb := kn
  clear HC kn
  subst hv
  clear G
  refine mv 5 (.pointer (some ⟨rb, 0, none⟩)) ?_
  simp only [z0, z1]
  obtain ⟨r2, hr2⟩ : ∃ r, rdI l i1 = r := ⟨_, rfl⟩
  have HC := rdID rb so sc l i1 _ krb (HB.gror GG) hl
  rw [hr2] at HC
  rcases r2 with e | ⟨x2, i2⟩
  refine s_callp rfl _ 52 Try.call52 rfl rfl _ rfl [.pointer (some ⟨rb, 0, none⟩)] rfl (rd_err HC) ?_
  intro w3 G
  replace GG := GG.trans G
  refine then_p ?_
  refine post_p rfl ?_
  exact RdP.mk_err (by simp only [rdVe, hr1, hr2, thenR]) GG
  refine s_callx 6 rfl rfl _ 52 Try.call52 rfl rfl _ rfl [.pointer (some ⟨rb, 0, none⟩)] rfl (rd_ok HC) (fun _ _ ⟨_, he, _⟩ => ⟨_, he⟩) ?_
  rintro v w3 ⟨_, he, hv, G, kn⟩
  cases he
  replace kg1 := G.has kg1 (by omega)
  replace GG := GG.trans G
  replace krb := kn
  clear HC kn
  obtain ⟨rfl, h16x2⟩ := hv
  clear G
  refine sv 7 (.agg (c31 ((x1 : Nat) : Int) (idF x2))) (run_bd 35 _ rfl [(0, .int .i64 ((x1 : Nat) : Int)), (1, .agg (c23 (idF x2)))] rfl _ (by kernel_rfl)) ?_
  refine s_store rfl rfl 35 _ _ rfl g1 0 rfl (.agg (c31 ((x1 : Nat) : Int) (idF x2))) rfl 35 _ kg1 (c31 ((x1 : Nat) : Int) (idF x2)) rfl (by kernel_rfl) (Nat.le_of_ble_eq_true rfl) (by kernel_rfl) (c31 ((x1 : Nat) : Int) (idF x2)) (by kernel_rfl) ?_
  intro w5 S
  replace krb := S.has (by omega) krb
  replace GG := GG.st S bg1
  replace kg1 := S.new
  clear S
  refine wpList_nil (then_n (wp_ret ?_))
  refine bodyPost_ret (results_cell_row Try.results60 _ _ g1 35 _ (0, 0) _ rfl kg1 Try.underlying35 rfl (by kernel_rfl)) rfl ?_
  exact RdP.mk_ok (a := (x1, x2)) (by simp only [rdVe, hr1, hr2, thenR]) GG (⟨rfl, h16x2⟩) krb
end Go.Proofs.Ythmcnlmphikicab
