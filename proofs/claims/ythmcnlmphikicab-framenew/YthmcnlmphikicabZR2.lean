/- Reading: identities, texts. -/
import Derived.Test.YthmcnlmphikicabZR1
import Derived.Test.YthmcnlmphikicabZLaw2
namespace Go.Proofs.Ythmcnlmphikicab
open Go.RowKit
section
variable {P : Program}
def opsB (P : Program) (ops : Array Oper) (posts : List PostS) (A : (Nat → Value) → Act) (w0 : World) : Nat → List Oper → Prop
  | _, [] => True
  | i, o :: r => (∀ ptrs L w, Gro w0 w → newsHold2 L w0.heap.size posts ptrs w (edges o) → L i = false → OpOK2 P ops (postAt2 posts i) (postAt2 posts (postAt2 posts i).other) (ptrs (postAt2 posts i).other) o (A ptrs) w) ∧ opsB P ops posts A w0 (i + 1) r
theorem opsB_nil {ops : Array Oper} {posts : List PostS} {A : (Nat → Value) → Act} {w0 : World} {i : Nat} : opsB P ops posts A w0 i [] := trivial
theorem opsB_cons {ops : Array Oper} {posts : List PostS} {A : (Nat → Value) → Act} {w0 : World} {i : Nat} {o : Oper} {r : List Oper}
    (h : ∀ ptrs L w, Gro w0 w → newsHold2 L w0.heap.size posts ptrs w (edges o) → L i = false → OpOK2 P ops (postAt2 posts i) (postAt2 posts (postAt2 posts i).other) (ptrs (postAt2 posts i).other) o (A ptrs) w) (hr : opsB P ops posts A w0 (i + 1) r) : opsB P ops posts A w0 i (o :: r) := ⟨h, hr⟩
theorem opsOK2_of_B {ops : Array Oper} {posts : List PostS} {a0 : Act} {D : List (Nat × Nat)} {w0 : World} : ∀ (l : List Oper) (i : Nat), opsB P ops posts (fun ptrs => full a0 D (filled2 posts ptrs)) w0 i l → opsOK2 P ops posts a0 D w0 i l
  | [], _, _ => trivial
  | _ :: r, i, h => ⟨h.1, opsOK2_of_B r (i + 1) h.2⟩
theorem wp_region_grow2B {id : Nat} {l : List Oper} {Q : Exit → Act → World → Prop} {a0 : Act} {w : World} {A : (Nat → Value) → Act} (n : Nat) (D : List (Nat × Nat)) (posts : List PostS) (hm : P.follows .mixedOrders = true)
    (hB : growB l.toArray n D = true) (hP : postsB l.toArray n (postAt2 posts) = true) (hsz : (D.all fun p => decide (p.2 < a0.tmps.size)) = true)
    (hA : ∀ ptrs, full a0 D (filled2 posts ptrs) = A ptrs)
    (hop : opsB P l.toArray posts A w.drew 0 (l.take n))
    (hrest : ∀ ptrs L w', Gro w.drew w' → (∀ i, L i = decide (i < n)) → newsHold2 L w.heap.size posts ptrs w' (List.range n) → newsApart2 posts ptrs n → wpList P l.toArray Q (l.drop n) (A ptrs) w') :
    (Code.region id l.toArray true).wp P Q a0 w := by
  have e : A = fun ptrs => full a0 D (filled2 posts ptrs) := funext fun ptrs => (hA ptrs).symm
  subst e
  exact wp_region_grow2 n D posts hm hB hP hsz (opsOK2_of_B _ _ hop) hrest
theorem fillS_val (u v : Value) : (PostS.val u).fill v = u := rfl
theorem fillS_new (t : TypeId) (cs late : Array Value) (j : Nat) (v : Value) : (PostS.new t cs late j).fill v = v := rfl
end
set_option maxRecDepth 100000 in
set_option maxHeartbeats 4000000 in
theorem id_err (rb : Nat) (so : Option Addr) (sc : Nat) (l : List Nat) (i : Nat) (w : World) (krb : w.heap[rb]? = some (.cells (c123 ⟨so, l.length, sc⟩ (i : Int)) 117 (0, 0))) (HB : BS rb w so sc l) (hl : l.length ≤ 140737488355000) (x : List Nat) (q e : Nat) (HG : getI l (i : Int) = (x, q, e)) (he : e ≠ 0) : Calls Try.prog 52 #[.pointer (some ⟨rb, 0, none⟩)] w fun e' w' => GroR rb w w' ∧ e' = .panicked (thrown e) := by
  refine s_enterR Try.func52 rfl Try.ntmps52 [.pointer (some ⟨rb, 0, none⟩)] ?_
  intro U h; simp only [List.length_cons, List.length_nil, List.cons_append, List.nil_append, Nat.reduceAdd, Nat.reduceSub, List.reduceReplicate] at h; subst h
  have GG := GroR.refl rb w
  have hrb := lt_of_heap krb
  refine wp_seq (wp_region_lit ?_)
  refine s_alloc 2 rfl rfl 27 rfl _ zv23 _ rfl ?_
  intro w1 g1 G eg1 kg1
  have bg1 := size_baseR GG eg1
  have drbg1 := lt_new krb eg1
  replace krb := G.has krb
  replace GG := GG.tg G
  clear G eg1
  refine wpList_nil (then_n (wp_seq ?_))
  refine wp_region_grow2B (A := ?A) 16 [(0, 7), (1, 8), (2, 9), (3, 10), (4, 11), (5, 12), (6, 13), (7, 14), (8, 15), (9, 6), (10, 16), (11, 17), (12, 18), (13, 3), (15, 4)] [.val (.pointer (some ⟨rb, 0, none⟩)), .val (.pointer (some ⟨rb, 0, none⟩)), .val (.pointer (some ⟨rb, 0, none⟩)), .val (.slice so l.length sc), .val (.pointer (some ⟨rb, 0, none⟩)), .val (.pointer (some ⟨rb, 0, none⟩)), .val (.pointer (some ⟨rb, 1, none⟩)), .val (.int .i64 ((i : Nat) : Int)), .val (.tuple #[.agg (c23 (idF x)), .int .i64 ((q : Nat) : Int), .int .i64 ((e : Nat) : Int)]), .val (.tuple #[.agg (c23 (idF x)), .int .i64 ((q : Nat) : Int), .int .i64 ((e : Nat) : Int)]), .val (.agg (c23 (idF x))), .val (.int .i64 ((q : Nat) : Int)), .val (.int .i64 ((e : Nat) : Int)), .new 27 (c23 zF) (c23 (idF x)) 14, .put 13, .val (.int .i64 ((q : Nat) : Int))] follows (by kernel_rfl) (by kernel_rfl) rfl ?hA (opsB_cons ?o0 (opsB_cons ?o1 (opsB_cons ?o2 (opsB_cons ?o3 (opsB_cons ?o4 (opsB_cons ?o5 (opsB_cons ?o6 (opsB_cons ?o7 (opsB_cons ?o8 (opsB_cons ?o9 (opsB_cons ?o10 (opsB_cons ?o11 (opsB_cons ?o12 (opsB_cons ?o13 (opsB_cons ?o14 (opsB_cons ?o15 (opsB_nil))))))))))))))))) ?rest
  case hA =>
    intro ptrs
    simp only [full, foldSlots, filled2, postAt2, List.foldl_cons, List.foldl_nil, List.getD_cons_zero, List.getD_cons_succ, fillS_val, fillS_new, List.set_cons_zero, List.set_cons_succ]
    exact rfl
  case o0 => exact fun _ _ _ hw _ _ => OpOK2.of_val (ok_value rfl (rfl))
  case o1 => exact fun _ _ _ hw _ _ => OpOK2.of_val (ok_value rfl (run_nc _ rfl _ rfl))
  case o2 => exact fun _ _ _ hw _ _ => OpOK2.of_val (ok_value rfl (run_fld 117 _ 0 rfl _ _ rfl _))
  case o3 => exact fun _ _ _ hw _ _ => OpOK2.of_val (ok_value rfl (run_ldc 36 _ rfl rb 0 rfl 117 _ (hw.has krb) (na32 _) _ rfl))
  case o4 => exact fun _ _ _ hw _ _ => OpOK2.of_val (ok_value rfl (rfl))
  case o5 => exact fun _ _ _ hw _ _ => OpOK2.of_val (ok_value rfl (run_nc _ rfl _ rfl))
  case o6 => exact fun _ _ _ hw _ _ => OpOK2.of_val (ok_value rfl (run_fld 117 _ 1 rfl _ _ rfl _))
  case o7 => exact fun _ _ _ hw _ _ => OpOK2.of_val (ok_value rfl (run_ldc 3 _ rfl rb 1 rfl 117 _ (hw.has krb) (na3 _) _ rfl))
  case o8 => exact fun _ _ _ hw _ _ => OpOK2.of_val (ok_call rfl _ 63 Try.call63 rfl rfl _ rfl [.slice so l.length sc, .int .i64 ((i : Nat) : Int)] rfl _ (getID_v so sc l _ ((HB.gror (GG.tg ((Gro.refl _).drew.trans hw))).nc) i q e x HG hl))
  case o9 => exact fun _ _ _ hw _ _ => OpOK2.of_val (ok_value rfl (rfl))
  case o10 => exact fun _ _ _ hw _ _ => OpOK2.of_val (ok_value rfl (rfl))
  case o11 => exact fun _ _ _ hw _ _ => OpOK2.of_val (ok_value rfl (rfl))
  case o12 => exact fun _ _ _ hw _ _ => OpOK2.of_val (ok_value rfl (rfl))
  case o13 => exact fun _ _ _ hw _ _ => OpOK2.of_new (ok_alloc rfl 27 rfl _ zv23)
  case o14 =>
    intro ptrs L w hw hn hL
    obtain ⟨⟨g, p, k, cz⟩, hz⟩ := hn
    have hL' : L 14 = false := hL
    have p' : ptrs 13 = .pointer (some ⟨g, 0, none⟩) := p
    have k' : w.heap[g]? = some (.cells (if L 14 = true then (c23 (idF x)) else (c23 zF)) 27 (0, 0)) := k
    rw [hL'] at k'
    refine ok2_store rfl 27 _ _ rfl g ?_ (c23 (idF x)) rfl (c23 zF) k' (by kernel_rfl) rfl (by kernel_rfl) rfl p' _
    show ptrs 13 = _
    exact p'
  case o15 => exact fun _ _ _ hw _ _ => OpOK2.of_val (ok_value rfl (rfl))
  intro ptrs L w2 GD hL hn hap
  obtain ⟨⟨g2, px, kx, cx⟩, hz⟩ := hn
  simp only [List.drop_succ_cons, List.drop_zero, px]
  have kg2 : w2.heap[g2]? = some (.cells (c23 (idF x)) 27 (0, 0)) := by
    have hL' : L 14 = true := by rw [hL]; rfl
    have kk : w2.heap[g2]? = some (.cells (if L 14 = true then (c23 (idF x)) else (c23 zF)) 27 (0, 0)) := kx
    rw [hL'] at kk
    exact kk
  have dg1g2 : g1 < g2 := Nat.lt_of_lt_of_le (lt_of_heap kg1) cx
  have drbg2 : rb < g2 := Nat.lt_of_lt_of_le (lt_of_heap krb) cx
  have bg2 : w.heap.size ≤ g2 := Nat.le_trans GG.size cx
  replace kg1 := GD.has kg1
  replace krb := GD.has krb
  replace GG := GG.tg ((Gro.refl _).drew.trans GD)
  clear GD cx hz hL px hap kx ptrs
  refine mv 5 (.int .i64 ((e : Nat) : Int)) (wpList_nil (then_n (wp_seq (wp_region_lit (mv 19 (.int .i64 ((e : Nat) : Int)) ?_)))))
  simp only [z0, z1]
  refine s_callp rfl _ 62 Try.call62 rfl rfl _ rfl [.int .i64 ((e : Nat) : Int)] rfl (must_bad e he _) ?_
  intro w3 G
  replace GG := GG.tg G
  refine then_p ?_
  refine post_p rfl ?_
  exact ⟨GG, rfl⟩
set_option maxRecDepth 100000 in
set_option maxHeartbeats 4000000 in
theorem id_ok (rb : Nat) (so : Option Addr) (sc : Nat) (l : List Nat) (i : Nat) (w : World) (krb : w.heap[rb]? = some (.cells (c123 ⟨so, l.length, sc⟩ (i : Int)) 117 (0, 0))) (HB : BS rb w so sc l) (hl : l.length ≤ 140737488355000) (x : List Nat) (q : Nat) (HG : getI l (i : Int) = (x, q, 0)) (h16 : x.length = 16) : Calls Try.prog 52 #[.pointer (some ⟨rb, 0, none⟩)] w fun e' w' => GroR rb w w' ∧ ∃ v, e' = .returned v ∧ (v = .agg (c23 (idF x)) ∧ x.length = 16) ∧ w'.heap[rb]? = some (.cells (c123 ⟨so, l.length, sc⟩ (q : Int)) 117 (0, 0)) := by
  refine s_enterR Try.func52 rfl Try.ntmps52 [.pointer (some ⟨rb, 0, none⟩)] ?_
  intro U h; simp only [List.length_cons, List.length_nil, List.cons_append, List.nil_append, Nat.reduceAdd, Nat.reduceSub, List.reduceReplicate] at h; subst h
  have GG := GroR.refl rb w
  have hrb := lt_of_heap krb
  refine wp_seq (wp_region_lit ?_)
  refine s_alloc 2 rfl rfl 27 rfl _ zv23 _ rfl ?_
  intro w1 g1 G eg1 kg1
  have bg1 := size_baseR GG eg1
  have drbg1 := lt_new krb eg1
  replace krb := G.has krb
  replace GG := GG.tg G
  clear G eg1
  refine wpList_nil (then_n (wp_seq ?_))
  refine wp_region_grow2B (A := ?A) 16 [(0, 7), (1, 8), (2, 9), (3, 10), (4, 11), (5, 12), (6, 13), (7, 14), (8, 15), (9, 6), (10, 16), (11, 17), (12, 18), (13, 3), (15, 4)] [.val (.pointer (some ⟨rb, 0, none⟩)), .val (.pointer (some ⟨rb, 0, none⟩)), .val (.pointer (some ⟨rb, 0, none⟩)), .val (.slice so l.length sc), .val (.pointer (some ⟨rb, 0, none⟩)), .val (.pointer (some ⟨rb, 0, none⟩)), .val (.pointer (some ⟨rb, 1, none⟩)), .val (.int .i64 ((i : Nat) : Int)), .val (.tuple #[.agg (c23 (idF x)), .int .i64 ((q : Nat) : Int), .int .i64 0]), .val (.tuple #[.agg (c23 (idF x)), .int .i64 ((q : Nat) : Int), .int .i64 0]), .val (.agg (c23 (idF x))), .val (.int .i64 ((q : Nat) : Int)), .val (.int .i64 0), .new 27 (c23 zF) (c23 (idF x)) 14, .put 13, .val (.int .i64 ((q : Nat) : Int))] follows (by kernel_rfl) (by kernel_rfl) rfl ?hA (opsB_cons ?o0 (opsB_cons ?o1 (opsB_cons ?o2 (opsB_cons ?o3 (opsB_cons ?o4 (opsB_cons ?o5 (opsB_cons ?o6 (opsB_cons ?o7 (opsB_cons ?o8 (opsB_cons ?o9 (opsB_cons ?o10 (opsB_cons ?o11 (opsB_cons ?o12 (opsB_cons ?o13 (opsB_cons ?o14 (opsB_cons ?o15 (opsB_nil))))))))))))))))) ?rest
  case hA =>
    intro ptrs
    simp only [full, foldSlots, filled2, postAt2, List.foldl_cons, List.foldl_nil, List.getD_cons_zero, List.getD_cons_succ, fillS_val, fillS_new, List.set_cons_zero, List.set_cons_succ]
    exact rfl
  case o0 => exact fun _ _ _ hw _ _ => OpOK2.of_val (ok_value rfl (rfl))
  case o1 => exact fun _ _ _ hw _ _ => OpOK2.of_val (ok_value rfl (run_nc _ rfl _ rfl))
  case o2 => exact fun _ _ _ hw _ _ => OpOK2.of_val (ok_value rfl (run_fld 117 _ 0 rfl _ _ rfl _))
  case o3 => exact fun _ _ _ hw _ _ => OpOK2.of_val (ok_value rfl (run_ldc 36 _ rfl rb 0 rfl 117 _ (hw.has krb) (na32 _) _ rfl))
  case o4 => exact fun _ _ _ hw _ _ => OpOK2.of_val (ok_value rfl (rfl))
  case o5 => exact fun _ _ _ hw _ _ => OpOK2.of_val (ok_value rfl (run_nc _ rfl _ rfl))
  case o6 => exact fun _ _ _ hw _ _ => OpOK2.of_val (ok_value rfl (run_fld 117 _ 1 rfl _ _ rfl _))
  case o7 => exact fun _ _ _ hw _ _ => OpOK2.of_val (ok_value rfl (run_ldc 3 _ rfl rb 1 rfl 117 _ (hw.has krb) (na3 _) _ rfl))
  case o8 => exact fun _ _ _ hw _ _ => OpOK2.of_val (ok_call rfl _ 63 Try.call63 rfl rfl _ rfl [.slice so l.length sc, .int .i64 ((i : Nat) : Int)] rfl _ (getID_v so sc l _ ((HB.gror (GG.tg ((Gro.refl _).drew.trans hw))).nc) i q 0 x HG hl))
  case o9 => exact fun _ _ _ hw _ _ => OpOK2.of_val (ok_value rfl (rfl))
  case o10 => exact fun _ _ _ hw _ _ => OpOK2.of_val (ok_value rfl (rfl))
  case o11 => exact fun _ _ _ hw _ _ => OpOK2.of_val (ok_value rfl (rfl))
  case o12 => exact fun _ _ _ hw _ _ => OpOK2.of_val (ok_value rfl (rfl))
  case o13 => exact fun _ _ _ hw _ _ => OpOK2.of_new (ok_alloc rfl 27 rfl _ zv23)
  case o14 =>
    intro ptrs L w hw hn hL
    obtain ⟨⟨g, p, k, cz⟩, hz⟩ := hn
    have hL' : L 14 = false := hL
    have p' : ptrs 13 = .pointer (some ⟨g, 0, none⟩) := p
    have k' : w.heap[g]? = some (.cells (if L 14 = true then (c23 (idF x)) else (c23 zF)) 27 (0, 0)) := k
    rw [hL'] at k'
    refine ok2_store rfl 27 _ _ rfl g ?_ (c23 (idF x)) rfl (c23 zF) k' (by kernel_rfl) rfl (by kernel_rfl) rfl p' _
    show ptrs 13 = _
    exact p'
  case o15 => exact fun _ _ _ hw _ _ => OpOK2.of_val (ok_value rfl (rfl))
  intro ptrs L w2 GD hL hn hap
  obtain ⟨⟨g2, px, kx, cx⟩, hz⟩ := hn
  simp only [List.drop_succ_cons, List.drop_zero, px]
  have kg2 : w2.heap[g2]? = some (.cells (c23 (idF x)) 27 (0, 0)) := by
    have hL' : L 14 = true := by rw [hL]; rfl
    have kk : w2.heap[g2]? = some (.cells (if L 14 = true then (c23 (idF x)) else (c23 zF)) 27 (0, 0)) := kx
    rw [hL'] at kk
    exact kk
  have dg1g2 : g1 < g2 := Nat.lt_of_lt_of_le (lt_of_heap kg1) cx
  have drbg2 : rb < g2 := Nat.lt_of_lt_of_le (lt_of_heap krb) cx
  have bg2 : w.heap.size ≤ g2 := Nat.le_trans GG.size cx
  replace kg1 := GD.has kg1
  replace krb := GD.has krb
  replace GG := GG.tg ((Gro.refl _).drew.trans GD)
  clear GD cx hz hL px hap kx ptrs
  refine mv 5 (.int .i64 0) (wpList_nil (then_n (wp_seq (wp_region_lit (mv 19 (.int .i64 0) ?_)))))
  simp only [z0, z1]
  refine s_callv 20 rfl rfl _ 62 Try.call62 rfl rfl _ rfl [.int .i64 0] rfl (must_ok _) ?_
  intro w3 G
  replace krb := G.has krb
  replace kg1 := G.has kg1
  replace kg2 := G.has kg2
  replace GG := GG.tg G
  clear G
  refine wpList_nil (then_n (wp_seq (wp_region_lit (mv 21 (.pointer (some ⟨rb, 0, none⟩)) (mv 22 (.int .i64 ((q : Nat) : Int)) ?_)))))
  simp only [z0, z1]
  refine sv 23 (.pointer (some ⟨rb, 0, none⟩)) (run_nc _ rfl _ rfl) (sv 24 (.pointer (some ⟨rb, 1, none⟩)) (run_fld 117 _ 1 rfl _ _ rfl _) ?_)
  refine s_store rfl rfl 3 _ _ rfl rb 1 rfl (.int .i64 ((q : Nat) : Int)) rfl 117 _ krb #[.int .i64 ((q : Nat) : Int)] rfl (by kernel_rfl) (Nat.le_of_ble_eq_true rfl) (by kernel_rfl) (c123 ⟨so, l.length, sc⟩ ((q : Nat) : Int)) (by kernel_rfl) ?_
  intro w5 S
  replace kg1 := S.has (by omega) kg1
  replace kg2 := S.has (by omega) kg2
  replace GG := GG.stR S
  replace krb := S.new
  clear S
  refine wpList_nil (then_n (wp_seq (wp_region_lit (sv 25 (.agg (c23 (idF x))) (run_lda 27 _ rfl g2 0 16 rfl 27 _ kg2 _ Try.underlying27 rfl si23 _) ?_))))
  simp only [z0, z1]
  refine s_store rfl rfl 27 _ _ rfl g1 0 rfl (.agg (c23 (idF x))) rfl 27 _ kg1 (c23 (idF x)) rfl (by kernel_rfl) (Nat.le_of_ble_eq_true rfl) (by kernel_rfl) (c23 (idF x)) (by kernel_rfl) ?_
  intro w7 S
  replace krb := S.has (by omega) krb
  replace kg2 := S.has (by omega) kg2
  replace GG := GG.st S bg1
  replace kg1 := S.new
  clear S
  refine wpList_nil (then_n (wp_ret ?_))
  refine bodyPost_ret (results_cell_row Try.results52 _ _ g1 27 _ (0, 0) _ rfl kg1 Try.underlying27 rfl (by kernel_rfl)) rfl ?_
  exact ⟨GG, _, rfl, ⟨rfl, h16⟩, krb⟩
theorem rdID (rb : Nat) (so : Option Addr) (sc : Nat) (l : List Nat) (i : Nat) (w : World) (krb : w.heap[rb]? = some (.cells (c123 ⟨so, l.length, sc⟩ (i : Int)) 117 (0, 0))) (HB : BS rb w so sc l) (hl : l.length ≤ 140737488355000) : Calls Try.prog 52 #[.pointer (some ⟨rb, 0, none⟩)] w (RdP rb so sc l.length w (rdI l i) fun x v _ => v = .agg (c23 (idF x)) ∧ x.length = 16) := by
  obtain ⟨⟨x, q, e⟩, HG⟩ : ∃ g, getI l (i : Int) = g := ⟨_, rfl⟩
  have h16 := getI_len l (i : Int)
  unfold RdP rdI
  rw [HG]
  rw [HG] at h16
  cases e with
  | succ e => exact id_err rb so sc l i w krb HB hl x q (e + 1) HG (by omega)
  | zero => exact id_ok rb so sc l i w krb HB hl x q HG h16
end Go.Proofs.Ythmcnlmphikicab
