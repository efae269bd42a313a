/- Reading: trails, and rows of identities. -/
import Derived.Test.YthmcnlmphikicabZR4
import Derived.Test.YthmcnlmphikicabZF8
namespace Go.Proofs.Ythmcnlmphikicab
open Go.RowKit
theorem GroR.bl {rb : Nat} {a b c : World} (h : GroR rb a b) (k : Below a.heap.size b c) : GroR rb a c :=
  ⟨k.os.trans h.os, k.tape.trans h.tape, k.output.trans h.output, Nat.le_trans h.size k.size, fun i hi hn => (k.block i hi).trans (h.old i hi hn)⟩
theorem min_ex {p : Nat → Prop} (h : ∃ n, p n) : ∃ n, p n ∧ ∀ m, m < n → ¬ p m := by
  obtain ⟨n, hn⟩ := h
  induction n using Nat.strongRecOn with
  | _ n ih =>
    by_cases hx : ∃ m, m < n ∧ p m
    · obtain ⟨m, hm, hp⟩ := hx
      exact ih m hm hp
    · exact ⟨n, hn, fun m hm hp => hx ⟨m, hm, hp⟩⟩
theorem wp_loopN {P : Program} {c : Code} {Q : Exit → Act → World → Prop} (J : Nat → Act → World → Prop) (round : ∀ n a w, J n a w → c.wp P (Exit.then (fun a' w' => ∃ m, m < n ∧ J m a' w') Q) a w) (n : Nat) {a : Act} {w : World} (h : J n a w) : (Code.loop c).wp P Q a w := by
  classical
  refine wp_loop (fun a w => ∃ n, J n a w) (fun a w => if h : ∃ n, J n a w then Classical.choose (min_ex h) else 0) ⟨n, h⟩ fun a w hI => ?_
  have hc := Classical.choose_spec (min_ex hI)
  have hm : (if h : ∃ n, J n a w then Classical.choose (min_ex h) else 0) = Classical.choose (min_ex hI) := dif_pos hI
  rw [hm]
  refine Code.wp_mono (fun e a' w' hq => ?_) (round _ a w hc.1)
  cases e with
  | normal =>
    obtain ⟨m, hlt, hJ⟩ := hq
    have hI' : ∃ n, J n a' w' := ⟨m, hJ⟩
    refine ⟨hI', ?_⟩
    have hc' := Classical.choose_spec (min_ex hI')
    rw [dif_pos hI']
    have : ¬ m < Classical.choose (min_ex hI') := fun hx => hc'.2 m hx hJ
    omega
  | exit _ => exact hq
  | goto _ => exact hq
  | ret => exact hq
  | panic _ => exact hq
  | outgrown => exact hq
section
variable {P : Program} {ops : Array Oper} {rest : List Oper} {o : Oper} {T : List Value} {ds : List Deferred} {w : World} {Q : Exit → Act → World → Prop}
theorem s_bsl (dst : Nat) (hd : o.dst = some dst) (hgd : o.guard = none) (t : TypeId) (n : Nat) (l : List (Nat × Operand)) (ho : o.op = .buildSlice t n l.toArray) (vals : List (Nat × Value)) (hv : (l.map fun p => (p.1, (⟨T.toArray, ds⟩ : Act).eval p.2)) = vals) (cs : Array Value) (e : TypeId)
    (hr : (Instr.buildSlice t n vals.toArray).run P w = .ok (.slice (some ⟨w.heap.size, 0, none⟩) n n) (w.alloc (.cells cs e)))
    (h : ∀ w' g, Gro w w' → w.heap.size = g → w'.heap[g]? = some (.cells cs e (0, 0)) → wpList P ops Q rest ⟨(T.set dst (.slice (some ⟨g, 0, none⟩) n n)).toArray, ds⟩ w') : wpList P ops Q (o :: rest) ⟨T.toArray, ds⟩ w :=
  wpList_plain hgd fun _ hK => by
    have he := run_bsl (A := ⟨T.toArray, ds⟩) t n l ho vals hv hr
    unfold Oper.wp
    rw [he, Oper.upon_value, hd, put_list]
    exact hK _ _ (h _ _ (gro_alloc _ _) rfl (heap_alloc_new _ _))
theorem s_appX {t e : TypeId} {sz b : Nat} {z : Value} (TT : RowT P t e sz b z) (dst : Nat) (hd : o.dst = some dst) (hgd : o.guard = none) (s x : Operand)
    (ho : o.op = .call { callee := .builtin .append, args := #[s, x], argTypes := #[t, t] }) {B : Nat} {ao : Option Addr} {cap n : Nat} {cs : List Value} (hs : (⟨T.toArray, ds⟩ : Act).eval s = .slice ao n cap) (hown : OX w e sz B ao cap n cs)
    {ao' : Option Addr} {cap' m : Nat} {cs' : List Value} (hx : (⟨T.toArray, ds⟩ : Act).eval x = .slice ao' m cap') (hsrc : XC w sz ao' cap' m cs') (hb : (n + m) * b ≤ 140737488355328) (hb0 : 0 < b) (hB : B ≤ w.heap.size)
    (h : ∀ ao2 cap2 w', OX w' e sz B ao2 cap2 (n + m) (cs ++ cs') → Below B w w' → wpList P ops Q rest ⟨(T.set dst (.slice ao2 (n + m) cap2)).toArray, ds⟩ w') : wpList P ops Q (o :: rest) ⟨T.toArray, ds⟩ w :=
  wpList_appX TT dst hd hgd s x ho hs hown hx hsrc hb hb0 hB fun ao2 cap2 w' h1 h2 => by rw [put_list]; exact h ao2 cap2 w' h1 h2
end
def rdRep {α : Type} (rd : Nat → Except Nat (α × Nat)) : Nat → Nat → Except Nat (List α × Nat)
  | 0, i => .ok ([], i)
  | n + 1, i => thenR (rd i) fun a q => thenR (rdRep rd n q) fun l q => .ok (a :: l, q)
def rdOn {α : Type} (rd : Nat → Except Nat (α × Nat)) (n q : Nat) (acc : List α) : Except Nat (List α × Nat) := thenR (rdRep rd n q) fun l q => .ok (acc ++ l, q)
theorem rdOn_start {α : Type} (rd : Nat → Except Nat (α × Nat)) (n q : Nat) : rdRep rd n q = rdOn rd n q [] := by
  unfold rdOn thenR
  cases rdRep rd n q with
  | error e => rfl
  | ok p => rfl
theorem rdOn_zero {α : Type} (rd : Nat → Except Nat (α × Nat)) (q : Nat) (acc : List α) : rdOn rd 0 q acc = .ok (acc, q) := by simp [rdOn, rdRep, thenR]
theorem rdOn_err {α : Type} (rd : Nat → Except Nat (α × Nat)) (n q : Nat) (acc : List α) {e : Nat} (h : rd q = .error e) : rdOn rd (n + 1) q acc = .error e := by simp [rdOn, rdRep, thenR, h]
theorem rdOn_ok {α : Type} (rd : Nat → Except Nat (α × Nat)) (n q : Nat) (acc : List α) {a : α} {q' : Nat} (h : rd q = .ok (a, q')) : rdOn rd (n + 1) q acc = rdOn rd n q' (acc ++ [a]) := by
  simp only [rdOn, rdRep, thenR, h]
  cases rdRep rd n q' with
  | error e => rfl
  | ok p => simp
def rdP5 (l : List Nat) (i : Nat) : Except Nat (Int × Nat) := thenR (rdW l i 0 5) fun x q => .ok (((x : Nat) : Int), q)
def rdTr (l : List Nat) (i : Nat) : Except Nat (List Int × Nat) := thenR (rdC l i 64) fun n q => rdRep (rdP5 l) n q
def rdIs (l : List Nat) (i : Nat) : Except Nat (List (List Nat) × Nat) := thenR (rdC l i 16) fun n q => rdRep (rdI l) n q
theorem rdC_le {l : List Nat} {i m x q : Nat} (h : rdC l i m = .ok (x, q)) : x ≤ m := by
  unfold rdC thenR at h
  cases hn : rdN l i with
  | error e => rw [hn] at h; cases h
  | ok p =>
    rw [hn] at h
    dsimp only at h
    cases hd : decide (((m : Nat) : Int) < ((p.1 : Nat) : Int)) with
    | true => rw [hd] at h; cases h
    | false => rw [hd] at h; simp at h hd; omega
theorem addJ {o : Oper} {A : Act} {P : Program} (x y : Operand) (t2 : TypeId) (ho : o.op = .binOp .add 3 x y t2) (j : Nat) (hj : j < 1000) (hx : A.eval x = .int .i64 ((j : Nat) : Int)) (hy : A.eval y = .int .i64 1) (w : World) : (execOp A.eval o).run P w = .ok (.value (.int .i64 (((j + 1 : Nat)) : Int))) w :=
  run_add64 x y t2 ho ((j : Nat) : Int) 1 _ hx hy (by omega) (by omega) (by omega) w
set_option maxRecDepth 100000 in
set_option maxHeartbeats 4000000 in
theorem rdTrail (rb : Nat) (so : Option Addr) (sc : Nat) (l : List Nat) (i : Nat) (w : World) (krb : w.heap[rb]? = some (.cells (c123 ⟨so, l.length, sc⟩ (i : Int)) 117 (0, 0))) (HB : BS rb w so sc l) (hl : l.length ≤ 140737488355000) : Calls Try.prog 55 #[.pointer (some ⟨rb, 0, none⟩)] w (RdP rb so sc l.length w (rdTr l i) fun a v w' => ∃ ao cap, v = .slice ao a.length cap ∧ OX w' 3 1 w.heap.size ao cap a.length (a.map (Value.int .i64 ·))) := by
  refine s_enter Try.func55 rfl Try.ntmps55 [.pointer (some ⟨rb, 0, none⟩)] [.pointer (some ⟨rb, 0, none⟩), undef, undef, undef, undef, undef, undef, undef, undef, undef, undef, undef, undef, undef, undef] rfl ?_
  have GG := GroR.refl rb w
  have hrb := lt_of_heap krb
  refine wp_seq (wp_region_lit (mv 2 (.slice none 0 0) (wpList_nil (then_n (wp_seq (wp_region_lit (mv 3 (.slice none 0 0) (wpList_nil (then_n (wp_seq (wp_seq (wp_region_lit (mv 4 (.pointer (some ⟨rb, 0, none⟩)) ?_)))))))))))))
  simp only [z0, z1]
  obtain ⟨r1, hr1⟩ : ∃ r, rdC l i 64 = r := ⟨_, rfl⟩
  have HC := rdCount rb so sc l i 64 _ krb (HB.gror GG) hl
  rw [hr1] at HC
  rcases r1 with e | ⟨x1, i1⟩
  refine s_callp rfl _ 65 Try.call65 rfl rfl _ rfl [.pointer (some ⟨rb, 0, none⟩), .int .i64 64] rfl (rd_err HC) ?_
  intro w1 G
  replace GG := GG.trans G
  refine then_p (then_p ?_)
  refine post_p rfl ?_
  exact RdP.mk_err (by simp only [rdTr, hr1, thenR]) GG
  have sz1 := GG.size
  have ddrb1 := lt_of_heap krb
  refine s_callx 5 rfl rfl _ 65 Try.call65 rfl rfl _ rfl [.pointer (some ⟨rb, 0, none⟩), .int .i64 64] rfl (rd_ok HC) (fun _ _ ⟨_, he, _⟩ => ⟨_, he⟩) ?_
  rintro v w1 ⟨_, he, hv, G, kn⟩
  cases he
  replace GG := GG.trans G
  replace krb := kn
  clear HC kn
  subst hv
  clear G
  simp only [z0, z1]
  have hn1 := rdC_le hr1
  refine mv 6 (.int .i64 0) (wpList_nil (then_n (wp_block ?_)))
  refine wp_loopN (fun m a wr => ∃ (j q : Nat) (ao : Option Addr) (cap : Nat) (acc : List Int) (u7 u8 u9 u10 u11 u12 u13 : Value), m = x1 - j ∧ a = ⟨[.pointer (some ⟨rb, 0, none⟩), undef, .slice none 0 0, .slice ao j cap, .pointer (some ⟨rb, 0, none⟩), .int .i64 ((x1 : Nat) : Int), .int .i64 ((j : Nat) : Int), u7, u8, u9, u10, u11, u12, u13, undef].toArray, []⟩ ∧ j ≤ x1 ∧ Shut (rdRep (rdP5 l) x1 i1 = rdOn (rdP5 l) (x1 - j) q acc) ∧ acc.length = j ∧ GroR rb w wr ∧ wr.heap[rb]? = some (.cells (c123 ⟨so, l.length, sc⟩ (q : Int)) 117 (0, 0)) ∧ OX wr 3 1 w.heap.size ao cap j (acc.map (Value.int .i64 ·))) ?_ x1 ⟨0, i1, none, 0, [], undef, undef, undef, undef, undef, undef, undef, rfl, rfl, Nat.zero_le _, ⟨rdOn_start _ _ _⟩, rfl, GG, krb, OX.nil _ _ _ _⟩
  clear krb GG
  rintro m a wr ⟨j, q, ao, cap, acc, u7, u8, u9, u10, u11, u12, u13, rfl, rfl, hj, HS, hacc, GG, krb, OR⟩
  refine wp_seq (wp_region_lit ?_)
  obtain ⟨p1, hp1⟩ : ∃ p, decide (((j : Nat) : Int) < ((x1 : Nat) : Int)) = p := ⟨_, rfl⟩
  refine sv 7 (.bool p1) (run_lssT 3 _ _ _ rfl ((j : Nat) : Int) ((x1 : Nat) : Int) rfl rfl p1 hp1 _) ?_
  simp only [z0, z1]
  cases p1
  refine wpList_nil (then_n (wp_seq (wp_cond_false rfl (wp_exit (then_x (then_x (blk_x (then_n (wp_seq (wp_region_lit (mv 14 (.slice ao j cap) (mv 2 (.slice ao j cap) (wpList_nil (then_n (wp_ret ?_)))))))))))))))
  refine bodyPost_ret (results_tmp Try.results55 _ _ _) rfl ?_
  have ej : j = x1 := by have := of_decide_eq_false hp1; omega
  have HF : rdTr l i = .ok (acc, q) := by simp only [rdTr, hr1, thenR]; rw [HS.out, ej, Nat.sub_self, rdOn_zero]
  exact RdP.mk_ok (a := acc) HF GG (⟨ao, cap, by rw [hacc]; rfl, by rw [hacc]; exact OR⟩) krb
  refine wpList_nil (then_n (wp_seq (wp_cond_true rfl (wp_skip (then_n (wp_seq (wp_block (wp_region_lit (mv 8 (.slice ao j cap) ?_)))))))))
  simp only [z0, z1]
  refine mv 9 (.pointer (some ⟨rb, 0, none⟩)) ?_
  simp only [z0, z1]
  obtain ⟨r2, hr2⟩ : ∃ r, rdW l q 0 5 = r := ⟨_, rfl⟩
  have HC := rdWith rb so sc l q 0 5 _ krb (HB.gror GG) hl
  rw [hr2] at HC
  rcases r2 with e | ⟨x2, i2⟩
  refine s_callp rfl _ 58 Try.call58 rfl rfl _ rfl [.pointer (some ⟨rb, 0, none⟩), .int .i64 0, .int .i64 5] rfl (rd_err HC) ?_
  intro w2 G
  replace GG := GG.trans G
  refine blk_p (then_p (then_p (blk_p (then_p ?_))))
  refine post_p rfl ?_
  exact RdP.mk_err (by simp only [rdTr, hr1, thenR]; rw [HS.out, show x1 - j = (x1 - j - 1) + 1 by have hjx := of_decide_eq_true hp1; omega]; exact rdOn_err _ _ _ _ (by simp only [rdP5, hr2, thenR])) GG
  have sz2 := GG.size
  have ddrb2 := lt_of_heap krb
  refine s_callx 10 rfl rfl _ 58 Try.call58 rfl rfl _ rfl [.pointer (some ⟨rb, 0, none⟩), .int .i64 0, .int .i64 5] rfl (rd_ok HC) (fun _ _ ⟨_, he, _⟩ => ⟨_, he⟩) ?_
  rintro v w2 ⟨_, he, hv, G, kn⟩
  cases he
  replace OR := ox_gror OR G (by omega)
  replace GG := GG.trans G
  replace krb := kn
  clear HC kn
  subst hv
  clear G
  refine s_bsl 11 rfl rfl 32 1 _ rfl [(0, .int .i64 ((x2 : Nat) : Int))] rfl #[.int .i64 ((x2 : Nat) : Int)] 3 (by kernel_rfl) ?_
  intro w3 gb1 G egb1 kgb1
  replace krb := G.has krb
  replace OR := OR.gro G
  replace GG := GG.tg G
  clear G
  simp only [z0, z1]
  have XB : XC w3 1 (some ⟨gb1, 0, none⟩) 1 1 ([.int .i64 ((x2 : Nat) : Int)]) := xc_made kgb1 rfl (by intro v hv; simp at hv; subst hv; rfl)
  refine s_appX iT28 12 rfl rfl _ _ rfl rfl OR rfl XB (show (j + 1) * 8 ≤ 140737488355328 by omega) (by decide) GG.size ?_
  intro ao2 cap2 w4 OR2 B2
  replace krb := (B2.block rb hrb).trans krb
  replace GG := GG.bl B2
  clear B2 XB
  refine mv 3 (.slice ao2 (j + 1) cap2) (wpList_nil (blk_n (then_n (wp_region_lit (sv 13 (.int .i64 ((j + 1 : Nat) : Int)) (addJ _ _ _ rfl j (by omega) rfl rfl _) ?_)))))
  simp only [z0, z1]
  refine mv 6 (.int .i64 ((j + 1 : Nat) : Int)) (wpList_nil (then_n ?_))
  have hjx := of_decide_eq_true hp1
  exact ⟨x1 - (j + 1), by omega, j + 1, i2, ao2, cap2, acc ++ [((x2 : Nat) : Int)], _, _, _, _, _, _, _, rfl, rfl, by omega, ⟨by rw [HS.out, show x1 - j = (x1 - (j + 1)) + 1 by omega]; exact rdOn_ok _ _ _ _ (by simp only [rdP5, hr2, thenR])⟩, by simp [hacc], GG, krb, by have := OR2; rw [List.map_append]; exact this⟩
theorem cellsI_snoc (l : List (List Nat)) (x : List Nat) : cellsI (l ++ [x]) = cellsI l ++ bL x := by simp [cellsI]
set_option maxRecDepth 100000 in
set_option maxHeartbeats 4000000 in
theorem rdIDs (rb : Nat) (so : Option Addr) (sc : Nat) (l : List Nat) (i : Nat) (w : World) (krb : w.heap[rb]? = some (.cells (c123 ⟨so, l.length, sc⟩ (i : Int)) 117 (0, 0))) (HB : BS rb w so sc l) (hl : l.length ≤ 140737488355000) : Calls Try.prog 57 #[.pointer (some ⟨rb, 0, none⟩)] w (RdP rb so sc l.length w (rdIs l i) fun a v w' => (∃ ao cap, v = .slice ao a.length cap ∧ OX w' 27 16 w.heap.size ao cap a.length (cellsI a)) ∧ ∀ x ∈ a, x.length = 16) := by
  refine s_enter Try.func57 rfl Try.ntmps57 [.pointer (some ⟨rb, 0, none⟩)] [.pointer (some ⟨rb, 0, none⟩), undef, undef, undef, undef, undef, undef, undef, undef, undef, undef, undef, undef, undef, undef] rfl ?_
  have GG := GroR.refl rb w
  have hrb := lt_of_heap krb
  refine wp_seq (wp_region_lit (mv 2 (.slice none 0 0) (wpList_nil (then_n (wp_seq (wp_region_lit (mv 3 (.slice none 0 0) (wpList_nil (then_n (wp_seq (wp_seq (wp_region_lit (mv 4 (.pointer (some ⟨rb, 0, none⟩)) ?_)))))))))))))
  simp only [z0, z1]
  obtain ⟨r1, hr1⟩ : ∃ r, rdC l i 16 = r := ⟨_, rfl⟩
  have HC := rdCount rb so sc l i 16 _ krb (HB.gror GG) hl
  rw [hr1] at HC
  rcases r1 with e | ⟨x1, i1⟩
  refine s_callp rfl _ 65 Try.call65 rfl rfl _ rfl [.pointer (some ⟨rb, 0, none⟩), .int .i64 16] rfl (rd_err HC) ?_
  intro w1 G
  replace GG := GG.trans G
  refine then_p (then_p ?_)
  refine post_p rfl ?_
  exact RdP.mk_err (by simp only [rdIs, hr1, thenR]) GG
  have sz1 := GG.size
  have ddrb1 := lt_of_heap krb
  refine s_callx 5 rfl rfl _ 65 Try.call65 rfl rfl _ rfl [.pointer (some ⟨rb, 0, none⟩), .int .i64 16] rfl (rd_ok HC) (fun _ _ ⟨_, he, _⟩ => ⟨_, he⟩) ?_
  rintro v w1 ⟨_, he, hv, G, kn⟩
  cases he
  replace GG := GG.trans G
  replace krb := kn
  clear HC kn
  subst hv
  clear G
  simp only [z0, z1]
  have hn1 := rdC_le hr1
  refine mv 6 (.int .i64 0) (wpList_nil (then_n (wp_block ?_)))
  refine wp_loopN (fun m a wr => ∃ (j q : Nat) (ao : Option Addr) (cap : Nat) (acc : List (List Nat)) (u7 u8 u9 u10 u11 u12 u13 : Value), m = x1 - j ∧ a = ⟨[.pointer (some ⟨rb, 0, none⟩), undef, .slice none 0 0, .slice ao j cap, .pointer (some ⟨rb, 0, none⟩), .int .i64 ((x1 : Nat) : Int), .int .i64 ((j : Nat) : Int), u7, u8, u9, u10, u11, u12, u13, undef].toArray, []⟩ ∧ j ≤ x1 ∧ Shut (rdRep (rdI l) x1 i1 = rdOn (rdI l) (x1 - j) q acc) ∧ acc.length = j ∧ (∀ x ∈ acc, x.length = 16) ∧ GroR rb w wr ∧ wr.heap[rb]? = some (.cells (c123 ⟨so, l.length, sc⟩ (q : Int)) 117 (0, 0)) ∧ OX wr 27 16 w.heap.size ao cap j (cellsI acc)) ?_ x1 ⟨0, i1, none, 0, [], undef, undef, undef, undef, undef, undef, undef, rfl, rfl, Nat.zero_le _, ⟨rdOn_start _ _ _⟩, rfl, (by intro x hx; cases hx), GG, krb, OX.nil _ _ _ _⟩
  clear krb GG
  rintro m a wr ⟨j, q, ao, cap, acc, u7, u8, u9, u10, u11, u12, u13, rfl, rfl, hj, HS, hacc, h16, GG, krb, OR⟩
  refine wp_seq (wp_region_lit ?_)
  obtain ⟨p1, hp1⟩ : ∃ p, decide (((j : Nat) : Int) < ((x1 : Nat) : Int)) = p := ⟨_, rfl⟩
  refine sv 7 (.bool p1) (run_lssT 3 _ _ _ rfl ((j : Nat) : Int) ((x1 : Nat) : Int) rfl rfl p1 hp1 _) ?_
  simp only [z0, z1]
  cases p1
  refine wpList_nil (then_n (wp_seq (wp_cond_false rfl (wp_exit (then_x (then_x (blk_x (then_n (wp_seq (wp_region_lit (mv 14 (.slice ao j cap) (mv 2 (.slice ao j cap) (wpList_nil (then_n (wp_ret ?_)))))))))))))))
  refine bodyPost_ret (results_tmp Try.results57 _ _ _) rfl ?_
  have ej : j = x1 := by have := of_decide_eq_false hp1; omega
  have HF : rdIs l i = .ok (acc, q) := by simp only [rdIs, hr1, thenR]; rw [HS.out, ej, Nat.sub_self, rdOn_zero]
  exact RdP.mk_ok (a := acc) HF GG (⟨⟨ao, cap, by rw [hacc]; rfl, by rw [hacc]; exact OR⟩, h16⟩) krb
  refine wpList_nil (then_n (wp_seq (wp_cond_true rfl (wp_skip (then_n (wp_seq (wp_block (wp_region_lit (mv 8 (.slice ao j cap) ?_)))))))))
  simp only [z0, z1]
  refine mv 9 (.pointer (some ⟨rb, 0, none⟩)) ?_
  simp only [z0, z1]
  obtain ⟨r2, hr2⟩ : ∃ r, rdI l q = r := ⟨_, rfl⟩
  have HC := rdID rb so sc l q _ krb (HB.gror GG) hl
  rw [hr2] at HC
  rcases r2 with e | ⟨x2, i2⟩
  refine s_callp rfl _ 52 Try.call52 rfl rfl _ rfl [.pointer (some ⟨rb, 0, none⟩)] rfl (rd_err HC) ?_
  intro w2 G
  replace GG := GG.trans G
  refine blk_p (then_p (then_p (blk_p (then_p ?_))))
  refine post_p rfl ?_
  exact RdP.mk_err (by simp only [rdIs, hr1, thenR]; rw [HS.out, show x1 - j = (x1 - j - 1) + 1 by have hjx := of_decide_eq_true hp1; omega]; exact rdOn_err _ _ _ _ (hr2)) GG
  have sz2 := GG.size
  have ddrb2 := lt_of_heap krb
  refine s_callx 10 rfl rfl _ 52 Try.call52 rfl rfl _ rfl [.pointer (some ⟨rb, 0, none⟩)] rfl (rd_ok HC) (fun _ _ ⟨_, he, _⟩ => ⟨_, he⟩) ?_
  rintro v w2 ⟨_, he, hv, G, kn⟩
  cases he
  replace OR := ox_gror OR G (by omega)
  replace GG := GG.trans G
  replace krb := kn
  clear HC kn
  obtain ⟨rfl, h16x2⟩ := hv
  clear G
  refine s_bsl 11 rfl rfl 33 1 _ rfl [(0, .agg (c23 (idF x2)))] rfl (c23 (idF x2)) 27 (by kernel_rfl) ?_
  intro w3 gb1 G egb1 kgb1
  replace krb := G.has krb
  replace OR := OR.gro G
  replace GG := GG.tg G
  clear G
  simp only [z0, z1]
  have XB : XC w3 16 (some ⟨gb1, 0, none⟩) 1 1 (bL x2) := (by have := xc_made (sz := 16) (n := 1) (cs := bL x2) (t := 27) (by rw [kgb1, ← bA_c23 h16x2]; rfl) (by simp [bL, h16x2]) (by intro v hv; obtain ⟨r, _, rfl⟩ := List.mem_map.1 hv; rfl); exact this)
  refine s_appX iT29 12 rfl rfl _ _ rfl rfl OR rfl XB (show (j + 1) * 16 ≤ 140737488355328 by omega) (by decide) GG.size ?_
  intro ao2 cap2 w4 OR2 B2
  replace krb := (B2.block rb hrb).trans krb
  replace GG := GG.bl B2
  clear B2 XB
  refine mv 3 (.slice ao2 (j + 1) cap2) (wpList_nil (blk_n (then_n (wp_region_lit (sv 13 (.int .i64 ((j + 1 : Nat) : Int)) (addJ _ _ _ rfl j (by omega) rfl rfl _) ?_)))))
  simp only [z0, z1]
  refine mv 6 (.int .i64 ((j + 1 : Nat) : Int)) (wpList_nil (then_n ?_))
  have hjx := of_decide_eq_true hp1
  exact ⟨x1 - (j + 1), by omega, j + 1, i2, ao2, cap2, acc ++ [x2], _, _, _, _, _, _, _, rfl, rfl, by omega, ⟨by rw [HS.out, show x1 - j = (x1 - (j + 1)) + 1 by omega]; exact rdOn_ok _ _ _ _ (hr2)⟩, by simp [hacc], (by intro x hx; rcases List.mem_append.1 hx with hx | hx; exact h16 x hx; simp at hx; subst hx; exact h16x2), GG, krb, by have := OR2; rw [cellsI_snoc]; exact this⟩
end Go.Proofs.Ythmcnlmphikicab
