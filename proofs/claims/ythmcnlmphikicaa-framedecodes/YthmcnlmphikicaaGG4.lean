/- What was laid is read as it was, with whatever ahead and behind it; cut off, it ends too early. -/
import Derived.Test.YthmcnlmphikicaaGR7
import Derived.Test.YthmcnlmphikicaaGG1
import Derived.Test.YthmcnlmphikicaaGG3
namespace Go.Proofs.Ythmcnlmphikicaa
open Go.RowKit
structure Lay {α : Type} (R : List Nat → Nat → Except Nat (α × Nat)) (E : List Nat) (a : α) : Prop where
  ok : ∀ pre post, R (pre ++ (E ++ post)) pre.length = .ok (a, pre.length + E.length)
  cut : ∀ pre c, c < E.length → R (pre ++ E.take c) pre.length = .error 3
theorem Lay.bind {α β : Type} {R : List Nat → Nat → Except Nat (α × Nat)} {F : α → List Nat → Nat → Except Nat (β × Nat)} {E E2 : List Nat} {a : α} {b : β} (h : Lay R E a) (k : Lay (F a) E2 b) : Lay (fun l i => thenR (R l i) fun x q => F x l q) (E ++ E2) b := by
  refine ⟨fun pre post => ?_, fun pre c hc => ?_⟩
  · have h1 := h.ok pre (E2 ++ post)
    have h2 := k.ok (pre ++ E) post
    show thenR (R (pre ++ ((E ++ E2) ++ post)) pre.length) _ = _
    rw [List.append_assoc E, h1]
    show F a (pre ++ (E ++ (E2 ++ post))) (pre.length + E.length) = _
    rw [List.append_assoc, List.length_append] at h2
    rw [h2, List.length_append, Nat.add_assoc]
  · show thenR (R (pre ++ (E ++ E2).take c) pre.length) _ = _
    by_cases hlt : c < E.length
    · rw [List.take_append_of_le_length (Nat.le_of_lt hlt), h.cut pre c hlt]
      rfl
    · have e : (E ++ E2).take c = E ++ E2.take (c - E.length) := by
        rw [List.take_append, List.take_of_length_le (by omega)]
      rw [e, h.ok pre _]
      show F a (pre ++ (E ++ E2.take (c - E.length))) (pre.length + E.length) = _
      have h2 := k.cut (pre ++ E) (c - E.length) (by rw [List.length_append] at hc; omega)
      rw [List.append_assoc, List.length_append] at h2
      exact h2
theorem Lay.pure {β : Type} (b : β) : Lay (fun _ q => .ok (b, q)) [] b := ⟨fun _ _ => rfl, fun _ _ h => by cases h⟩
theorem Lay.map {α β : Type} {R : List Nat → Nat → Except Nat (α × Nat)} {E : List Nat} {a : α} (h : Lay R E a) (g : α → β) : Lay (fun l i => thenR (R l i) fun x q => .ok (g x, q)) E (g a) := by
  have := h.bind (F := fun x _ q => .ok (g x, q)) (Lay.pure (g a))
  rwa [List.append_nil] at this
end Go.Proofs.Ythmcnlmphikicaa
namespace Go.Proofs.Ythmcnlmphikicaa
open Go.RowKit
theorem AP.frs {w : World} {f : Fr} {d : FD} (h : FrW w f d) (hs : d.tr.length ≤ 17592186044416 ∧ d.ids.length ≤ 8796093022208 ∧ d.val.length ≤ 140737488355328 ∧ d.tx.length ≤ 140737488355328) : FrS f :=
  ⟨⟨by rw [h.trn]; omega⟩, ⟨by rw [h.idn]; omega⟩, ⟨by rw [h.valn]; omega⟩, ⟨by rw [h.txn]; omega⟩⟩
def DecP (w : World) (l : List Nat) (e : Ending) (w' : World) : Prop :=
  Gro w w' ∧ match decE l with
    | .error x => e = .returned (.tuple #[.agg (frA Fr.zero), .int .i64 (x : Int)])
    | .ok a => ∃ g : Fr, e = .returned (.tuple #[.agg (frA g), .int .i64 0]) ∧ (∃ s1 s2 s3 s4 : Sl, g = { bare a.1 a.2.1 with kind := (a.1 : Int), tr := s1, ids := s2, val := s3, tx := s4 }) ∧ FrO w' w.heap.size g (bareD a.1 a.2.2)
theorem ap_ex {f : FuncId} {args : Array Value} {w : World} {g : Fr} {d : FD} (H : Calls Try.prog f args w (AP w g d fun f => .agg (frA f))) : Calls Try.prog f args w fun e w' => ∃ gg : Fr, e = .returned (.agg (frA gg)) ∧ (∃ t1 t2 t3 t4 : Sl, gg = { g with tr := t1, ids := t2, val := t3, tx := t4 }) ∧ FrO w' w.heap.size gg d ∧ Gro w w' :=
  H.mono fun _ _ ⟨t1, t2, t3, t4, he, HO, G⟩ => ⟨_, he, ⟨t1, t2, t3, t4, rfl⟩, HO, G⟩
theorem bare_slices (k : Nat) (h1 : 1 ≤ k) (h2 : k ≤ 12) (f : Fr) (s1 s2 s3 s4 t1 t2 t3 t4 : Sl) (n : Int) : ({ bare k { f with tr := s1, ids := s2, val := s3, tx := s4 } with kind := n, tr := t1, ids := t2, val := t3, tx := t4 } : Fr) = { bare k f with kind := n, tr := t1, ids := t2, val := t3, tx := t4 } := by
  rcases is12 h1 h2 with rfl | rfl | rfl | rfl | rfl | rfl | rfl | rfl | rfl | rfl | rfl | rfl <;> rfl
set_option maxRecDepth 100000 in
set_option maxHeartbeats 4000000 in
theorem decode_E (so : Option Addr) (sc : Nat) (l : List Nat) (w : World) (H : NC w .u8 so sc l) (hl : l.length ≤ 140737488355000) (x : Nat) (hx : x ≠ 0) (hD : decE l = .error x) : Calls Try.prog 14 #[.slice so l.length sc] w (DecP w l) := by
  refine s_enter Try.func14 rfl Try.ntmps14 [.slice so l.length sc] [.slice so l.length sc, undef, undef, undef, undef, undef, undef, undef, undef, undef, undef, undef, undef, undef, undef, undef, undef] rfl ?_
  have GG := Gro.refl w
  refine wp_seq (wp_region_lit ?_)
  refine s_alloc 2 rfl rfl 36 rfl _ zv36 _ rfl ?_
  intro w1 g1 G eg1 kg1
  have bg1 := size_base GG eg1
  replace GG := GG.trans G
  clear G eg1
  refine mv 3 (.int .i64 0) (wpList_nil (then_n (wp_seq (wp_region_lit (mv 7 (.slice so l.length sc) ?_)))))
  simp only [z0, z1]
  have szr := GG.size
  have drg1 := lt_of_heap kg1
  have HC := read_any so sc l _ (H.gro GG) hl
  unfold ReadP at HC
  rw [hD] at HC
  refine s_callx 8 rfl rfl _ 30 Try.call30 rfl rfl _ rfl [.slice so l.length sc] rfl HC (fun _ _ ⟨_, he⟩ => ⟨_, he⟩) ?_
  rintro v w2 ⟨G, he⟩
  cases he
  replace kg1 := G.has kg1
  replace GG := GG.trans G
  clear G
  clear HC
  refine mv 6 (.tuple #[.nilIface, .int .i64 ((x : Nat) : Int)]) (mv 9 (.nilIface) (mv 10 (.int .i64 ((x : Nat) : Int)) (mv 4 (.nilIface) ?_)))
  simp only [z0, z1]
  refine mv 5 (.int .i64 ((x : Nat) : Int)) (wpList_nil (then_n (wp_seq (wp_seq (wp_region_lit (mv 11 (.int .i64 ((x : Nat) : Int)) (sv 12 (.bool true) (run_neqT 38 .i64 _ _ _ rfl Try.underlying38 _ _ rfl rfl (decide_eq_false (by omega)) _) (wpList_nil (then_n (wp_cond_true rfl (wp_seq (wp_region_lit (sv 13 (.agg (c36 0 zF 0 false zF zF 0 0 0 0 0 Sl.nil Sl.nil zF 0 zF Sl.nil 0 0 Sl.nil)) (run_bd 36 _ rfl [] rfl _ (by kernel_rfl)) (mv 14 (.int .i64 ((x : Nat) : Int)) ?_))))))))))))))
  simp only [z0, z1]
  refine s_store rfl rfl 36 _ _ rfl g1 0 rfl (.agg (c36 0 zF 0 false zF zF 0 0 0 0 0 Sl.nil Sl.nil zF 0 zF Sl.nil 0 0 Sl.nil)) rfl 36 _ kg1 (c36 0 zF 0 false zF zF 0 0 0 0 0 Sl.nil Sl.nil zF 0 zF Sl.nil 0 0 Sl.nil) rfl (by kernel_rfl) (Nat.le_of_ble_eq_true rfl) (by kernel_rfl) (c36 0 zF 0 false zF zF 0 0 0 0 0 Sl.nil Sl.nil zF 0 zF Sl.nil 0 0 Sl.nil) (by kernel_rfl) ?_
  intro w4 S
  replace GG := GG.store S bg1
  replace kg1 := S.new
  clear S
  refine mv 3 (.int .i64 ((x : Nat) : Int)) (wpList_nil (then_n (wp_ret (then_r ?_))))
  refine bodyPost_ret (results_cell_tmp Try.results14 _ _ g1 36 _ (0, 0) _ rfl (.int .i64 ((x : Nat) : Int)) rfl kg1 Try.underlying36 rfl (by kernel_rfl)) rfl ?_
  unfold DecP
  rw [hD]
  exact ⟨GG, rfl⟩
set_option maxRecDepth 100000 in
set_option maxHeartbeats 4000000 in
theorem decode_OK (so : Option Addr) (sc : Nat) (l : List Nat) (w : World) (H : NC w .u8 so sc l) (hl : l.length ≤ 140737488355000) (a : Nat × Fr × FD) (hD : decE l = .ok a) (hs : a.2.2.tr.length ≤ 17592186044416 ∧ a.2.2.ids.length ≤ 8796093022208 ∧ a.2.2.val.length ≤ 140737488355328 ∧ a.2.2.tx.length ≤ 140737488355328) : Calls Try.prog 14 #[.slice so l.length sc] w (DecP w l) := by
  refine s_enter Try.func14 rfl Try.ntmps14 [.slice so l.length sc] [.slice so l.length sc, undef, undef, undef, undef, undef, undef, undef, undef, undef, undef, undef, undef, undef, undef, undef, undef] rfl ?_
  have GG := Gro.refl w
  refine wp_seq (wp_region_lit ?_)
  refine s_alloc 2 rfl rfl 36 rfl _ zv36 _ rfl ?_
  intro w1 g1 G eg1 kg1
  have bg1 := size_base GG eg1
  replace GG := GG.trans G
  clear G eg1
  refine mv 3 (.int .i64 0) (wpList_nil (then_n (wp_seq (wp_region_lit (mv 7 (.slice so l.length sc) ?_)))))
  simp only [z0, z1]
  have szr := GG.size
  have drg1 := lt_of_heap kg1
  have HC := read_any so sc l _ (H.gro GG) hl
  unfold ReadP at HC
  rw [hD] at HC
  refine s_callx 8 rfl rfl _ 30 Try.call30 rfl rfl _ rfl [.slice so l.length sc] rfl HC (fun _ _ ⟨_, _, he, _⟩ => ⟨_, he⟩) ?_
  rintro v w2 ⟨G, v1, he, s1, s2, s3, s4, hv, HB, h1, h2⟩
  cases he
  obtain ⟨tb, vb, hbb⟩ := bodyV_if a.1 h1 h2 { a.2.1 with tr := s1, ids := s2, val := s3, tx := s4 }
  rw [hbb] at hv
  subst hv
  replace kg1 := G.has kg1
  replace GG := GG.trans G
  clear G
  clear HC
  refine mv 6 (.tuple #[.iface tb (vb), .int .i64 0]) (mv 9 (.iface tb (vb)) (mv 10 (.int .i64 0) (mv 4 (.iface tb (vb)) ?_)))
  simp only [z0, z1]
  refine mv 5 (.int .i64 0) (wpList_nil (then_n (wp_seq (wp_seq (wp_region_lit (mv 11 (.int .i64 0) (sv 12 (.bool false) (run_neq_k 38 .i64 _ _ _ rfl Try.underlying38 _ _ rfl rfl false rfl _) (wpList_nil (then_n (wp_cond_false rfl (wp_skip (then_n (wp_seq (wp_region_lit (mv 15 (.iface tb (vb)) ?_)))))))))))))))
  simp only [z0, z1]
  have szp := GG.size
  have dpg1 := lt_of_heap kg1
  have HC := plain_any a.1 h1 h2 _ a.2.2 _ HB.frw (AP.frs HB.frw hs)
  rw [hbb] at HC
  refine s_callx 16 rfl rfl _ 20 Try.call20 rfl rfl _ rfl [.iface tb (vb)] rfl (ap_ex HC) (fun _ _ ⟨_, he, _⟩ => ⟨_, he⟩) ?_
  rintro v w3 ⟨gg, he, ⟨t1, t2, t3, t4, hgg⟩, HO, G⟩
  cases he
  replace kg1 := G.has kg1
  replace GG := GG.trans G
  clear G
  clear HC
  refine s_store rfl rfl 36 _ _ rfl g1 0 rfl (.agg (c36 gg.kind gg.pw gg.pn gg.toA gg.a gg.b gg.n gg.fi gg.fn gg.ti gg.tn gg.tr gg.ids gg.key gg.vn gg.vw gg.val gg.op gg.ttl gg.tx)) rfl 36 _ kg1 (c36 gg.kind gg.pw gg.pn gg.toA gg.a gg.b gg.n gg.fi gg.fn gg.ti gg.tn gg.tr gg.ids gg.key gg.vn gg.vw gg.val gg.op gg.ttl gg.tx) rfl (by kernel_rfl) (Nat.le_of_ble_eq_true rfl) (by kernel_rfl) (c36 gg.kind gg.pw gg.pn gg.toA gg.a gg.b gg.n gg.fi gg.fn gg.ti gg.tn gg.tr gg.ids gg.key gg.vn gg.vw gg.val gg.op gg.ttl gg.tx) (by kernel_rfl) ?_
  intro w5 S
  replace GG := GG.store S bg1
  replace kg1 := S.new
  replace HO := HO.apart S (by omega)
  clear S
  refine mv 3 (.int .i64 0) (wpList_nil (then_n (wp_ret ?_)))
  refine bodyPost_ret (results_cell_tmp Try.results14 _ _ g1 36 _ (0, 0) _ rfl (.int .i64 0) rfl kg1 Try.underlying36 rfl (by kernel_rfl)) rfl ?_
  unfold DecP
  rw [hD]
  exact ⟨GG, gg, rfl, ⟨t1, t2, t3, t4, by rw [hgg]; exact bare_slices a.1 h1 h2 a.2.1 s1 s2 s3 s4 t1 t2 t3 t4 _⟩, HO.mono szp⟩
end Go.Proofs.Ythmcnlmphikicaa
namespace Go.Proofs.Ythmcnlmphikicaa
open Go.RowKit
set_option maxRecDepth 100000 in
set_option maxHeartbeats 4000000 in
theorem right_gen (b : Value) (g : Fr) (dd : FD) (ob : Bool) (w : World) (Hf : ∀ w, Calls Try.prog 36 #[b] w fun e w' => e = .returned (.tuple #[.agg (c36 g.kind g.pw g.pn g.toA g.a g.b g.n g.fi g.fn g.ti g.tn g.tr g.ids g.key g.vn g.vw g.val g.op g.ttl g.tx), .bool true]) ∧ Gro w w') (Ho : ∀ w, Calls Try.prog 39 #[b] w fun e w' => e = .returned (.bool ob) ∧ Gro w w') (HW : FrW w g dd) (hl : dd.tr.length ≤ 140737488355000) : Calls Try.prog 18 #[b] w fun e w' => e = .returned (.bool (rightB g dd ob)) ∧ Gro w w' := by
  refine s_enterR Try.func18 rfl Try.ntmps18 [b] ?_
  intro U h; simp only [List.length_cons, List.length_nil, List.cons_append, List.nil_append, Nat.reduceAdd, Nat.reduceSub, List.reduceReplicate] at h; subst h
  have GG := Gro.refl w
  refine wp_seq (wp_region_lit (mv 2 (.bool false) (wpList_nil (then_n (wp_seq (wp_region_lit (mv 6 (b) ?_)))))))
  refine s_callv 7 rfl rfl _ 36 Try.call36 rfl rfl _ rfl [b] rfl (Hf _) ?_
  intro w1 G
  replace GG := GG.trans G
  clear G
  refine mv 5 (.tuple #[.agg (c36 g.kind g.pw g.pn g.toA g.a g.b g.n g.fi g.fn g.ti g.tn g.tr g.ids g.key g.vn g.vw g.val g.op g.ttl g.tx), .bool true]) (mv 8 (.agg (c36 g.kind g.pw g.pn g.toA g.a g.b g.n g.fi g.fn g.ti g.tn g.tr g.ids g.key g.vn g.vw g.val g.op g.ttl g.tx)) ?_)
  simp only [z0, z1]
  refine mv 9 (.bool true) ?_
  refine s_alloc 3 rfl rfl 36 rfl _ zv36 _ rfl ?_
  intro w2 g1 G eg1 kg1
  have bg1 := size_base GG eg1
  replace GG := GG.trans G
  clear G eg1
  refine s_store rfl rfl 36 _ _ rfl g1 0 rfl (.agg (c36 g.kind g.pw g.pn g.toA g.a g.b g.n g.fi g.fn g.ti g.tn g.tr g.ids g.key g.vn g.vw g.val g.op g.ttl g.tx)) rfl 36 _ kg1 (c36 g.kind g.pw g.pn g.toA g.a g.b g.n g.fi g.fn g.ti g.tn g.tr g.ids g.key g.vn g.vw g.val g.op g.ttl g.tx) rfl (by kernel_rfl) (Nat.le_of_ble_eq_true rfl) (by kernel_rfl) (c36 g.kind g.pw g.pn g.toA g.a g.b g.n g.fi g.fn g.ti g.tn g.tr g.ids g.key g.vn g.vw g.val g.op g.ttl g.tx) (by kernel_rfl) ?_
  intro w4 S
  replace GG := GG.store S bg1
  replace kg1 := S.new
  clear S
  refine mv 4 (.bool true) (wpList_nil (then_n (wp_seq (wp_region_lit (mv 10 (.bool true) (mv 11 (.bool true) ?_))))))
  simp only [z0, z1]
  refine s_gval 12 rfl rfl (.agg (c36 g.kind g.pw g.pn g.toA g.a g.b g.n g.fi g.fn g.ti g.tn g.tr g.ids g.key g.vn g.vw g.val g.op g.ttl g.tx)) (run_lda 36 _ rfl g1 0 95 rfl 36 _ kg1 _ Try.underlying36 rfl si36 _) ?_
  simp only [z0, z1]
  obtain ⟨p1, hp1⟩ : ∃ p, numB g = p := ⟨_, rfl⟩
  have HC := numbersRight_any g w4
  rw [hp1] at HC
  refine s_gcallv 13 rfl rfl _ 37 Try.call37 rfl rfl _ rfl [.agg (c36 g.kind g.pw g.pn g.toA g.a g.b g.n g.fi g.fn g.ti g.tn g.tr g.ids g.key g.vn g.vw g.val g.op g.ttl g.tx)] rfl (HC) ?_
  intro w5 G
  replace kg1 := G.has kg1
  replace GG := GG.trans G
  clear G
  simp only [z0, z1]
  clear HC
  cases p1
  refine s_val _ rfl rfl (.bool false) rfl ?_
  refine s_val _ rfl rfl (.bool false) rfl ?_
  simp only [z0, z1]
  iterate 2 (refine s_skip _ rfl rfl ?_; simp only [z0, z1])
  refine s_val _ rfl rfl (.bool false) rfl ?_
  refine s_val _ rfl rfl (.bool false) rfl ?_
  simp only [z0, z1]
  iterate 2 (refine s_skip _ rfl rfl ?_; simp only [z0, z1])
  refine s_val _ rfl rfl (.bool false) rfl ?_
  refine s_val _ rfl rfl (.bool false) rfl ?_
  refine wpList_nil (then_n (wp_ret ?_))
  refine bodyPost_ret (results_tmp Try.results18 _ _ _) rfl ?_
  refine ⟨?_, GG⟩
  show Ending.returned (.bool false) = _
  unfold rightB
  rw [hp1]
  first | done | rfl
  refine mv 14 (.bool true) (mv 15 (.bool true) (s_gval 16 rfl rfl (.agg (c36 g.kind g.pw g.pn g.toA g.a g.b g.n g.fi g.fn g.ti g.tn g.tr g.ids g.key g.vn g.vw g.val g.op g.ttl g.tx)) (run_lda 36 _ rfl g1 0 95 rfl 36 _ kg1 _ Try.underlying36 rfl si36 _) ?_))
  simp only [z0, z1]
  obtain ⟨p2, hp2⟩ : ∃ p, listB g dd = p := ⟨_, rfl⟩
  have HC := listsRight_any g dd _ (HW.gro GG) hl
  rw [hp2] at HC
  refine s_gcallv 17 rfl rfl _ 38 Try.call38 rfl rfl _ rfl [.agg (c36 g.kind g.pw g.pn g.toA g.a g.b g.n g.fi g.fn g.ti g.tn g.tr g.ids g.key g.vn g.vw g.val g.op g.ttl g.tx)] rfl (HC) ?_
  intro w6 G
  replace kg1 := G.has kg1
  replace GG := GG.trans G
  clear G
  simp only [z0, z1]
  clear HC
  cases p2
  refine s_val _ rfl rfl (.bool false) rfl ?_
  refine s_val _ rfl rfl (.bool false) rfl ?_
  simp only [z0, z1]
  iterate 2 (refine s_skip _ rfl rfl ?_; simp only [z0, z1])
  refine s_val _ rfl rfl (.bool false) rfl ?_
  refine s_val _ rfl rfl (.bool false) rfl ?_
  refine wpList_nil (then_n (wp_ret ?_))
  refine bodyPost_ret (results_tmp Try.results18 _ _ _) rfl ?_
  refine ⟨?_, GG⟩
  show Ending.returned (.bool false) = _
  unfold rightB
  rw [hp1, hp2]
  first | done | rfl
  refine mv 18 (.bool true) (mv 19 (.bool true) (s_gval 20 rfl rfl (b) (rfl) ?_))
  simp only [z0, z1]
  obtain ⟨p3, hp3⟩ : ∃ p, ob = p := ⟨_, rfl⟩
  have HC := Ho w6
  rw [hp3] at HC
  refine s_gcallv 21 rfl rfl _ 39 Try.call39 rfl rfl _ rfl [b] rfl (HC) ?_
  intro w7 G
  replace kg1 := G.has kg1
  replace GG := GG.trans G
  clear G
  simp only [z0, z1]
  clear HC
  cases p3
  refine s_val _ rfl rfl (.bool false) rfl ?_
  refine s_val _ rfl rfl (.bool false) rfl ?_
  refine wpList_nil (then_n (wp_ret ?_))
  refine bodyPost_ret (results_tmp Try.results18 _ _ _) rfl ?_
  refine ⟨?_, GG⟩
  show Ending.returned (.bool false) = _
  unfold rightB
  rw [hp1, hp2, hp3]
  first | done | rfl
  refine mv 22 (.bool true) (mv 2 (.bool true) (wpList_nil (then_n (wp_ret ?_))))
  refine bodyPost_ret (results_tmp Try.results18 _ _ _) rfl ?_
  refine ⟨?_, GG⟩
  show Ending.returned (.bool true) = _
  unfold rightB
  rw [hp1, hp2, hp3]
  first | done | rfl
end Go.Proofs.Ythmcnlmphikicaa
