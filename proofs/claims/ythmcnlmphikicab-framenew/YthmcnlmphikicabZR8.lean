/- A frame that is read (frame.Decode). -/
import Derived.Test.YthmcnlmphikicabZR7
import Derived.Test.YthmcnlmphikicabZG1
namespace Go.Proofs.Ythmcnlmphikicab
open Go.RowKit
theorem AP.frs {w : World} {f : Fr} {d : FD} (h : FrW w f d) (hs : d.tr.length ≤ 17592186044416 ∧ d.ids.length ≤ 8796093022208 ∧ d.val.length ≤ 140737488355328 ∧ d.tx.length ≤ 140737488355328) : FrS f :=
  ⟨⟨by rw [h.trn]; omega⟩, ⟨by rw [h.idn]; omega⟩, ⟨by rw [h.valn]; omega⟩, ⟨by rw [h.txn]; omega⟩⟩
def DecP (w : World) (l : List Nat) (e : Ending) (w' : World) : Prop :=
  Gro w w' ∧ match decE l with
    | .error x => e = .returned (.tuple #[.agg (frA Fr.zero), .int .i64 (x : Int)])
    | .ok a => ∃ g : Fr, e = .returned (.tuple #[.agg (frA g), .int .i64 0]) ∧ (∃ s1 s2 s3 s4 : Sl, g = { bare a.1 a.2.1 with kind := (a.1 : Int), tr := s1, ids := s2, val := s3, tx := s4 }) ∧ FrO w' w.heap.size g (bareD a.1 a.2.2)
theorem ap_ex {f : FuncId} {args : Array Value} {w : World} {g : Fr} {d : FD} (H : Calls Try.prog f args w (AP w g d fun f => .agg (frA f))) : Calls Try.prog f args w fun e w' => ∃ gg : Fr, e = .returned (.agg (frA gg)) ∧ (∃ t1 t2 t3 t4 : Sl, gg = { g with tr := t1, ids := t2, val := t3, tx := t4 }) ∧ FrO w' w.heap.size gg d ∧ Gro w w' :=
  H.mono fun _ _ ⟨t1, t2, t3, t4, he, HO, G⟩ => ⟨_, he, ⟨t1, t2, t3, t4, rfl⟩, HO, G⟩
theorem bare_slices (k : Nat) (h1 : 1 ≤ k) (h2 : k ≤ 12) (f : Fr) (s1 s2 s3 s4 t1 t2 t3 t4 : Sl) (n : Int) : ({ bare k { f with tr := s1, ids := s2, val := s3, tx := s4 } with kind := n, tr := t1, ids := t2, val := t3, tx := t4 } : Fr) = { bare k f with kind := n, tr := t1, ids := t2, val := t3, tx := t4 } := by
  rcases is12 h1 h2 with rfl | rfl | rfl | rfl | rfl | rfl | rfl | rfl | rfl | rfl | rfl | rfl <;> rfl
set_option maxRecDepth 100000 in
set_option maxHeartbeats 4000000 in
theorem decode_E (so : Option Addr) (sc : Nat) (l : List Nat) (w : World) (H : NC w .u8 so sc l) (hl : l.length ≤ 140737488355000) (x : Nat) (hx : x ≠ 0) (hD : decE l = .error x) : Calls Try.prog 12 #[.slice so l.length sc] w (DecP w l) := by
  refine s_enter Try.func12 rfl Try.ntmps12 [.slice so l.length sc] [.slice so l.length sc, undef, undef, undef, undef, undef, undef, undef, undef, undef, undef, undef, undef, undef, undef, undef, undef] rfl ?_
  have GG := Gro.refl w
  refine wp_seq (wp_region_lit ?_)
  refine s_alloc 2 rfl rfl 40 rfl _ zv36 _ rfl ?_
  intro w1 g1 G eg1 kg1
  have bg1 := size_base GG eg1
  replace GG := GG.trans G
  clear G eg1
  refine mv 3 (.int .i64 0) (wpList_nil (then_n (wp_seq (wp_region_lit (mv 7 (.slice so l.length sc) ?_)))))
  simp only [z0, z1]
  have szr := GG.size
  have drg1 := lt_of_heap kg1
  have HC := read_any so sc l _ (H.gro GG) hl
  unfold ReadP at HC
  rw [hD] at HC
  refine s_callx 8 rfl rfl _ 25 Try.call25 rfl rfl _ rfl [.slice so l.length sc] rfl HC (fun _ _ ⟨_, he⟩ => ⟨_, he⟩) ?_
  rintro v w2 ⟨G, he⟩
  cases he
  replace kg1 := G.has kg1
  replace GG := GG.trans G
  clear G
  clear HC
  refine mv 6 (.tuple #[.nilIface, .int .i64 ((x : Nat) : Int)]) (mv 9 (.nilIface) ?_)
  simp only [z0, z1]
  refine mv 10 (.int .i64 ((x : Nat) : Int)) (mv 4 (.nilIface) (mv 5 (.int .i64 ((x : Nat) : Int)) ?_))
  simp only [z0, z1]
  refine wpList_nil (then_n (wp_seq (wp_seq (wp_region_lit (mv 11 (.int .i64 ((x : Nat) : Int)) (sv 12 (.bool true) (run_neqT 47 .i64 _ _ _ rfl Try.underlying47 _ _ rfl rfl (decide_eq_false (by omega)) _) (wpList_nil (then_n (wp_cond_true rfl (wp_seq (wp_region_lit (sv 13 (.agg (c36 0 zF 0 false zF zF 0 0 0 0 0 Sl.nil Sl.nil zF 0 zF Sl.nil 0 0 Sl.nil)) (run_bd 40 _ rfl [] rfl _ (by kernel_rfl)) ?_))))))))))))
  simp only [z0, z1]
  refine mv 14 (.int .i64 ((x : Nat) : Int)) ?_
  refine s_store rfl rfl 40 _ _ rfl g1 0 rfl (.agg (c36 0 zF 0 false zF zF 0 0 0 0 0 Sl.nil Sl.nil zF 0 zF Sl.nil 0 0 Sl.nil)) rfl 40 _ kg1 (c36 0 zF 0 false zF zF 0 0 0 0 0 Sl.nil Sl.nil zF 0 zF Sl.nil 0 0 Sl.nil) rfl (by kernel_rfl) (Nat.le_of_ble_eq_true rfl) (by kernel_rfl) (c36 0 zF 0 false zF zF 0 0 0 0 0 Sl.nil Sl.nil zF 0 zF Sl.nil 0 0 Sl.nil) (by kernel_rfl) ?_
  intro w4 S
  replace GG := GG.store S bg1
  replace kg1 := S.new
  clear S
  refine mv 3 (.int .i64 ((x : Nat) : Int)) (wpList_nil (then_n (wp_ret (then_r ?_))))
  refine bodyPost_ret (results_cell_tmp Try.results12 _ _ g1 40 _ (0, 0) _ rfl (.int .i64 ((x : Nat) : Int)) rfl kg1 Try.underlying40 rfl (by kernel_rfl)) rfl ?_
  unfold DecP
  rw [hD]
  exact ⟨GG, rfl⟩
set_option maxRecDepth 100000 in
set_option maxHeartbeats 4000000 in
theorem decode_OK (so : Option Addr) (sc : Nat) (l : List Nat) (w : World) (H : NC w .u8 so sc l) (hl : l.length ≤ 140737488355000) (a : Nat × Fr × FD) (hD : decE l = .ok a) (hs : a.2.2.tr.length ≤ 17592186044416 ∧ a.2.2.ids.length ≤ 8796093022208 ∧ a.2.2.val.length ≤ 140737488355328 ∧ a.2.2.tx.length ≤ 140737488355328) : Calls Try.prog 12 #[.slice so l.length sc] w (DecP w l) := by
  refine s_enter Try.func12 rfl Try.ntmps12 [.slice so l.length sc] [.slice so l.length sc, undef, undef, undef, undef, undef, undef, undef, undef, undef, undef, undef, undef, undef, undef, undef, undef] rfl ?_
  have GG := Gro.refl w
  refine wp_seq (wp_region_lit ?_)
  refine s_alloc 2 rfl rfl 40 rfl _ zv36 _ rfl ?_
  intro w1 g1 G eg1 kg1
  have bg1 := size_base GG eg1
  replace GG := GG.trans G
  clear G eg1
  refine mv 3 (.int .i64 0) (wpList_nil (then_n (wp_seq (wp_region_lit (mv 7 (.slice so l.length sc) ?_)))))
  simp only [z0, z1]
  have szr := GG.size
  have drg1 := lt_of_heap kg1
  have HC := read_any so sc l _ (H.gro GG) hl
  unfold ReadP at HC
  rw [hD] at HC
  refine s_callx 8 rfl rfl _ 25 Try.call25 rfl rfl _ rfl [.slice so l.length sc] rfl HC (fun _ _ ⟨_, _, he, _⟩ => ⟨_, he⟩) ?_
  rintro v w2 ⟨G, v1, he, s1, s2, s3, s4, hv, HB, h1, h2⟩
  cases he
  obtain ⟨tb, vb, hbb⟩ := bodyV_if a.1 h1 h2 { a.2.1 with tr := s1, ids := s2, val := s3, tx := s4 }
  rw [hbb] at hv
  subst hv
  replace kg1 := G.has kg1
  replace GG := GG.trans G
  clear G
  clear HC
  refine mv 6 (.tuple #[.iface tb (vb), .int .i64 0]) (mv 9 (.iface tb (vb)) ?_)
  simp only [z0, z1]
  refine mv 10 (.int .i64 0) (mv 4 (.iface tb (vb)) (mv 5 (.int .i64 0) ?_))
  simp only [z0, z1]
  refine wpList_nil (then_n (wp_seq (wp_seq (wp_region_lit (mv 11 (.int .i64 0) (sv 12 (.bool false) (run_neq_k 47 .i64 _ _ _ rfl Try.underlying47 _ _ rfl rfl false rfl _) (wpList_nil (then_n (wp_cond_false rfl (wp_skip (then_n (wp_seq (wp_region_lit (mv 15 (.iface tb (vb)) ?_))))))))))))))
  simp only [z0, z1]
  have szp := GG.size
  have dpg1 := lt_of_heap kg1
  have HC := plain_any a.1 h1 h2 _ a.2.2 _ HB.frw (AP.frs HB.frw hs)
  rw [hbb] at HC
  refine s_callx 16 rfl rfl _ 8 Try.call8 rfl rfl _ rfl [.iface tb (vb)] rfl (ap_ex HC) (fun _ _ ⟨_, he, _⟩ => ⟨_, he⟩) ?_
  rintro v w3 ⟨gg, he, ⟨t1, t2, t3, t4, hgg⟩, HO, G⟩
  cases he
  replace kg1 := G.has kg1
  replace GG := GG.trans G
  clear G
  clear HC
  refine s_store rfl rfl 40 _ _ rfl g1 0 rfl (.agg (c36 gg.kind gg.pw gg.pn gg.toA gg.a gg.b gg.n gg.fi gg.fn gg.ti gg.tn gg.tr gg.ids gg.key gg.vn gg.vw gg.val gg.op gg.ttl gg.tx)) rfl 40 _ kg1 (c36 gg.kind gg.pw gg.pn gg.toA gg.a gg.b gg.n gg.fi gg.fn gg.ti gg.tn gg.tr gg.ids gg.key gg.vn gg.vw gg.val gg.op gg.ttl gg.tx) rfl (by kernel_rfl) (Nat.le_of_ble_eq_true rfl) (by kernel_rfl) (c36 gg.kind gg.pw gg.pn gg.toA gg.a gg.b gg.n gg.fi gg.fn gg.ti gg.tn gg.tr gg.ids gg.key gg.vn gg.vw gg.val gg.op gg.ttl gg.tx) (by kernel_rfl) ?_
  intro w5 S
  replace GG := GG.store S bg1
  replace kg1 := S.new
  replace HO := HO.apart S (by omega)
  clear S
  refine mv 3 (.int .i64 0) (wpList_nil (then_n (wp_ret ?_)))
  refine bodyPost_ret (results_cell_tmp Try.results12 _ _ g1 40 _ (0, 0) _ rfl (.int .i64 0) rfl kg1 Try.underlying40 rfl (by kernel_rfl)) rfl ?_
  unfold DecP
  rw [hD]
  exact ⟨GG, gg, rfl, ⟨t1, t2, t3, t4, by rw [hgg]; exact bare_slices a.1 h1 h2 a.2.1 s1 s2 s3 s4 t1 t2 t3 t4 _⟩, HO.mono szp⟩
end Go.Proofs.Ythmcnlmphikicab
