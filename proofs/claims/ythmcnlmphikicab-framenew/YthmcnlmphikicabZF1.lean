/- Frames and bodies as rows of cells; what a body says in a plain frame's fields (frame.fields). -/
import Derived.Test.YthmcnlmphikicabZS2
namespace Go.Proofs.Ythmcnlmphikicab
open Go.RowKit
structure Fr where
  kind : Int
  pw : Nat → Nat
  pn : Int
  toA : Bool
  a : Nat → Nat
  b : Nat → Nat
  n : Int
  fi : Int
  fn : Int
  ti : Int
  tn : Int
  tr : Sl
  ids : Sl
  key : Nat → Nat
  vn : Int
  vw : Nat → Nat
  val : Sl
  op : Int
  ttl : Int
  tx : Sl
def frA (f : Fr) : Array Value := c36 f.kind f.pw f.pn f.toA f.a f.b f.n f.fi f.fn f.ti f.tn f.tr f.ids f.key f.vn f.vw f.val f.op f.ttl f.tx
def bodyV (k : Nat) (f : Fr) : Value :=
  match k with
  | 1 => .iface 67 (.agg (c79 f.fi f.fn f.ti f.tn f.a))
  | 2 => .iface 69 (.agg (c81 f.fi f.fn f.ti f.tn f.n f.tx))
  | 3 => .iface 71 (.agg (c83 f.fi f.fn f.ti f.tn f.n))
  | 4 => .iface 73 (.agg (c85 f.pw f.pn f.a f.b f.tr))
  | 5 => .iface 75 (.agg (c87 f.pw f.pn))
  | 6 => .iface 77 (.agg (c89 f.pw f.pn f.toA))
  | 7 => .iface 79 (.agg (c91 f.pw f.pn f.toA f.ids))
  | 8 => .iface 81 (.agg (c93 f.a f.b f.op f.pw f.pn f.toA f.tr))
  | 9 => .iface 83 (.agg (c95 f.a f.n))
  | 10 => .iface 85 (.agg (c97 f.a f.b f.n f.op f.ttl f.key f.vn f.vw f.val f.tx))
  | 11 => .iface 87 (.agg (c99 f.pw f.pn f.toA f.key f.vn f.vw f.val))
  | 12 => .iface 89 (.agg (c101 f.pw f.pn f.toA f.key f.vn f.vw))
  | _ => .nilIface
def bare (k : Nat) (f : Fr) : Fr :=
  match k with
  | 1 => ⟨0, zF, 0, false, f.a, zF, 0, f.fi, f.fn, f.ti, f.tn, Sl.nil, Sl.nil, zF, 0, zF, Sl.nil, 0, 0, Sl.nil⟩
  | 2 => ⟨0, zF, 0, false, zF, zF, f.n, f.fi, f.fn, f.ti, f.tn, Sl.nil, Sl.nil, zF, 0, zF, Sl.nil, 0, 0, f.tx⟩
  | 3 => ⟨0, zF, 0, false, zF, zF, f.n, f.fi, f.fn, f.ti, f.tn, Sl.nil, Sl.nil, zF, 0, zF, Sl.nil, 0, 0, Sl.nil⟩
  | 4 => ⟨0, f.pw, f.pn, false, f.a, f.b, 0, 0, 0, 0, 0, f.tr, Sl.nil, zF, 0, zF, Sl.nil, 0, 0, Sl.nil⟩
  | 5 => ⟨0, f.pw, f.pn, false, zF, zF, 0, 0, 0, 0, 0, Sl.nil, Sl.nil, zF, 0, zF, Sl.nil, 0, 0, Sl.nil⟩
  | 6 => ⟨0, f.pw, f.pn, f.toA, zF, zF, 0, 0, 0, 0, 0, Sl.nil, Sl.nil, zF, 0, zF, Sl.nil, 0, 0, Sl.nil⟩
  | 7 => ⟨0, f.pw, f.pn, f.toA, zF, zF, 0, 0, 0, 0, 0, Sl.nil, f.ids, zF, 0, zF, Sl.nil, 0, 0, Sl.nil⟩
  | 8 => ⟨0, f.pw, f.pn, f.toA, f.a, f.b, 0, 0, 0, 0, 0, f.tr, Sl.nil, zF, 0, zF, Sl.nil, f.op, 0, Sl.nil⟩
  | 9 => ⟨0, zF, 0, false, f.a, zF, f.n, 0, 0, 0, 0, Sl.nil, Sl.nil, zF, 0, zF, Sl.nil, 0, 0, Sl.nil⟩
  | 10 => ⟨0, zF, 0, false, f.a, f.b, f.n, 0, 0, 0, 0, Sl.nil, Sl.nil, f.key, f.vn, f.vw, f.val, f.op, f.ttl, f.tx⟩
  | 11 => ⟨0, f.pw, f.pn, f.toA, zF, zF, 0, 0, 0, 0, 0, Sl.nil, Sl.nil, f.key, f.vn, f.vw, f.val, 0, 0, Sl.nil⟩
  | 12 => ⟨0, f.pw, f.pn, f.toA, zF, zF, 0, 0, 0, 0, 0, Sl.nil, Sl.nil, f.key, f.vn, f.vw, Sl.nil, 0, 0, Sl.nil⟩
  | _ => ⟨0, zF, 0, false, zF, zF, 0, 0, 0, 0, 0, Sl.nil, Sl.nil, zF, 0, zF, Sl.nil, 0, 0, Sl.nil⟩
def Fr.zero : Fr := ⟨0, zF, 0, false, zF, zF, 0, 0, 0, 0, 0, Sl.nil, Sl.nil, zF, 0, zF, Sl.nil, 0, 0, Sl.nil⟩
theorem is12 {k : Nat} (h1 : 1 ≤ k) (h2 : k ≤ 12) : k = 1 ∨ k = 2 ∨ k = 3 ∨ k = 4 ∨ k = 5 ∨ k = 6 ∨ k = 7 ∨ k = 8 ∨ k = 9 ∨ k = 10 ∨ k = 11 ∨ k = 12 := by omega
set_option maxRecDepth 100000 in
set_option maxHeartbeats 4000000 in
theorem fields_1 (f : Fr) (w : World) : Calls Try.prog 17 #[.iface 67 (.agg (c79 f.fi f.fn f.ti f.tn f.a))] w fun e w' => e = .returned (.tuple #[.agg (c36 0 zF 0 false f.a zF 0 f.fi f.fn f.ti f.tn Sl.nil Sl.nil zF 0 zF Sl.nil 0 0 Sl.nil), .bool true]) ∧ Gro w w' := by
  refine s_enterR Try.func17 rfl Try.ntmps17 [.iface 67 (.agg (c79 f.fi f.fn f.ti f.tn f.a))] ?_
  intro U h; simp only [List.length_cons, List.length_nil, List.cons_append, List.nil_append, Nat.reduceAdd, Nat.reduceSub, List.reduceReplicate] at h; subst h
  have GG := Gro.refl w
  refine wp_seq (wp_region_lit ?_)
  refine s_alloc 2 rfl rfl 40 rfl _ zv36 _ rfl ?_
  intro w1 g1 G eg1 kg1
  have bg1 := size_base GG eg1
  replace GG := GG.trans G
  clear G eg1
  refine mv 3 (.bool false) (wpList_nil (then_n (wp_seq (wp_seq (wp_region_lit (mv 16 (.iface 67 (.agg (c79 f.fi f.fn f.ti f.tn f.a))) ?_))))))
  simp only [z0, z1]
  refine wpList_nil (then_n (wp_block (wp_seq (wp_region_lit (sv 17 (.tuple #[.agg (c79 f.fi f.fn f.ti f.tn f.a), .bool true]) (run_ta _ 23 67 true rfl _ _ rfl) (mv 18 (.bool true) (mv 19 (.agg (c79 f.fi f.fn f.ti f.tn f.a)) ?_)))))))
  simp only [z0, z1]
  refine wpList_nil (then_n (wp_cond_true rfl (wp_seq (wp_region_lit ?_))))
  refine s_alloc 4 rfl rfl 67 rfl _ zv79 _ rfl ?_
  intro w2 g2 G eg2 kg2
  have bg2 := size_base GG eg2
  have dg1g2 := lt_new kg1 eg2
  replace kg1 := G.has kg1
  replace GG := GG.trans G
  clear G eg2
  refine s_store rfl rfl 67 _ _ rfl g2 0 rfl (.agg (c79 f.fi f.fn f.ti f.tn f.a)) rfl 67 _ kg2 (c79 f.fi f.fn f.ti f.tn f.a) rfl (by kernel_rfl) (Nat.le_of_ble_eq_true rfl) (by kernel_rfl) (c79 f.fi f.fn f.ti f.tn f.a) (by kernel_rfl) ?_
  intro w4 S
  replace kg1 := S.has (by omega) kg1
  replace GG := GG.store S bg2
  replace kg2 := S.new
  clear S
  refine wpList_nil (then_n (wp_seq (wp_region_lit (sv 20 (.pointer (some ⟨g2, 0, none⟩)) (run_fld 67 _ 0 rfl _ _ rfl _) (sv 21 (.agg (c27 f.fi f.fn)) (run_lda 31 _ rfl g2 0 2 rfl 67 _ kg2 _ Try.underlying31 rfl si27 _) ?_)))))
  simp only [z0, z1]
  refine sv 22 (.pointer (some ⟨g2, 2, none⟩)) (run_fld 67 _ 1 rfl _ _ rfl _) (sv 23 (.agg (c27 f.ti f.tn)) (run_lda 31 _ rfl g2 2 2 rfl 67 _ kg2 _ Try.underlying31 rfl si27 _) (sv 24 (.pointer (some ⟨g2, 4, none⟩)) (run_fld 67 _ 2 rfl _ _ rfl _) ?_))
  simp only [z0, z1]
  refine sv 25 (.agg (c23 f.a)) (run_lda 27 _ rfl g2 4 16 rfl 67 _ kg2 _ Try.underlying27 rfl si23 _) (sv 26 (.agg (c36 0 zF 0 false f.a zF 0 f.fi f.fn f.ti f.tn Sl.nil Sl.nil zF 0 zF Sl.nil 0 0 Sl.nil)) (run_bd 40 _ rfl [(6, .agg (c27 f.fi f.fn)), (7, .agg (c27 f.ti f.tn)), (3, .agg (c23 f.a))] rfl _ (by kernel_rfl)) ?_)
  refine s_store rfl rfl 40 _ _ rfl g1 0 rfl (.agg (c36 0 zF 0 false f.a zF 0 f.fi f.fn f.ti f.tn Sl.nil Sl.nil zF 0 zF Sl.nil 0 0 Sl.nil)) rfl 40 _ kg1 (c36 0 zF 0 false f.a zF 0 f.fi f.fn f.ti f.tn Sl.nil Sl.nil zF 0 zF Sl.nil 0 0 Sl.nil) rfl (by kernel_rfl) (Nat.le_of_ble_eq_true rfl) (by kernel_rfl) (c36 0 zF 0 false f.a zF 0 f.fi f.fn f.ti f.tn Sl.nil Sl.nil zF 0 zF Sl.nil 0 0 Sl.nil) (by kernel_rfl) ?_
  intro w6 S
  replace kg2 := S.has (by omega) kg2
  replace GG := GG.store S bg1
  replace kg1 := S.new
  clear S
  refine mv 3 (.bool true) ?_
  simp only [z0, z1]
  refine wpList_nil (then_n (wp_ret (blk_r (then_r ?_))))
  refine bodyPost_ret (results_cell_tmp Try.results17 _ _ g1 40 _ (0, 0) _ rfl (.bool true) rfl kg1 Try.underlying40 rfl (by kernel_rfl)) rfl ?_
  exact ⟨rfl, GG⟩
set_option maxRecDepth 100000 in
set_option maxHeartbeats 4000000 in
theorem fields_2 (f : Fr) (w : World) : Calls Try.prog 17 #[.iface 69 (.agg (c81 f.fi f.fn f.ti f.tn f.n f.tx))] w fun e w' => e = .returned (.tuple #[.agg (c36 0 zF 0 false zF zF f.n f.fi f.fn f.ti f.tn Sl.nil Sl.nil zF 0 zF Sl.nil 0 0 f.tx), .bool true]) ∧ Gro w w' := by
  refine s_enterR Try.func17 rfl Try.ntmps17 [.iface 69 (.agg (c81 f.fi f.fn f.ti f.tn f.n f.tx))] ?_
  intro U h; simp only [List.length_cons, List.length_nil, List.cons_append, List.nil_append, Nat.reduceAdd, Nat.reduceSub, List.reduceReplicate] at h; subst h
  have GG := Gro.refl w
  refine wp_seq (wp_region_lit ?_)
  refine s_alloc 2 rfl rfl 40 rfl _ zv36 _ rfl ?_
  intro w1 g1 G eg1 kg1
  have bg1 := size_base GG eg1
  replace GG := GG.trans G
  clear G eg1
  refine mv 3 (.bool false) (wpList_nil (then_n (wp_seq (wp_seq (wp_region_lit (mv 16 (.iface 69 (.agg (c81 f.fi f.fn f.ti f.tn f.n f.tx))) ?_))))))
  simp only [z0, z1]
  refine wpList_nil (then_n (wp_block (wp_seq (wp_region_lit (sv 17 (.tuple #[.agg (c79 0 0 0 0 zF), .bool false]) (run_ta _ 23 67 true rfl _ _ rfl) (mv 18 (.bool false) (mv 19 (.agg (c79 0 0 0 0 zF)) ?_)))))))
  simp only [z0, z1]
  refine wpList_nil (then_n (wp_cond_false rfl (wp_seq (wp_region_lit (sv 27 (.tuple #[.agg (c81 f.fi f.fn f.ti f.tn f.n f.tx), .bool true]) (run_ta _ 23 69 true rfl _ _ rfl) (mv 28 (.bool true) (mv 29 (.agg (c81 f.fi f.fn f.ti f.tn f.n f.tx)) ?_)))))))
  simp only [z0, z1]
  refine wpList_nil (then_n (wp_cond_true rfl (wp_seq (wp_region_lit ?_))))
  refine s_alloc 5 rfl rfl 69 rfl _ zv81 _ rfl ?_
  intro w2 g2 G eg2 kg2
  have bg2 := size_base GG eg2
  have dg1g2 := lt_new kg1 eg2
  replace kg1 := G.has kg1
  replace GG := GG.trans G
  clear G eg2
  refine s_store rfl rfl 69 _ _ rfl g2 0 rfl (.agg (c81 f.fi f.fn f.ti f.tn f.n f.tx)) rfl 69 _ kg2 (c81 f.fi f.fn f.ti f.tn f.n f.tx) rfl (by kernel_rfl) (Nat.le_of_ble_eq_true rfl) (by kernel_rfl) (c81 f.fi f.fn f.ti f.tn f.n f.tx) (by kernel_rfl) ?_
  intro w4 S
  replace kg1 := S.has (by omega) kg1
  replace GG := GG.store S bg2
  replace kg2 := S.new
  clear S
  refine wpList_nil (then_n (wp_seq (wp_region_lit (sv 30 (.pointer (some ⟨g2, 0, none⟩)) (run_fld 69 _ 0 rfl _ _ rfl _) (sv 31 (.agg (c27 f.fi f.fn)) (run_lda 31 _ rfl g2 0 2 rfl 69 _ kg2 _ Try.underlying31 rfl si27 _) ?_)))))
  simp only [z0, z1]
  refine sv 32 (.pointer (some ⟨g2, 2, none⟩)) (run_fld 69 _ 1 rfl _ _ rfl _) (sv 33 (.agg (c27 f.ti f.tn)) (run_lda 31 _ rfl g2 2 2 rfl 69 _ kg2 _ Try.underlying31 rfl si27 _) (sv 34 (.pointer (some ⟨g2, 4, none⟩)) (run_fld 69 _ 2 rfl _ _ rfl _) ?_))
  simp only [z0, z1]
  refine sv 35 (.int .i64 f.n) (run_ldc 2 _ rfl g2 4 rfl 69 _ kg2 (na2 _) _ rfl) (sv 36 (.pointer (some ⟨g2, 5, none⟩)) (run_fld 69 _ 3 rfl _ _ rfl _) (sv 37 (.slice f.tx.ao f.tx.n f.tx.cap) (run_ldc 36 _ rfl g2 5 rfl 69 _ kg2 (na32 _) _ rfl) ?_))
  simp only [z0, z1]
  refine sv 38 (.agg (c36 0 zF 0 false zF zF f.n f.fi f.fn f.ti f.tn Sl.nil Sl.nil zF 0 zF Sl.nil 0 0 f.tx)) (run_bd 40 _ rfl [(6, .agg (c27 f.fi f.fn)), (7, .agg (c27 f.ti f.tn)), (5, .int .i64 f.n), (13, .slice f.tx.ao f.tx.n f.tx.cap)] rfl _ (by kernel_rfl)) ?_
  refine s_store rfl rfl 40 _ _ rfl g1 0 rfl (.agg (c36 0 zF 0 false zF zF f.n f.fi f.fn f.ti f.tn Sl.nil Sl.nil zF 0 zF Sl.nil 0 0 f.tx)) rfl 40 _ kg1 (c36 0 zF 0 false zF zF f.n f.fi f.fn f.ti f.tn Sl.nil Sl.nil zF 0 zF Sl.nil 0 0 f.tx) rfl (by kernel_rfl) (Nat.le_of_ble_eq_true rfl) (by kernel_rfl) (c36 0 zF 0 false zF zF f.n f.fi f.fn f.ti f.tn Sl.nil Sl.nil zF 0 zF Sl.nil 0 0 f.tx) (by kernel_rfl) ?_
  intro w6 S
  replace kg2 := S.has (by omega) kg2
  replace GG := GG.store S bg1
  replace kg1 := S.new
  clear S
  refine mv 3 (.bool true) (wpList_nil (then_n (wp_ret (blk_r (then_r ?_)))))
  refine bodyPost_ret (results_cell_tmp Try.results17 _ _ g1 40 _ (0, 0) _ rfl (.bool true) rfl kg1 Try.underlying40 rfl (by kernel_rfl)) rfl ?_
  exact ⟨rfl, GG⟩
set_option maxRecDepth 100000 in
set_option maxHeartbeats 4000000 in
theorem fields_3 (f : Fr) (w : World) : Calls Try.prog 17 #[.iface 71 (.agg (c83 f.fi f.fn f.ti f.tn f.n))] w fun e w' => e = .returned (.tuple #[.agg (c36 0 zF 0 false zF zF f.n f.fi f.fn f.ti f.tn Sl.nil Sl.nil zF 0 zF Sl.nil 0 0 Sl.nil), .bool true]) ∧ Gro w w' := by
  refine s_enterR Try.func17 rfl Try.ntmps17 [.iface 71 (.agg (c83 f.fi f.fn f.ti f.tn f.n))] ?_
  intro U h; simp only [List.length_cons, List.length_nil, List.cons_append, List.nil_append, Nat.reduceAdd, Nat.reduceSub, List.reduceReplicate] at h; subst h
  have GG := Gro.refl w
  refine wp_seq (wp_region_lit ?_)
  refine s_alloc 2 rfl rfl 40 rfl _ zv36 _ rfl ?_
  intro w1 g1 G eg1 kg1
  have bg1 := size_base GG eg1
  replace GG := GG.trans G
  clear G eg1
  refine mv 3 (.bool false) (wpList_nil (then_n (wp_seq (wp_seq (wp_region_lit (mv 16 (.iface 71 (.agg (c83 f.fi f.fn f.ti f.tn f.n))) ?_))))))
  simp only [z0, z1]
  refine wpList_nil (then_n (wp_block (wp_seq (wp_region_lit (sv 17 (.tuple #[.agg (c79 0 0 0 0 zF), .bool false]) (run_ta _ 23 67 true rfl _ _ rfl) (mv 18 (.bool false) (mv 19 (.agg (c79 0 0 0 0 zF)) ?_)))))))
  simp only [z0, z1]
  refine wpList_nil (then_n (wp_cond_false rfl (wp_seq (wp_region_lit (sv 27 (.tuple #[.agg (c81 0 0 0 0 0 Sl.nil), .bool false]) (run_ta _ 23 69 true rfl _ _ rfl) (mv 28 (.bool false) (mv 29 (.agg (c81 0 0 0 0 0 Sl.nil)) ?_)))))))
  simp only [z0, z1]
  refine wpList_nil (then_n (wp_cond_false rfl (wp_seq (wp_region_lit (sv 39 (.tuple #[.agg (c83 f.fi f.fn f.ti f.tn f.n), .bool true]) (run_ta _ 23 71 true rfl _ _ rfl) (mv 40 (.bool true) (mv 41 (.agg (c83 f.fi f.fn f.ti f.tn f.n)) ?_)))))))
  simp only [z0, z1]
  refine wpList_nil (then_n (wp_cond_true rfl (wp_seq (wp_region_lit ?_))))
  refine s_alloc 6 rfl rfl 71 rfl _ zv83 _ rfl ?_
  intro w2 g2 G eg2 kg2
  have bg2 := size_base GG eg2
  have dg1g2 := lt_new kg1 eg2
  replace kg1 := G.has kg1
  replace GG := GG.trans G
  clear G eg2
  refine s_store rfl rfl 71 _ _ rfl g2 0 rfl (.agg (c83 f.fi f.fn f.ti f.tn f.n)) rfl 71 _ kg2 (c83 f.fi f.fn f.ti f.tn f.n) rfl (by kernel_rfl) (Nat.le_of_ble_eq_true rfl) (by kernel_rfl) (c83 f.fi f.fn f.ti f.tn f.n) (by kernel_rfl) ?_
  intro w4 S
  replace kg1 := S.has (by omega) kg1
  replace GG := GG.store S bg2
  replace kg2 := S.new
  clear S
  refine wpList_nil (then_n (wp_seq (wp_region_lit (sv 42 (.pointer (some ⟨g2, 0, none⟩)) (run_fld 71 _ 0 rfl _ _ rfl _) (sv 43 (.agg (c27 f.fi f.fn)) (run_lda 31 _ rfl g2 0 2 rfl 71 _ kg2 _ Try.underlying31 rfl si27 _) ?_)))))
  simp only [z0, z1]
  refine sv 44 (.pointer (some ⟨g2, 2, none⟩)) (run_fld 71 _ 1 rfl _ _ rfl _) (sv 45 (.agg (c27 f.ti f.tn)) (run_lda 31 _ rfl g2 2 2 rfl 71 _ kg2 _ Try.underlying31 rfl si27 _) (sv 46 (.pointer (some ⟨g2, 4, none⟩)) (run_fld 71 _ 2 rfl _ _ rfl _) ?_))
  simp only [z0, z1]
  refine sv 47 (.int .i64 f.n) (run_ldc 2 _ rfl g2 4 rfl 71 _ kg2 (na2 _) _ rfl) (sv 48 (.agg (c36 0 zF 0 false zF zF f.n f.fi f.fn f.ti f.tn Sl.nil Sl.nil zF 0 zF Sl.nil 0 0 Sl.nil)) (run_bd 40 _ rfl [(6, .agg (c27 f.fi f.fn)), (7, .agg (c27 f.ti f.tn)), (5, .int .i64 f.n)] rfl _ (by kernel_rfl)) ?_)
  refine s_store rfl rfl 40 _ _ rfl g1 0 rfl (.agg (c36 0 zF 0 false zF zF f.n f.fi f.fn f.ti f.tn Sl.nil Sl.nil zF 0 zF Sl.nil 0 0 Sl.nil)) rfl 40 _ kg1 (c36 0 zF 0 false zF zF f.n f.fi f.fn f.ti f.tn Sl.nil Sl.nil zF 0 zF Sl.nil 0 0 Sl.nil) rfl (by kernel_rfl) (Nat.le_of_ble_eq_true rfl) (by kernel_rfl) (c36 0 zF 0 false zF zF f.n f.fi f.fn f.ti f.tn Sl.nil Sl.nil zF 0 zF Sl.nil 0 0 Sl.nil) (by kernel_rfl) ?_
  intro w6 S
  replace kg2 := S.has (by omega) kg2
  replace GG := GG.store S bg1
  replace kg1 := S.new
  clear S
  refine mv 3 (.bool true) ?_
  simp only [z0, z1]
  refine wpList_nil (then_n (wp_ret (blk_r (then_r ?_))))
  refine bodyPost_ret (results_cell_tmp Try.results17 _ _ g1 40 _ (0, 0) _ rfl (.bool true) rfl kg1 Try.underlying40 rfl (by kernel_rfl)) rfl ?_
  exact ⟨rfl, GG⟩
set_option maxRecDepth 100000 in
set_option maxHeartbeats 4000000 in
theorem fields_4 (f : Fr) (w : World) : Calls Try.prog 17 #[.iface 73 (.agg (c85 f.pw f.pn f.a f.b f.tr))] w fun e w' => e = .returned (.tuple #[.agg (c36 0 f.pw f.pn false f.a f.b 0 0 0 0 0 f.tr Sl.nil zF 0 zF Sl.nil 0 0 Sl.nil), .bool true]) ∧ Gro w w' := by
  refine s_enterR Try.func17 rfl Try.ntmps17 [.iface 73 (.agg (c85 f.pw f.pn f.a f.b f.tr))] ?_
  intro U h; simp only [List.length_cons, List.length_nil, List.cons_append, List.nil_append, Nat.reduceAdd, Nat.reduceSub, List.reduceReplicate] at h; subst h
  have GG := Gro.refl w
  refine wp_seq (wp_region_lit ?_)
  refine s_alloc 2 rfl rfl 40 rfl _ zv36 _ rfl ?_
  intro w1 g1 G eg1 kg1
  have bg1 := size_base GG eg1
  replace GG := GG.trans G
  clear G eg1
  refine mv 3 (.bool false) (wpList_nil (then_n (wp_seq (wp_seq (wp_region_lit (mv 16 (.iface 73 (.agg (c85 f.pw f.pn f.a f.b f.tr))) ?_))))))
  simp only [z0, z1]
  refine wpList_nil (then_n (wp_block (wp_seq (wp_region_lit (sv 17 (.tuple #[.agg (c79 0 0 0 0 zF), .bool false]) (run_ta _ 23 67 true rfl _ _ rfl) (mv 18 (.bool false) (mv 19 (.agg (c79 0 0 0 0 zF)) ?_)))))))
  simp only [z0, z1]
  refine wpList_nil (then_n (wp_cond_false rfl (wp_seq (wp_region_lit (sv 27 (.tuple #[.agg (c81 0 0 0 0 0 Sl.nil), .bool false]) (run_ta _ 23 69 true rfl _ _ rfl) (mv 28 (.bool false) (mv 29 (.agg (c81 0 0 0 0 0 Sl.nil)) ?_)))))))
  simp only [z0, z1]
  refine wpList_nil (then_n (wp_cond_false rfl (wp_seq (wp_region_lit (sv 39 (.tuple #[.agg (c83 0 0 0 0 0), .bool false]) (run_ta _ 23 71 true rfl _ _ rfl) (mv 40 (.bool false) (mv 41 (.agg (c83 0 0 0 0 0)) ?_)))))))
  simp only [z0, z1]
  refine wpList_nil (then_n (wp_cond_false rfl (wp_seq (wp_region_lit (sv 49 (.tuple #[.agg (c85 f.pw f.pn f.a f.b f.tr), .bool true]) (run_ta _ 23 73 true rfl _ _ rfl) (mv 50 (.bool true) (mv 51 (.agg (c85 f.pw f.pn f.a f.b f.tr)) ?_)))))))
  simp only [z0, z1]
  refine wpList_nil (then_n (wp_cond_true rfl (wp_seq (wp_region_lit ?_))))
  refine s_alloc 7 rfl rfl 73 rfl _ zv85 _ rfl ?_
  intro w2 g2 G eg2 kg2
  have bg2 := size_base GG eg2
  have dg1g2 := lt_new kg1 eg2
  replace kg1 := G.has kg1
  replace GG := GG.trans G
  clear G eg2
  refine s_store rfl rfl 73 _ _ rfl g2 0 rfl (.agg (c85 f.pw f.pn f.a f.b f.tr)) rfl 73 _ kg2 (c85 f.pw f.pn f.a f.b f.tr) rfl (by kernel_rfl) (Nat.le_of_ble_eq_true rfl) (by kernel_rfl) (c85 f.pw f.pn f.a f.b f.tr) (by kernel_rfl) ?_
  intro w4 S
  replace kg1 := S.has (by omega) kg1
  replace GG := GG.store S bg2
  replace kg2 := S.new
  clear S
  refine wpList_nil (then_n (wp_seq (wp_region_lit (sv 52 (.pointer (some ⟨g2, 0, none⟩)) (run_fld 73 _ 0 rfl _ _ rfl _) (sv 53 (.agg (c25 f.pw f.pn)) (run_lda 29 _ rfl g2 0 17 rfl 73 _ kg2 _ Try.underlying29 rfl si25 _) ?_)))))
  simp only [z0, z1]
  refine sv 54 (.pointer (some ⟨g2, 17, none⟩)) (run_fld 73 _ 1 rfl _ _ rfl _) (sv 55 (.agg (c23 f.a)) (run_lda 27 _ rfl g2 17 16 rfl 73 _ kg2 _ Try.underlying27 rfl si23 _) (sv 56 (.pointer (some ⟨g2, 33, none⟩)) (run_fld 73 _ 2 rfl _ _ rfl _) ?_))
  simp only [z0, z1]
  refine sv 57 (.agg (c23 f.b)) (run_lda 27 _ rfl g2 33 16 rfl 73 _ kg2 _ Try.underlying27 rfl si23 _) (sv 58 (.pointer (some ⟨g2, 49, none⟩)) (run_fld 73 _ 3 rfl _ _ rfl _) (sv 59 (.slice f.tr.ao f.tr.n f.tr.cap) (run_ldc 32 _ rfl g2 49 rfl 73 _ kg2 (na28 _) _ rfl) ?_))
  simp only [z0, z1]
  refine sv 60 (.agg (c36 0 f.pw f.pn false f.a f.b 0 0 0 0 0 f.tr Sl.nil zF 0 zF Sl.nil 0 0 Sl.nil)) (run_bd 40 _ rfl [(1, .agg (c25 f.pw f.pn)), (3, .agg (c23 f.a)), (4, .agg (c23 f.b)), (8, .slice f.tr.ao f.tr.n f.tr.cap)] rfl _ (by kernel_rfl)) ?_
  refine s_store rfl rfl 40 _ _ rfl g1 0 rfl (.agg (c36 0 f.pw f.pn false f.a f.b 0 0 0 0 0 f.tr Sl.nil zF 0 zF Sl.nil 0 0 Sl.nil)) rfl 40 _ kg1 (c36 0 f.pw f.pn false f.a f.b 0 0 0 0 0 f.tr Sl.nil zF 0 zF Sl.nil 0 0 Sl.nil) rfl (by kernel_rfl) (Nat.le_of_ble_eq_true rfl) (by kernel_rfl) (c36 0 f.pw f.pn false f.a f.b 0 0 0 0 0 f.tr Sl.nil zF 0 zF Sl.nil 0 0 Sl.nil) (by kernel_rfl) ?_
  intro w6 S
  replace kg2 := S.has (by omega) kg2
  replace GG := GG.store S bg1
  replace kg1 := S.new
  clear S
  refine mv 3 (.bool true) (wpList_nil (then_n (wp_ret (blk_r (then_r ?_)))))
  refine bodyPost_ret (results_cell_tmp Try.results17 _ _ g1 40 _ (0, 0) _ rfl (.bool true) rfl kg1 Try.underlying40 rfl (by kernel_rfl)) rfl ?_
  exact ⟨rfl, GG⟩
set_option maxRecDepth 100000 in
set_option maxHeartbeats 4000000 in
theorem fields_5 (f : Fr) (w : World) : Calls Try.prog 17 #[.iface 75 (.agg (c87 f.pw f.pn))] w fun e w' => e = .returned (.tuple #[.agg (c36 0 f.pw f.pn false zF zF 0 0 0 0 0 Sl.nil Sl.nil zF 0 zF Sl.nil 0 0 Sl.nil), .bool true]) ∧ Gro w w' := by
  refine s_enterR Try.func17 rfl Try.ntmps17 [.iface 75 (.agg (c87 f.pw f.pn))] ?_
  intro U h; simp only [List.length_cons, List.length_nil, List.cons_append, List.nil_append, Nat.reduceAdd, Nat.reduceSub, List.reduceReplicate] at h; subst h
  have GG := Gro.refl w
  refine wp_seq (wp_region_lit ?_)
  refine s_alloc 2 rfl rfl 40 rfl _ zv36 _ rfl ?_
  intro w1 g1 G eg1 kg1
  have bg1 := size_base GG eg1
  replace GG := GG.trans G
  clear G eg1
  refine mv 3 (.bool false) (wpList_nil (then_n (wp_seq (wp_seq (wp_region_lit (mv 16 (.iface 75 (.agg (c87 f.pw f.pn))) ?_))))))
  simp only [z0, z1]
  refine wpList_nil (then_n (wp_block (wp_seq (wp_region_lit (sv 17 (.tuple #[.agg (c79 0 0 0 0 zF), .bool false]) (run_ta _ 23 67 true rfl _ _ rfl) (mv 18 (.bool false) (mv 19 (.agg (c79 0 0 0 0 zF)) ?_)))))))
  simp only [z0, z1]
  refine wpList_nil (then_n (wp_cond_false rfl (wp_seq (wp_region_lit (sv 27 (.tuple #[.agg (c81 0 0 0 0 0 Sl.nil), .bool false]) (run_ta _ 23 69 true rfl _ _ rfl) (mv 28 (.bool false) (mv 29 (.agg (c81 0 0 0 0 0 Sl.nil)) ?_)))))))
  simp only [z0, z1]
  refine wpList_nil (then_n (wp_cond_false rfl (wp_seq (wp_region_lit (sv 39 (.tuple #[.agg (c83 0 0 0 0 0), .bool false]) (run_ta _ 23 71 true rfl _ _ rfl) (mv 40 (.bool false) (mv 41 (.agg (c83 0 0 0 0 0)) ?_)))))))
  simp only [z0, z1]
  refine wpList_nil (then_n (wp_cond_false rfl (wp_seq (wp_region_lit (sv 49 (.tuple #[.agg (c85 zF 0 zF zF Sl.nil), .bool false]) (run_ta _ 23 73 true rfl _ _ rfl) (mv 50 (.bool false) (mv 51 (.agg (c85 zF 0 zF zF Sl.nil)) ?_)))))))
  simp only [z0, z1]
  refine wpList_nil (then_n (wp_cond_false rfl (wp_seq (wp_region_lit (sv 61 (.tuple #[.agg (c87 f.pw f.pn), .bool true]) (run_ta _ 23 75 true rfl _ _ rfl) (mv 62 (.bool true) (mv 63 (.agg (c87 f.pw f.pn)) ?_)))))))
  simp only [z0, z1]
  refine wpList_nil (then_n (wp_cond_true rfl (wp_seq (wp_region_lit ?_))))
  refine s_alloc 8 rfl rfl 75 rfl _ zv87 _ rfl ?_
  intro w2 g2 G eg2 kg2
  have bg2 := size_base GG eg2
  have dg1g2 := lt_new kg1 eg2
  replace kg1 := G.has kg1
  replace GG := GG.trans G
  clear G eg2
  refine s_store rfl rfl 75 _ _ rfl g2 0 rfl (.agg (c87 f.pw f.pn)) rfl 75 _ kg2 (c87 f.pw f.pn) rfl (by kernel_rfl) (Nat.le_of_ble_eq_true rfl) (by kernel_rfl) (c87 f.pw f.pn) (by kernel_rfl) ?_
  intro w4 S
  replace kg1 := S.has (by omega) kg1
  replace GG := GG.store S bg2
  replace kg2 := S.new
  clear S
  refine wpList_nil (then_n (wp_seq (wp_region_lit (sv 64 (.pointer (some ⟨g2, 0, none⟩)) (run_fld 75 _ 0 rfl _ _ rfl _) (sv 65 (.agg (c25 f.pw f.pn)) (run_lda 29 _ rfl g2 0 17 rfl 75 _ kg2 _ Try.underlying29 rfl si25 _) ?_)))))
  simp only [z0, z1]
  refine sv 66 (.agg (c36 0 f.pw f.pn false zF zF 0 0 0 0 0 Sl.nil Sl.nil zF 0 zF Sl.nil 0 0 Sl.nil)) (run_bd 40 _ rfl [(1, .agg (c25 f.pw f.pn))] rfl _ (by kernel_rfl)) ?_
  refine s_store rfl rfl 40 _ _ rfl g1 0 rfl (.agg (c36 0 f.pw f.pn false zF zF 0 0 0 0 0 Sl.nil Sl.nil zF 0 zF Sl.nil 0 0 Sl.nil)) rfl 40 _ kg1 (c36 0 f.pw f.pn false zF zF 0 0 0 0 0 Sl.nil Sl.nil zF 0 zF Sl.nil 0 0 Sl.nil) rfl (by kernel_rfl) (Nat.le_of_ble_eq_true rfl) (by kernel_rfl) (c36 0 f.pw f.pn false zF zF 0 0 0 0 0 Sl.nil Sl.nil zF 0 zF Sl.nil 0 0 Sl.nil) (by kernel_rfl) ?_
  intro w6 S
  replace kg2 := S.has (by omega) kg2
  replace GG := GG.store S bg1
  replace kg1 := S.new
  clear S
  refine mv 3 (.bool true) (wpList_nil (then_n (wp_ret (blk_r (then_r ?_)))))
  refine bodyPost_ret (results_cell_tmp Try.results17 _ _ g1 40 _ (0, 0) _ rfl (.bool true) rfl kg1 Try.underlying40 rfl (by kernel_rfl)) rfl ?_
  exact ⟨rfl, GG⟩
set_option maxRecDepth 100000 in
set_option maxHeartbeats 4000000 in
theorem fields_6 (f : Fr) (w : World) : Calls Try.prog 17 #[.iface 77 (.agg (c89 f.pw f.pn f.toA))] w fun e w' => e = .returned (.tuple #[.agg (c36 0 f.pw f.pn f.toA zF zF 0 0 0 0 0 Sl.nil Sl.nil zF 0 zF Sl.nil 0 0 Sl.nil), .bool true]) ∧ Gro w w' := by
  refine s_enterR Try.func17 rfl Try.ntmps17 [.iface 77 (.agg (c89 f.pw f.pn f.toA))] ?_
  intro U h; simp only [List.length_cons, List.length_nil, List.cons_append, List.nil_append, Nat.reduceAdd, Nat.reduceSub, List.reduceReplicate] at h; subst h
  have GG := Gro.refl w
  refine wp_seq (wp_region_lit ?_)
  refine s_alloc 2 rfl rfl 40 rfl _ zv36 _ rfl ?_
  intro w1 g1 G eg1 kg1
  have bg1 := size_base GG eg1
  replace GG := GG.trans G
  clear G eg1
  refine mv 3 (.bool false) (wpList_nil (then_n (wp_seq (wp_seq (wp_region_lit (mv 16 (.iface 77 (.agg (c89 f.pw f.pn f.toA))) ?_))))))
  simp only [z0, z1]
  refine wpList_nil (then_n (wp_block (wp_seq (wp_region_lit (sv 17 (.tuple #[.agg (c79 0 0 0 0 zF), .bool false]) (run_ta _ 23 67 true rfl _ _ rfl) (mv 18 (.bool false) (mv 19 (.agg (c79 0 0 0 0 zF)) ?_)))))))
  simp only [z0, z1]
  refine wpList_nil (then_n (wp_cond_false rfl (wp_seq (wp_region_lit (sv 27 (.tuple #[.agg (c81 0 0 0 0 0 Sl.nil), .bool false]) (run_ta _ 23 69 true rfl _ _ rfl) (mv 28 (.bool false) (mv 29 (.agg (c81 0 0 0 0 0 Sl.nil)) ?_)))))))
  simp only [z0, z1]
  refine wpList_nil (then_n (wp_cond_false rfl (wp_seq (wp_region_lit (sv 39 (.tuple #[.agg (c83 0 0 0 0 0), .bool false]) (run_ta _ 23 71 true rfl _ _ rfl) (mv 40 (.bool false) (mv 41 (.agg (c83 0 0 0 0 0)) ?_)))))))
  simp only [z0, z1]
  refine wpList_nil (then_n (wp_cond_false rfl (wp_seq (wp_region_lit (sv 49 (.tuple #[.agg (c85 zF 0 zF zF Sl.nil), .bool false]) (run_ta _ 23 73 true rfl _ _ rfl) (mv 50 (.bool false) (mv 51 (.agg (c85 zF 0 zF zF Sl.nil)) ?_)))))))
  simp only [z0, z1]
  refine wpList_nil (then_n (wp_cond_false rfl (wp_seq (wp_region_lit (sv 61 (.tuple #[.agg (c87 zF 0), .bool false]) (run_ta _ 23 75 true rfl _ _ rfl) (mv 62 (.bool false) (mv 63 (.agg (c87 zF 0)) ?_)))))))
  simp only [z0, z1]
  refine wpList_nil (then_n (wp_cond_false rfl (wp_seq (wp_region_lit (sv 67 (.tuple #[.agg (c89 f.pw f.pn f.toA), .bool true]) (run_ta _ 23 77 true rfl _ _ rfl) (mv 68 (.bool true) (mv 69 (.agg (c89 f.pw f.pn f.toA)) ?_)))))))
  simp only [z0, z1]
  refine wpList_nil (then_n (wp_cond_true rfl (wp_seq (wp_region_lit ?_))))
  refine s_alloc 9 rfl rfl 77 rfl _ zv89 _ rfl ?_
  intro w2 g2 G eg2 kg2
  have bg2 := size_base GG eg2
  have dg1g2 := lt_new kg1 eg2
  replace kg1 := G.has kg1
  replace GG := GG.trans G
  clear G eg2
  refine s_store rfl rfl 77 _ _ rfl g2 0 rfl (.agg (c89 f.pw f.pn f.toA)) rfl 77 _ kg2 (c89 f.pw f.pn f.toA) rfl (by kernel_rfl) (Nat.le_of_ble_eq_true rfl) (by kernel_rfl) (c89 f.pw f.pn f.toA) (by kernel_rfl) ?_
  intro w4 S
  replace kg1 := S.has (by omega) kg1
  replace GG := GG.store S bg2
  replace kg2 := S.new
  clear S
  refine wpList_nil (then_n (wp_seq (wp_region_lit (sv 70 (.pointer (some ⟨g2, 0, none⟩)) (run_fld 77 _ 0 rfl _ _ rfl _) (sv 71 (.agg (c25 f.pw f.pn)) (run_lda 29 _ rfl g2 0 17 rfl 77 _ kg2 _ Try.underlying29 rfl si25 _) ?_)))))
  simp only [z0, z1]
  refine sv 72 (.pointer (some ⟨g2, 17, none⟩)) (run_fld 77 _ 1 rfl _ _ rfl _) (sv 73 (.bool f.toA) (run_ldc 4 _ rfl g2 17 rfl 77 _ kg2 (na4 _) _ rfl) (sv 74 (.agg (c36 0 f.pw f.pn f.toA zF zF 0 0 0 0 0 Sl.nil Sl.nil zF 0 zF Sl.nil 0 0 Sl.nil)) (run_bd 40 _ rfl [(1, .agg (c25 f.pw f.pn)), (2, .bool f.toA)] rfl _ (by kernel_rfl)) ?_))
  simp only [z0, z1]
  refine s_store rfl rfl 40 _ _ rfl g1 0 rfl (.agg (c36 0 f.pw f.pn f.toA zF zF 0 0 0 0 0 Sl.nil Sl.nil zF 0 zF Sl.nil 0 0 Sl.nil)) rfl 40 _ kg1 (c36 0 f.pw f.pn f.toA zF zF 0 0 0 0 0 Sl.nil Sl.nil zF 0 zF Sl.nil 0 0 Sl.nil) rfl (by kernel_rfl) (Nat.le_of_ble_eq_true rfl) (by kernel_rfl) (c36 0 f.pw f.pn f.toA zF zF 0 0 0 0 0 Sl.nil Sl.nil zF 0 zF Sl.nil 0 0 Sl.nil) (by kernel_rfl) ?_
  intro w6 S
  replace kg2 := S.has (by omega) kg2
  replace GG := GG.store S bg1
  replace kg1 := S.new
  clear S
  refine mv 3 (.bool true) (wpList_nil (then_n (wp_ret (blk_r (then_r ?_)))))
  refine bodyPost_ret (results_cell_tmp Try.results17 _ _ g1 40 _ (0, 0) _ rfl (.bool true) rfl kg1 Try.underlying40 rfl (by kernel_rfl)) rfl ?_
  exact ⟨rfl, GG⟩
set_option maxRecDepth 100000 in
set_option maxHeartbeats 4000000 in
theorem fields_7 (f : Fr) (w : World) : Calls Try.prog 17 #[.iface 79 (.agg (c91 f.pw f.pn f.toA f.ids))] w fun e w' => e = .returned (.tuple #[.agg (c36 0 f.pw f.pn f.toA zF zF 0 0 0 0 0 Sl.nil f.ids zF 0 zF Sl.nil 0 0 Sl.nil), .bool true]) ∧ Gro w w' := by
  refine s_enterR Try.func17 rfl Try.ntmps17 [.iface 79 (.agg (c91 f.pw f.pn f.toA f.ids))] ?_
  intro U h; simp only [List.length_cons, List.length_nil, List.cons_append, List.nil_append, Nat.reduceAdd, Nat.reduceSub, List.reduceReplicate] at h; subst h
  have GG := Gro.refl w
  refine wp_seq (wp_region_lit ?_)
  refine s_alloc 2 rfl rfl 40 rfl _ zv36 _ rfl ?_
  intro w1 g1 G eg1 kg1
  have bg1 := size_base GG eg1
  replace GG := GG.trans G
  clear G eg1
  refine mv 3 (.bool false) (wpList_nil (then_n (wp_seq (wp_seq (wp_region_lit (mv 16 (.iface 79 (.agg (c91 f.pw f.pn f.toA f.ids))) ?_))))))
  simp only [z0, z1]
  refine wpList_nil (then_n (wp_block (wp_seq (wp_region_lit (sv 17 (.tuple #[.agg (c79 0 0 0 0 zF), .bool false]) (run_ta _ 23 67 true rfl _ _ rfl) (mv 18 (.bool false) (mv 19 (.agg (c79 0 0 0 0 zF)) ?_)))))))
  simp only [z0, z1]
  refine wpList_nil (then_n (wp_cond_false rfl (wp_seq (wp_region_lit (sv 27 (.tuple #[.agg (c81 0 0 0 0 0 Sl.nil), .bool false]) (run_ta _ 23 69 true rfl _ _ rfl) (mv 28 (.bool false) (mv 29 (.agg (c81 0 0 0 0 0 Sl.nil)) ?_)))))))
  simp only [z0, z1]
  refine wpList_nil (then_n (wp_cond_false rfl (wp_seq (wp_region_lit (sv 39 (.tuple #[.agg (c83 0 0 0 0 0), .bool false]) (run_ta _ 23 71 true rfl _ _ rfl) (mv 40 (.bool false) (mv 41 (.agg (c83 0 0 0 0 0)) ?_)))))))
  simp only [z0, z1]
  refine wpList_nil (then_n (wp_cond_false rfl (wp_seq (wp_region_lit (sv 49 (.tuple #[.agg (c85 zF 0 zF zF Sl.nil), .bool false]) (run_ta _ 23 73 true rfl _ _ rfl) (mv 50 (.bool false) (mv 51 (.agg (c85 zF 0 zF zF Sl.nil)) ?_)))))))
  simp only [z0, z1]
  refine wpList_nil (then_n (wp_cond_false rfl (wp_seq (wp_region_lit (sv 61 (.tuple #[.agg (c87 zF 0), .bool false]) (run_ta _ 23 75 true rfl _ _ rfl) (mv 62 (.bool false) (mv 63 (.agg (c87 zF 0)) ?_)))))))
  simp only [z0, z1]
  refine wpList_nil (then_n (wp_cond_false rfl (wp_seq (wp_region_lit (sv 67 (.tuple #[.agg (c89 zF 0 false), .bool false]) (run_ta _ 23 77 true rfl _ _ rfl) (mv 68 (.bool false) (mv 69 (.agg (c89 zF 0 false)) ?_)))))))
  simp only [z0, z1]
  refine wpList_nil (then_n (wp_cond_false rfl (wp_seq (wp_region_lit (sv 75 (.tuple #[.agg (c91 f.pw f.pn f.toA f.ids), .bool true]) (run_ta _ 23 79 true rfl _ _ rfl) (mv 76 (.bool true) (mv 77 (.agg (c91 f.pw f.pn f.toA f.ids)) ?_)))))))
  simp only [z0, z1]
  refine wpList_nil (then_n (wp_cond_true rfl (wp_seq (wp_region_lit ?_))))
  refine s_alloc 10 rfl rfl 79 rfl _ zv91 _ rfl ?_
  intro w2 g2 G eg2 kg2
  have bg2 := size_base GG eg2
  have dg1g2 := lt_new kg1 eg2
  replace kg1 := G.has kg1
  replace GG := GG.trans G
  clear G eg2
  refine s_store rfl rfl 79 _ _ rfl g2 0 rfl (.agg (c91 f.pw f.pn f.toA f.ids)) rfl 79 _ kg2 (c91 f.pw f.pn f.toA f.ids) rfl (by kernel_rfl) (Nat.le_of_ble_eq_true rfl) (by kernel_rfl) (c91 f.pw f.pn f.toA f.ids) (by kernel_rfl) ?_
  intro w4 S
  replace kg1 := S.has (by omega) kg1
  replace GG := GG.store S bg2
  replace kg2 := S.new
  clear S
  refine wpList_nil (then_n (wp_seq (wp_region_lit (sv 78 (.pointer (some ⟨g2, 0, none⟩)) (run_fld 79 _ 0 rfl _ _ rfl _) (sv 79 (.agg (c25 f.pw f.pn)) (run_lda 29 _ rfl g2 0 17 rfl 79 _ kg2 _ Try.underlying29 rfl si25 _) ?_)))))
  simp only [z0, z1]
  refine sv 80 (.pointer (some ⟨g2, 17, none⟩)) (run_fld 79 _ 1 rfl _ _ rfl _) (sv 81 (.bool f.toA) (run_ldc 4 _ rfl g2 17 rfl 79 _ kg2 (na4 _) _ rfl) (sv 82 (.pointer (some ⟨g2, 18, none⟩)) (run_fld 79 _ 2 rfl _ _ rfl _) ?_))
  simp only [z0, z1]
  refine sv 83 (.slice f.ids.ao f.ids.n f.ids.cap) (run_ldc 33 _ rfl g2 18 rfl 79 _ kg2 (na29 _) _ rfl) (sv 84 (.agg (c36 0 f.pw f.pn f.toA zF zF 0 0 0 0 0 Sl.nil f.ids zF 0 zF Sl.nil 0 0 Sl.nil)) (run_bd 40 _ rfl [(1, .agg (c25 f.pw f.pn)), (2, .bool f.toA), (9, .slice f.ids.ao f.ids.n f.ids.cap)] rfl _ (by kernel_rfl)) ?_)
  refine s_store rfl rfl 40 _ _ rfl g1 0 rfl (.agg (c36 0 f.pw f.pn f.toA zF zF 0 0 0 0 0 Sl.nil f.ids zF 0 zF Sl.nil 0 0 Sl.nil)) rfl 40 _ kg1 (c36 0 f.pw f.pn f.toA zF zF 0 0 0 0 0 Sl.nil f.ids zF 0 zF Sl.nil 0 0 Sl.nil) rfl (by kernel_rfl) (Nat.le_of_ble_eq_true rfl) (by kernel_rfl) (c36 0 f.pw f.pn f.toA zF zF 0 0 0 0 0 Sl.nil f.ids zF 0 zF Sl.nil 0 0 Sl.nil) (by kernel_rfl) ?_
  intro w6 S
  replace kg2 := S.has (by omega) kg2
  replace GG := GG.store S bg1
  replace kg1 := S.new
  clear S
  refine mv 3 (.bool true) ?_
  simp only [z0, z1]
  refine wpList_nil (then_n (wp_ret (blk_r (then_r ?_))))
  refine bodyPost_ret (results_cell_tmp Try.results17 _ _ g1 40 _ (0, 0) _ rfl (.bool true) rfl kg1 Try.underlying40 rfl (by kernel_rfl)) rfl ?_
  exact ⟨rfl, GG⟩
set_option maxRecDepth 100000 in
set_option maxHeartbeats 4000000 in
theorem fields_8 (f : Fr) (w : World) : Calls Try.prog 17 #[.iface 81 (.agg (c93 f.a f.b f.op f.pw f.pn f.toA f.tr))] w fun e w' => e = .returned (.tuple #[.agg (c36 0 f.pw f.pn f.toA f.a f.b 0 0 0 0 0 f.tr Sl.nil zF 0 zF Sl.nil f.op 0 Sl.nil), .bool true]) ∧ Gro w w' := by
  refine s_enterR Try.func17 rfl Try.ntmps17 [.iface 81 (.agg (c93 f.a f.b f.op f.pw f.pn f.toA f.tr))] ?_
  intro U h; simp only [List.length_cons, List.length_nil, List.cons_append, List.nil_append, Nat.reduceAdd, Nat.reduceSub, List.reduceReplicate] at h; subst h
  have GG := Gro.refl w
  refine wp_seq (wp_region_lit ?_)
  refine s_alloc 2 rfl rfl 40 rfl _ zv36 _ rfl ?_
  intro w1 g1 G eg1 kg1
  have bg1 := size_base GG eg1
  replace GG := GG.trans G
  clear G eg1
  refine mv 3 (.bool false) (wpList_nil (then_n (wp_seq (wp_seq (wp_region_lit (mv 16 (.iface 81 (.agg (c93 f.a f.b f.op f.pw f.pn f.toA f.tr))) ?_))))))
  simp only [z0, z1]
  refine wpList_nil (then_n (wp_block (wp_seq (wp_region_lit (sv 17 (.tuple #[.agg (c79 0 0 0 0 zF), .bool false]) (run_ta _ 23 67 true rfl _ _ rfl) (mv 18 (.bool false) (mv 19 (.agg (c79 0 0 0 0 zF)) ?_)))))))
  simp only [z0, z1]
  refine wpList_nil (then_n (wp_cond_false rfl (wp_seq (wp_region_lit (sv 27 (.tuple #[.agg (c81 0 0 0 0 0 Sl.nil), .bool false]) (run_ta _ 23 69 true rfl _ _ rfl) (mv 28 (.bool false) (mv 29 (.agg (c81 0 0 0 0 0 Sl.nil)) ?_)))))))
  simp only [z0, z1]
  refine wpList_nil (then_n (wp_cond_false rfl (wp_seq (wp_region_lit (sv 39 (.tuple #[.agg (c83 0 0 0 0 0), .bool false]) (run_ta _ 23 71 true rfl _ _ rfl) (mv 40 (.bool false) (mv 41 (.agg (c83 0 0 0 0 0)) ?_)))))))
  simp only [z0, z1]
  refine wpList_nil (then_n (wp_cond_false rfl (wp_seq (wp_region_lit (sv 49 (.tuple #[.agg (c85 zF 0 zF zF Sl.nil), .bool false]) (run_ta _ 23 73 true rfl _ _ rfl) (mv 50 (.bool false) (mv 51 (.agg (c85 zF 0 zF zF Sl.nil)) ?_)))))))
  simp only [z0, z1]
  refine wpList_nil (then_n (wp_cond_false rfl (wp_seq (wp_region_lit (sv 61 (.tuple #[.agg (c87 zF 0), .bool false]) (run_ta _ 23 75 true rfl _ _ rfl) (mv 62 (.bool false) (mv 63 (.agg (c87 zF 0)) ?_)))))))
  simp only [z0, z1]
  refine wpList_nil (then_n (wp_cond_false rfl (wp_seq (wp_region_lit (sv 67 (.tuple #[.agg (c89 zF 0 false), .bool false]) (run_ta _ 23 77 true rfl _ _ rfl) (mv 68 (.bool false) (mv 69 (.agg (c89 zF 0 false)) ?_)))))))
  simp only [z0, z1]
  refine wpList_nil (then_n (wp_cond_false rfl (wp_seq (wp_region_lit (sv 75 (.tuple #[.agg (c91 zF 0 false Sl.nil), .bool false]) (run_ta _ 23 79 true rfl _ _ rfl) (mv 76 (.bool false) (mv 77 (.agg (c91 zF 0 false Sl.nil)) ?_)))))))
  simp only [z0, z1]
  refine wpList_nil (then_n (wp_cond_false rfl (wp_seq (wp_region_lit (sv 85 (.tuple #[.agg (c93 f.a f.b f.op f.pw f.pn f.toA f.tr), .bool true]) (run_ta _ 23 81 true rfl _ _ rfl) (mv 86 (.bool true) (mv 87 (.agg (c93 f.a f.b f.op f.pw f.pn f.toA f.tr)) ?_)))))))
  simp only [z0, z1]
  refine wpList_nil (then_n (wp_cond_true rfl (wp_seq (wp_region_lit ?_))))
  refine s_alloc 11 rfl rfl 81 rfl _ zv93 _ rfl ?_
  intro w2 g2 G eg2 kg2
  have bg2 := size_base GG eg2
  have dg1g2 := lt_new kg1 eg2
  replace kg1 := G.has kg1
  replace GG := GG.trans G
  clear G eg2
  refine s_store rfl rfl 81 _ _ rfl g2 0 rfl (.agg (c93 f.a f.b f.op f.pw f.pn f.toA f.tr)) rfl 81 _ kg2 (c93 f.a f.b f.op f.pw f.pn f.toA f.tr) rfl (by kernel_rfl) (Nat.le_of_ble_eq_true rfl) (by kernel_rfl) (c93 f.a f.b f.op f.pw f.pn f.toA f.tr) (by kernel_rfl) ?_
  intro w4 S
  replace kg1 := S.has (by omega) kg1
  replace GG := GG.store S bg2
  replace kg2 := S.new
  clear S
  refine wpList_nil (then_n (wp_seq (wp_region_lit (sv 88 (.pointer (some ⟨g2, 0, none⟩)) (run_fld 81 _ 0 rfl _ _ rfl _) (sv 89 (.agg (c23 f.a)) (run_lda 27 _ rfl g2 0 16 rfl 81 _ kg2 _ Try.underlying27 rfl si23 _) ?_)))))
  simp only [z0, z1]
  refine sv 90 (.pointer (some ⟨g2, 16, none⟩)) (run_fld 81 _ 1 rfl _ _ rfl _) (sv 91 (.agg (c23 f.b)) (run_lda 27 _ rfl g2 16 16 rfl 81 _ kg2 _ Try.underlying27 rfl si23 _) (sv 92 (.pointer (some ⟨g2, 32, none⟩)) (run_fld 81 _ 2 rfl _ _ rfl _) ?_))
  simp only [z0, z1]
  refine sv 93 (.int .i64 f.op) (run_ldc 3 _ rfl g2 32 rfl 81 _ kg2 (na3 _) _ rfl) (sv 94 (.pointer (some ⟨g2, 33, none⟩)) (run_fld 81 _ 3 rfl _ _ rfl _) (sv 95 (.agg (c25 f.pw f.pn)) (run_lda 29 _ rfl g2 33 17 rfl 81 _ kg2 _ Try.underlying29 rfl si25 _) ?_))
  simp only [z0, z1]
  refine sv 96 (.pointer (some ⟨g2, 50, none⟩)) (run_fld 81 _ 4 rfl _ _ rfl _) (sv 97 (.bool f.toA) (run_ldc 4 _ rfl g2 50 rfl 81 _ kg2 (na4 _) _ rfl) (sv 98 (.pointer (some ⟨g2, 51, none⟩)) (run_fld 81 _ 5 rfl _ _ rfl _) ?_))
  simp only [z0, z1]
  refine sv 99 (.slice f.tr.ao f.tr.n f.tr.cap) (run_ldc 32 _ rfl g2 51 rfl 81 _ kg2 (na28 _) _ rfl) (sv 100 (.agg (c36 0 f.pw f.pn f.toA f.a f.b 0 0 0 0 0 f.tr Sl.nil zF 0 zF Sl.nil f.op 0 Sl.nil)) (run_bd 40 _ rfl [(3, .agg (c23 f.a)), (4, .agg (c23 f.b)), (11, .int .i64 f.op), (1, .agg (c25 f.pw f.pn)), (2, .bool f.toA), (8, .slice f.tr.ao f.tr.n f.tr.cap)] rfl _ (by kernel_rfl)) ?_)
  refine s_store rfl rfl 40 _ _ rfl g1 0 rfl (.agg (c36 0 f.pw f.pn f.toA f.a f.b 0 0 0 0 0 f.tr Sl.nil zF 0 zF Sl.nil f.op 0 Sl.nil)) rfl 40 _ kg1 (c36 0 f.pw f.pn f.toA f.a f.b 0 0 0 0 0 f.tr Sl.nil zF 0 zF Sl.nil f.op 0 Sl.nil) rfl (by kernel_rfl) (Nat.le_of_ble_eq_true rfl) (by kernel_rfl) (c36 0 f.pw f.pn f.toA f.a f.b 0 0 0 0 0 f.tr Sl.nil zF 0 zF Sl.nil f.op 0 Sl.nil) (by kernel_rfl) ?_
  intro w6 S
  replace kg2 := S.has (by omega) kg2
  replace GG := GG.store S bg1
  replace kg1 := S.new
  clear S
  refine mv 3 (.bool true) ?_
  simp only [z0, z1]
  refine wpList_nil (then_n (wp_ret (blk_r (then_r ?_))))
  refine bodyPost_ret (results_cell_tmp Try.results17 _ _ g1 40 _ (0, 0) _ rfl (.bool true) rfl kg1 Try.underlying40 rfl (by kernel_rfl)) rfl ?_
  exact ⟨rfl, GG⟩
set_option maxRecDepth 100000 in
set_option maxHeartbeats 4000000 in
theorem fields_9 (f : Fr) (w : World) : Calls Try.prog 17 #[.iface 83 (.agg (c95 f.a f.n))] w fun e w' => e = .returned (.tuple #[.agg (c36 0 zF 0 false f.a zF f.n 0 0 0 0 Sl.nil Sl.nil zF 0 zF Sl.nil 0 0 Sl.nil), .bool true]) ∧ Gro w w' := by
  refine s_enterR Try.func17 rfl Try.ntmps17 [.iface 83 (.agg (c95 f.a f.n))] ?_
  intro U h; simp only [List.length_cons, List.length_nil, List.cons_append, List.nil_append, Nat.reduceAdd, Nat.reduceSub, List.reduceReplicate] at h; subst h
  have GG := Gro.refl w
  refine wp_seq (wp_region_lit ?_)
  refine s_alloc 2 rfl rfl 40 rfl _ zv36 _ rfl ?_
  intro w1 g1 G eg1 kg1
  have bg1 := size_base GG eg1
  replace GG := GG.trans G
  clear G eg1
  refine mv 3 (.bool false) (wpList_nil (then_n (wp_seq (wp_seq (wp_region_lit (mv 16 (.iface 83 (.agg (c95 f.a f.n))) ?_))))))
  simp only [z0, z1]
  refine wpList_nil (then_n (wp_block (wp_seq (wp_region_lit (sv 17 (.tuple #[.agg (c79 0 0 0 0 zF), .bool false]) (run_ta _ 23 67 true rfl _ _ rfl) (mv 18 (.bool false) (mv 19 (.agg (c79 0 0 0 0 zF)) ?_)))))))
  simp only [z0, z1]
  refine wpList_nil (then_n (wp_cond_false rfl (wp_seq (wp_region_lit (sv 27 (.tuple #[.agg (c81 0 0 0 0 0 Sl.nil), .bool false]) (run_ta _ 23 69 true rfl _ _ rfl) (mv 28 (.bool false) (mv 29 (.agg (c81 0 0 0 0 0 Sl.nil)) ?_)))))))
  simp only [z0, z1]
  refine wpList_nil (then_n (wp_cond_false rfl (wp_seq (wp_region_lit (sv 39 (.tuple #[.agg (c83 0 0 0 0 0), .bool false]) (run_ta _ 23 71 true rfl _ _ rfl) (mv 40 (.bool false) (mv 41 (.agg (c83 0 0 0 0 0)) ?_)))))))
  simp only [z0, z1]
  refine wpList_nil (then_n (wp_cond_false rfl (wp_seq (wp_region_lit (sv 49 (.tuple #[.agg (c85 zF 0 zF zF Sl.nil), .bool false]) (run_ta _ 23 73 true rfl _ _ rfl) (mv 50 (.bool false) (mv 51 (.agg (c85 zF 0 zF zF Sl.nil)) ?_)))))))
  simp only [z0, z1]
  refine wpList_nil (then_n (wp_cond_false rfl (wp_seq (wp_region_lit (sv 61 (.tuple #[.agg (c87 zF 0), .bool false]) (run_ta _ 23 75 true rfl _ _ rfl) (mv 62 (.bool false) (mv 63 (.agg (c87 zF 0)) ?_)))))))
  simp only [z0, z1]
  refine wpList_nil (then_n (wp_cond_false rfl (wp_seq (wp_region_lit (sv 67 (.tuple #[.agg (c89 zF 0 false), .bool false]) (run_ta _ 23 77 true rfl _ _ rfl) (mv 68 (.bool false) (mv 69 (.agg (c89 zF 0 false)) ?_)))))))
  simp only [z0, z1]
  refine wpList_nil (then_n (wp_cond_false rfl (wp_seq (wp_region_lit (sv 75 (.tuple #[.agg (c91 zF 0 false Sl.nil), .bool false]) (run_ta _ 23 79 true rfl _ _ rfl) (mv 76 (.bool false) (mv 77 (.agg (c91 zF 0 false Sl.nil)) ?_)))))))
  simp only [z0, z1]
  refine wpList_nil (then_n (wp_cond_false rfl (wp_seq (wp_region_lit (sv 85 (.tuple #[.agg (c93 zF zF 0 zF 0 false Sl.nil), .bool false]) (run_ta _ 23 81 true rfl _ _ rfl) (mv 86 (.bool false) (mv 87 (.agg (c93 zF zF 0 zF 0 false Sl.nil)) ?_)))))))
  simp only [z0, z1]
  refine wpList_nil (then_n (wp_cond_false rfl (wp_seq (wp_region_lit (sv 101 (.tuple #[.agg (c95 f.a f.n), .bool true]) (run_ta _ 23 83 true rfl _ _ rfl) (mv 102 (.bool true) (mv 103 (.agg (c95 f.a f.n)) ?_)))))))
  simp only [z0, z1]
  refine wpList_nil (then_n (wp_cond_true rfl (wp_seq (wp_region_lit ?_))))
  refine s_alloc 12 rfl rfl 83 rfl _ zv95 _ rfl ?_
  intro w2 g2 G eg2 kg2
  have bg2 := size_base GG eg2
  have dg1g2 := lt_new kg1 eg2
  replace kg1 := G.has kg1
  replace GG := GG.trans G
  clear G eg2
  refine s_store rfl rfl 83 _ _ rfl g2 0 rfl (.agg (c95 f.a f.n)) rfl 83 _ kg2 (c95 f.a f.n) rfl (by kernel_rfl) (Nat.le_of_ble_eq_true rfl) (by kernel_rfl) (c95 f.a f.n) (by kernel_rfl) ?_
  intro w4 S
  replace kg1 := S.has (by omega) kg1
  replace GG := GG.store S bg2
  replace kg2 := S.new
  clear S
  refine wpList_nil (then_n (wp_seq (wp_region_lit (sv 104 (.pointer (some ⟨g2, 0, none⟩)) (run_fld 83 _ 0 rfl _ _ rfl _) (sv 105 (.agg (c23 f.a)) (run_lda 27 _ rfl g2 0 16 rfl 83 _ kg2 _ Try.underlying27 rfl si23 _) ?_)))))
  simp only [z0, z1]
  refine sv 106 (.pointer (some ⟨g2, 16, none⟩)) (run_fld 83 _ 1 rfl _ _ rfl _) (sv 107 (.int .i64 f.n) (run_ldc 2 _ rfl g2 16 rfl 83 _ kg2 (na2 _) _ rfl) (sv 108 (.agg (c36 0 zF 0 false f.a zF f.n 0 0 0 0 Sl.nil Sl.nil zF 0 zF Sl.nil 0 0 Sl.nil)) (run_bd 40 _ rfl [(3, .agg (c23 f.a)), (5, .int .i64 f.n)] rfl _ (by kernel_rfl)) ?_))
  simp only [z0, z1]
  refine s_store rfl rfl 40 _ _ rfl g1 0 rfl (.agg (c36 0 zF 0 false f.a zF f.n 0 0 0 0 Sl.nil Sl.nil zF 0 zF Sl.nil 0 0 Sl.nil)) rfl 40 _ kg1 (c36 0 zF 0 false f.a zF f.n 0 0 0 0 Sl.nil Sl.nil zF 0 zF Sl.nil 0 0 Sl.nil) rfl (by kernel_rfl) (Nat.le_of_ble_eq_true rfl) (by kernel_rfl) (c36 0 zF 0 false f.a zF f.n 0 0 0 0 Sl.nil Sl.nil zF 0 zF Sl.nil 0 0 Sl.nil) (by kernel_rfl) ?_
  intro w6 S
  replace kg2 := S.has (by omega) kg2
  replace GG := GG.store S bg1
  replace kg1 := S.new
  clear S
  refine mv 3 (.bool true) (wpList_nil (then_n (wp_ret (blk_r (then_r ?_)))))
  refine bodyPost_ret (results_cell_tmp Try.results17 _ _ g1 40 _ (0, 0) _ rfl (.bool true) rfl kg1 Try.underlying40 rfl (by kernel_rfl)) rfl ?_
  exact ⟨rfl, GG⟩
set_option maxRecDepth 100000 in
set_option maxHeartbeats 4000000 in
theorem fields_10 (f : Fr) (w : World) : Calls Try.prog 17 #[.iface 85 (.agg (c97 f.a f.b f.n f.op f.ttl f.key f.vn f.vw f.val f.tx))] w fun e w' => e = .returned (.tuple #[.agg (c36 0 zF 0 false f.a f.b f.n 0 0 0 0 Sl.nil Sl.nil f.key f.vn f.vw f.val f.op f.ttl f.tx), .bool true]) ∧ Gro w w' := by
  refine s_enterR Try.func17 rfl Try.ntmps17 [.iface 85 (.agg (c97 f.a f.b f.n f.op f.ttl f.key f.vn f.vw f.val f.tx))] ?_
  intro U h; simp only [List.length_cons, List.length_nil, List.cons_append, List.nil_append, Nat.reduceAdd, Nat.reduceSub, List.reduceReplicate] at h; subst h
  have GG := Gro.refl w
  refine wp_seq (wp_region_lit ?_)
  refine s_alloc 2 rfl rfl 40 rfl _ zv36 _ rfl ?_
  intro w1 g1 G eg1 kg1
  have bg1 := size_base GG eg1
  replace GG := GG.trans G
  clear G eg1
  refine mv 3 (.bool false) (wpList_nil (then_n (wp_seq (wp_seq (wp_region_lit (mv 16 (.iface 85 (.agg (c97 f.a f.b f.n f.op f.ttl f.key f.vn f.vw f.val f.tx))) ?_))))))
  simp only [z0, z1]
  refine wpList_nil (then_n (wp_block (wp_seq (wp_region_lit (sv 17 (.tuple #[.agg (c79 0 0 0 0 zF), .bool false]) (run_ta _ 23 67 true rfl _ _ rfl) (mv 18 (.bool false) (mv 19 (.agg (c79 0 0 0 0 zF)) ?_)))))))
  simp only [z0, z1]
  refine wpList_nil (then_n (wp_cond_false rfl (wp_seq (wp_region_lit (sv 27 (.tuple #[.agg (c81 0 0 0 0 0 Sl.nil), .bool false]) (run_ta _ 23 69 true rfl _ _ rfl) (mv 28 (.bool false) (mv 29 (.agg (c81 0 0 0 0 0 Sl.nil)) ?_)))))))
  simp only [z0, z1]
  refine wpList_nil (then_n (wp_cond_false rfl (wp_seq (wp_region_lit (sv 39 (.tuple #[.agg (c83 0 0 0 0 0), .bool false]) (run_ta _ 23 71 true rfl _ _ rfl) (mv 40 (.bool false) (mv 41 (.agg (c83 0 0 0 0 0)) ?_)))))))
  simp only [z0, z1]
  refine wpList_nil (then_n (wp_cond_false rfl (wp_seq (wp_region_lit (sv 49 (.tuple #[.agg (c85 zF 0 zF zF Sl.nil), .bool false]) (run_ta _ 23 73 true rfl _ _ rfl) (mv 50 (.bool false) (mv 51 (.agg (c85 zF 0 zF zF Sl.nil)) ?_)))))))
  simp only [z0, z1]
  refine wpList_nil (then_n (wp_cond_false rfl (wp_seq (wp_region_lit (sv 61 (.tuple #[.agg (c87 zF 0), .bool false]) (run_ta _ 23 75 true rfl _ _ rfl) (mv 62 (.bool false) (mv 63 (.agg (c87 zF 0)) ?_)))))))
  simp only [z0, z1]
  refine wpList_nil (then_n (wp_cond_false rfl (wp_seq (wp_region_lit (sv 67 (.tuple #[.agg (c89 zF 0 false), .bool false]) (run_ta _ 23 77 true rfl _ _ rfl) (mv 68 (.bool false) (mv 69 (.agg (c89 zF 0 false)) ?_)))))))
  simp only [z0, z1]
  refine wpList_nil (then_n (wp_cond_false rfl (wp_seq (wp_region_lit (sv 75 (.tuple #[.agg (c91 zF 0 false Sl.nil), .bool false]) (run_ta _ 23 79 true rfl _ _ rfl) (mv 76 (.bool false) (mv 77 (.agg (c91 zF 0 false Sl.nil)) ?_)))))))
  simp only [z0, z1]
  refine wpList_nil (then_n (wp_cond_false rfl (wp_seq (wp_region_lit (sv 85 (.tuple #[.agg (c93 zF zF 0 zF 0 false Sl.nil), .bool false]) (run_ta _ 23 81 true rfl _ _ rfl) (mv 86 (.bool false) (mv 87 (.agg (c93 zF zF 0 zF 0 false Sl.nil)) ?_)))))))
  simp only [z0, z1]
  refine wpList_nil (then_n (wp_cond_false rfl (wp_seq (wp_region_lit (sv 101 (.tuple #[.agg (c95 zF 0), .bool false]) (run_ta _ 23 83 true rfl _ _ rfl) (mv 102 (.bool false) (mv 103 (.agg (c95 zF 0)) ?_)))))))
  simp only [z0, z1]
  refine wpList_nil (then_n (wp_cond_false rfl (wp_seq (wp_region_lit (sv 109 (.tuple #[.agg (c97 f.a f.b f.n f.op f.ttl f.key f.vn f.vw f.val f.tx), .bool true]) (run_ta _ 23 85 true rfl _ _ rfl) (mv 110 (.bool true) (mv 111 (.agg (c97 f.a f.b f.n f.op f.ttl f.key f.vn f.vw f.val f.tx)) ?_)))))))
  simp only [z0, z1]
  refine wpList_nil (then_n (wp_cond_true rfl (wp_seq (wp_region_lit ?_))))
  refine s_alloc 13 rfl rfl 85 rfl _ zv97 _ rfl ?_
  intro w2 g2 G eg2 kg2
  have bg2 := size_base GG eg2
  have dg1g2 := lt_new kg1 eg2
  replace kg1 := G.has kg1
  replace GG := GG.trans G
  clear G eg2
  refine s_store rfl rfl 85 _ _ rfl g2 0 rfl (.agg (c97 f.a f.b f.n f.op f.ttl f.key f.vn f.vw f.val f.tx)) rfl 85 _ kg2 (c97 f.a f.b f.n f.op f.ttl f.key f.vn f.vw f.val f.tx) rfl (by kernel_rfl) (Nat.le_of_ble_eq_true rfl) (by kernel_rfl) (c97 f.a f.b f.n f.op f.ttl f.key f.vn f.vw f.val f.tx) (by kernel_rfl) ?_
  intro w4 S
  replace kg1 := S.has (by omega) kg1
  replace GG := GG.store S bg2
  replace kg2 := S.new
  clear S
  refine wpList_nil (then_n (wp_seq (wp_region_lit (sv 112 (.pointer (some ⟨g2, 0, none⟩)) (run_fld 85 _ 0 rfl _ _ rfl _) (sv 113 (.agg (c23 f.a)) (run_lda 27 _ rfl g2 0 16 rfl 85 _ kg2 _ Try.underlying27 rfl si23 _) ?_)))))
  simp only [z0, z1]
  refine sv 114 (.pointer (some ⟨g2, 16, none⟩)) (run_fld 85 _ 1 rfl _ _ rfl _) (sv 115 (.agg (c23 f.b)) (run_lda 27 _ rfl g2 16 16 rfl 85 _ kg2 _ Try.underlying27 rfl si23 _) (sv 116 (.pointer (some ⟨g2, 32, none⟩)) (run_fld 85 _ 2 rfl _ _ rfl _) ?_))
  simp only [z0, z1]
  refine sv 117 (.int .i64 f.n) (run_ldc 2 _ rfl g2 32 rfl 85 _ kg2 (na2 _) _ rfl) (sv 118 (.pointer (some ⟨g2, 33, none⟩)) (run_fld 85 _ 3 rfl _ _ rfl _) (sv 119 (.int .i64 f.op) (run_ldc 3 _ rfl g2 33 rfl 85 _ kg2 (na3 _) _ rfl) ?_))
  simp only [z0, z1]
  refine sv 120 (.pointer (some ⟨g2, 34, none⟩)) (run_fld 85 _ 4 rfl _ _ rfl _) (sv 121 (.int .i64 f.ttl) (run_ldc 3 _ rfl g2 34 rfl 85 _ kg2 (na3 _) _ rfl) (sv 122 (.pointer (some ⟨g2, 35, none⟩)) (run_fld 85 _ 5 rfl _ _ rfl _) ?_))
  simp only [z0, z1]
  refine sv 123 (.agg (c34 f.key f.vn f.vw f.val)) (run_lda 38 _ rfl g2 35 34 rfl 85 _ kg2 _ Try.underlying38 rfl si34 _) (sv 124 (.pointer (some ⟨g2, 69, none⟩)) (run_fld 85 _ 6 rfl _ _ rfl _) (sv 125 (.slice f.tx.ao f.tx.n f.tx.cap) (run_ldc 36 _ rfl g2 69 rfl 85 _ kg2 (na32 _) _ rfl) ?_))
  simp only [z0, z1]
  refine sv 126 (.agg (c36 0 zF 0 false f.a f.b f.n 0 0 0 0 Sl.nil Sl.nil f.key f.vn f.vw f.val f.op f.ttl f.tx)) (run_bd 40 _ rfl [(3, .agg (c23 f.a)), (4, .agg (c23 f.b)), (5, .int .i64 f.n), (11, .int .i64 f.op), (12, .int .i64 f.ttl), (10, .agg (c34 f.key f.vn f.vw f.val)), (13, .slice f.tx.ao f.tx.n f.tx.cap)] rfl _ (by kernel_rfl)) ?_
  refine s_store rfl rfl 40 _ _ rfl g1 0 rfl (.agg (c36 0 zF 0 false f.a f.b f.n 0 0 0 0 Sl.nil Sl.nil f.key f.vn f.vw f.val f.op f.ttl f.tx)) rfl 40 _ kg1 (c36 0 zF 0 false f.a f.b f.n 0 0 0 0 Sl.nil Sl.nil f.key f.vn f.vw f.val f.op f.ttl f.tx) rfl (by kernel_rfl) (Nat.le_of_ble_eq_true rfl) (by kernel_rfl) (c36 0 zF 0 false f.a f.b f.n 0 0 0 0 Sl.nil Sl.nil f.key f.vn f.vw f.val f.op f.ttl f.tx) (by kernel_rfl) ?_
  intro w6 S
  replace kg2 := S.has (by omega) kg2
  replace GG := GG.store S bg1
  replace kg1 := S.new
  clear S
  refine mv 3 (.bool true) (wpList_nil (then_n (wp_ret (blk_r (then_r ?_)))))
  refine bodyPost_ret (results_cell_tmp Try.results17 _ _ g1 40 _ (0, 0) _ rfl (.bool true) rfl kg1 Try.underlying40 rfl (by kernel_rfl)) rfl ?_
  exact ⟨rfl, GG⟩
set_option maxRecDepth 100000 in
set_option maxHeartbeats 4000000 in
theorem fields_11 (f : Fr) (w : World) : Calls Try.prog 17 #[.iface 87 (.agg (c99 f.pw f.pn f.toA f.key f.vn f.vw f.val))] w fun e w' => e = .returned (.tuple #[.agg (c36 0 f.pw f.pn f.toA zF zF 0 0 0 0 0 Sl.nil Sl.nil f.key f.vn f.vw f.val 0 0 Sl.nil), .bool true]) ∧ Gro w w' := by
  refine s_enterR Try.func17 rfl Try.ntmps17 [.iface 87 (.agg (c99 f.pw f.pn f.toA f.key f.vn f.vw f.val))] ?_
  intro U h; simp only [List.length_cons, List.length_nil, List.cons_append, List.nil_append, Nat.reduceAdd, Nat.reduceSub, List.reduceReplicate] at h; subst h
  have GG := Gro.refl w
  refine wp_seq (wp_region_lit ?_)
  refine s_alloc 2 rfl rfl 40 rfl _ zv36 _ rfl ?_
  intro w1 g1 G eg1 kg1
  have bg1 := size_base GG eg1
  replace GG := GG.trans G
  clear G eg1
  refine mv 3 (.bool false) (wpList_nil (then_n (wp_seq (wp_seq (wp_region_lit (mv 16 (.iface 87 (.agg (c99 f.pw f.pn f.toA f.key f.vn f.vw f.val))) ?_))))))
  simp only [z0, z1]
  refine wpList_nil (then_n (wp_block (wp_seq (wp_region_lit (sv 17 (.tuple #[.agg (c79 0 0 0 0 zF), .bool false]) (run_ta _ 23 67 true rfl _ _ rfl) (mv 18 (.bool false) (mv 19 (.agg (c79 0 0 0 0 zF)) ?_)))))))
  simp only [z0, z1]
  refine wpList_nil (then_n (wp_cond_false rfl (wp_seq (wp_region_lit (sv 27 (.tuple #[.agg (c81 0 0 0 0 0 Sl.nil), .bool false]) (run_ta _ 23 69 true rfl _ _ rfl) (mv 28 (.bool false) (mv 29 (.agg (c81 0 0 0 0 0 Sl.nil)) ?_)))))))
  simp only [z0, z1]
  refine wpList_nil (then_n (wp_cond_false rfl (wp_seq (wp_region_lit (sv 39 (.tuple #[.agg (c83 0 0 0 0 0), .bool false]) (run_ta _ 23 71 true rfl _ _ rfl) (mv 40 (.bool false) (mv 41 (.agg (c83 0 0 0 0 0)) ?_)))))))
  simp only [z0, z1]
  refine wpList_nil (then_n (wp_cond_false rfl (wp_seq (wp_region_lit (sv 49 (.tuple #[.agg (c85 zF 0 zF zF Sl.nil), .bool false]) (run_ta _ 23 73 true rfl _ _ rfl) (mv 50 (.bool false) (mv 51 (.agg (c85 zF 0 zF zF Sl.nil)) ?_)))))))
  simp only [z0, z1]
  refine wpList_nil (then_n (wp_cond_false rfl (wp_seq (wp_region_lit (sv 61 (.tuple #[.agg (c87 zF 0), .bool false]) (run_ta _ 23 75 true rfl _ _ rfl) (mv 62 (.bool false) (mv 63 (.agg (c87 zF 0)) ?_)))))))
  simp only [z0, z1]
  refine wpList_nil (then_n (wp_cond_false rfl (wp_seq (wp_region_lit (sv 67 (.tuple #[.agg (c89 zF 0 false), .bool false]) (run_ta _ 23 77 true rfl _ _ rfl) (mv 68 (.bool false) (mv 69 (.agg (c89 zF 0 false)) ?_)))))))
  simp only [z0, z1]
  refine wpList_nil (then_n (wp_cond_false rfl (wp_seq (wp_region_lit (sv 75 (.tuple #[.agg (c91 zF 0 false Sl.nil), .bool false]) (run_ta _ 23 79 true rfl _ _ rfl) (mv 76 (.bool false) (mv 77 (.agg (c91 zF 0 false Sl.nil)) ?_)))))))
  simp only [z0, z1]
  refine wpList_nil (then_n (wp_cond_false rfl (wp_seq (wp_region_lit (sv 85 (.tuple #[.agg (c93 zF zF 0 zF 0 false Sl.nil), .bool false]) (run_ta _ 23 81 true rfl _ _ rfl) (mv 86 (.bool false) (mv 87 (.agg (c93 zF zF 0 zF 0 false Sl.nil)) ?_)))))))
  simp only [z0, z1]
  refine wpList_nil (then_n (wp_cond_false rfl (wp_seq (wp_region_lit (sv 101 (.tuple #[.agg (c95 zF 0), .bool false]) (run_ta _ 23 83 true rfl _ _ rfl) (mv 102 (.bool false) (mv 103 (.agg (c95 zF 0)) ?_)))))))
  simp only [z0, z1]
  refine wpList_nil (then_n (wp_cond_false rfl (wp_seq (wp_region_lit (sv 109 (.tuple #[.agg (c97 zF zF 0 0 0 zF 0 zF Sl.nil Sl.nil), .bool false]) (run_ta _ 23 85 true rfl _ _ rfl) (mv 110 (.bool false) (mv 111 (.agg (c97 zF zF 0 0 0 zF 0 zF Sl.nil Sl.nil)) ?_)))))))
  simp only [z0, z1]
  refine wpList_nil (then_n (wp_cond_false rfl (wp_seq (wp_region_lit (sv 127 (.tuple #[.agg (c99 f.pw f.pn f.toA f.key f.vn f.vw f.val), .bool true]) (run_ta _ 23 87 true rfl _ _ rfl) (mv 128 (.bool true) (mv 129 (.agg (c99 f.pw f.pn f.toA f.key f.vn f.vw f.val)) ?_)))))))
  simp only [z0, z1]
  refine wpList_nil (then_n (wp_cond_true rfl (wp_seq (wp_region_lit ?_))))
  refine s_alloc 14 rfl rfl 87 rfl _ zv99 _ rfl ?_
  intro w2 g2 G eg2 kg2
  have bg2 := size_base GG eg2
  have dg1g2 := lt_new kg1 eg2
  replace kg1 := G.has kg1
  replace GG := GG.trans G
  clear G eg2
  refine s_store rfl rfl 87 _ _ rfl g2 0 rfl (.agg (c99 f.pw f.pn f.toA f.key f.vn f.vw f.val)) rfl 87 _ kg2 (c99 f.pw f.pn f.toA f.key f.vn f.vw f.val) rfl (by kernel_rfl) (Nat.le_of_ble_eq_true rfl) (by kernel_rfl) (c99 f.pw f.pn f.toA f.key f.vn f.vw f.val) (by kernel_rfl) ?_
  intro w4 S
  replace kg1 := S.has (by omega) kg1
  replace GG := GG.store S bg2
  replace kg2 := S.new
  clear S
  refine wpList_nil (then_n (wp_seq (wp_region_lit (sv 130 (.pointer (some ⟨g2, 0, none⟩)) (run_fld 87 _ 0 rfl _ _ rfl _) (sv 131 (.agg (c25 f.pw f.pn)) (run_lda 29 _ rfl g2 0 17 rfl 87 _ kg2 _ Try.underlying29 rfl si25 _) ?_)))))
  simp only [z0, z1]
  refine sv 132 (.pointer (some ⟨g2, 17, none⟩)) (run_fld 87 _ 1 rfl _ _ rfl _) (sv 133 (.bool f.toA) (run_ldc 4 _ rfl g2 17 rfl 87 _ kg2 (na4 _) _ rfl) (sv 134 (.pointer (some ⟨g2, 18, none⟩)) (run_fld 87 _ 2 rfl _ _ rfl _) ?_))
  simp only [z0, z1]
  refine sv 135 (.agg (c34 f.key f.vn f.vw f.val)) (run_lda 38 _ rfl g2 18 34 rfl 87 _ kg2 _ Try.underlying38 rfl si34 _) (sv 136 (.agg (c36 0 f.pw f.pn f.toA zF zF 0 0 0 0 0 Sl.nil Sl.nil f.key f.vn f.vw f.val 0 0 Sl.nil)) (run_bd 40 _ rfl [(1, .agg (c25 f.pw f.pn)), (2, .bool f.toA), (10, .agg (c34 f.key f.vn f.vw f.val))] rfl _ (by kernel_rfl)) ?_)
  refine s_store rfl rfl 40 _ _ rfl g1 0 rfl (.agg (c36 0 f.pw f.pn f.toA zF zF 0 0 0 0 0 Sl.nil Sl.nil f.key f.vn f.vw f.val 0 0 Sl.nil)) rfl 40 _ kg1 (c36 0 f.pw f.pn f.toA zF zF 0 0 0 0 0 Sl.nil Sl.nil f.key f.vn f.vw f.val 0 0 Sl.nil) rfl (by kernel_rfl) (Nat.le_of_ble_eq_true rfl) (by kernel_rfl) (c36 0 f.pw f.pn f.toA zF zF 0 0 0 0 0 Sl.nil Sl.nil f.key f.vn f.vw f.val 0 0 Sl.nil) (by kernel_rfl) ?_
  intro w6 S
  replace kg2 := S.has (by omega) kg2
  replace GG := GG.store S bg1
  replace kg1 := S.new
  clear S
  refine mv 3 (.bool true) ?_
  simp only [z0, z1]
  refine wpList_nil (then_n (wp_ret (blk_r (then_r ?_))))
  refine bodyPost_ret (results_cell_tmp Try.results17 _ _ g1 40 _ (0, 0) _ rfl (.bool true) rfl kg1 Try.underlying40 rfl (by kernel_rfl)) rfl ?_
  exact ⟨rfl, GG⟩
set_option maxRecDepth 100000 in
set_option maxHeartbeats 4000000 in
theorem fields_12 (f : Fr) (w : World) : Calls Try.prog 17 #[.iface 89 (.agg (c101 f.pw f.pn f.toA f.key f.vn f.vw))] w fun e w' => e = .returned (.tuple #[.agg (c36 0 f.pw f.pn f.toA zF zF 0 0 0 0 0 Sl.nil Sl.nil f.key f.vn f.vw Sl.nil 0 0 Sl.nil), .bool true]) ∧ Gro w w' := by
  refine s_enterR Try.func17 rfl Try.ntmps17 [.iface 89 (.agg (c101 f.pw f.pn f.toA f.key f.vn f.vw))] ?_
  intro U h; simp only [List.length_cons, List.length_nil, List.cons_append, List.nil_append, Nat.reduceAdd, Nat.reduceSub, List.reduceReplicate] at h; subst h
  have GG := Gro.refl w
  refine wp_seq (wp_region_lit ?_)
  refine s_alloc 2 rfl rfl 40 rfl _ zv36 _ rfl ?_
  intro w1 g1 G eg1 kg1
  have bg1 := size_base GG eg1
  replace GG := GG.trans G
  clear G eg1
  refine mv 3 (.bool false) (wpList_nil (then_n (wp_seq (wp_seq (wp_region_lit (mv 16 (.iface 89 (.agg (c101 f.pw f.pn f.toA f.key f.vn f.vw))) ?_))))))
  simp only [z0, z1]
  refine wpList_nil (then_n (wp_block (wp_seq (wp_region_lit (sv 17 (.tuple #[.agg (c79 0 0 0 0 zF), .bool false]) (run_ta _ 23 67 true rfl _ _ rfl) (mv 18 (.bool false) (mv 19 (.agg (c79 0 0 0 0 zF)) ?_)))))))
  simp only [z0, z1]
  refine wpList_nil (then_n (wp_cond_false rfl (wp_seq (wp_region_lit (sv 27 (.tuple #[.agg (c81 0 0 0 0 0 Sl.nil), .bool false]) (run_ta _ 23 69 true rfl _ _ rfl) (mv 28 (.bool false) (mv 29 (.agg (c81 0 0 0 0 0 Sl.nil)) ?_)))))))
  simp only [z0, z1]
  refine wpList_nil (then_n (wp_cond_false rfl (wp_seq (wp_region_lit (sv 39 (.tuple #[.agg (c83 0 0 0 0 0), .bool false]) (run_ta _ 23 71 true rfl _ _ rfl) (mv 40 (.bool false) (mv 41 (.agg (c83 0 0 0 0 0)) ?_)))))))
  simp only [z0, z1]
  refine wpList_nil (then_n (wp_cond_false rfl (wp_seq (wp_region_lit (sv 49 (.tuple #[.agg (c85 zF 0 zF zF Sl.nil), .bool false]) (run_ta _ 23 73 true rfl _ _ rfl) (mv 50 (.bool false) (mv 51 (.agg (c85 zF 0 zF zF Sl.nil)) ?_)))))))
  simp only [z0, z1]
  refine wpList_nil (then_n (wp_cond_false rfl (wp_seq (wp_region_lit (sv 61 (.tuple #[.agg (c87 zF 0), .bool false]) (run_ta _ 23 75 true rfl _ _ rfl) (mv 62 (.bool false) (mv 63 (.agg (c87 zF 0)) ?_)))))))
  simp only [z0, z1]
  refine wpList_nil (then_n (wp_cond_false rfl (wp_seq (wp_region_lit (sv 67 (.tuple #[.agg (c89 zF 0 false), .bool false]) (run_ta _ 23 77 true rfl _ _ rfl) (mv 68 (.bool false) (mv 69 (.agg (c89 zF 0 false)) ?_)))))))
  simp only [z0, z1]
  refine wpList_nil (then_n (wp_cond_false rfl (wp_seq (wp_region_lit (sv 75 (.tuple #[.agg (c91 zF 0 false Sl.nil), .bool false]) (run_ta _ 23 79 true rfl _ _ rfl) (mv 76 (.bool false) (mv 77 (.agg (c91 zF 0 false Sl.nil)) ?_)))))))
  simp only [z0, z1]
  refine wpList_nil (then_n (wp_cond_false rfl (wp_seq (wp_region_lit (sv 85 (.tuple #[.agg (c93 zF zF 0 zF 0 false Sl.nil), .bool false]) (run_ta _ 23 81 true rfl _ _ rfl) (mv 86 (.bool false) (mv 87 (.agg (c93 zF zF 0 zF 0 false Sl.nil)) ?_)))))))
  simp only [z0, z1]
  refine wpList_nil (then_n (wp_cond_false rfl (wp_seq (wp_region_lit (sv 101 (.tuple #[.agg (c95 zF 0), .bool false]) (run_ta _ 23 83 true rfl _ _ rfl) (mv 102 (.bool false) (mv 103 (.agg (c95 zF 0)) ?_)))))))
  simp only [z0, z1]
  refine wpList_nil (then_n (wp_cond_false rfl (wp_seq (wp_region_lit (sv 109 (.tuple #[.agg (c97 zF zF 0 0 0 zF 0 zF Sl.nil Sl.nil), .bool false]) (run_ta _ 23 85 true rfl _ _ rfl) (mv 110 (.bool false) (mv 111 (.agg (c97 zF zF 0 0 0 zF 0 zF Sl.nil Sl.nil)) ?_)))))))
  simp only [z0, z1]
  refine wpList_nil (then_n (wp_cond_false rfl (wp_seq (wp_region_lit (sv 127 (.tuple #[.agg (c99 zF 0 false zF 0 zF Sl.nil), .bool false]) (run_ta _ 23 87 true rfl _ _ rfl) (mv 128 (.bool false) (mv 129 (.agg (c99 zF 0 false zF 0 zF Sl.nil)) ?_)))))))
  simp only [z0, z1]
  refine wpList_nil (then_n (wp_cond_false rfl (wp_seq (wp_region_lit (sv 137 (.tuple #[.agg (c101 f.pw f.pn f.toA f.key f.vn f.vw), .bool true]) (run_ta _ 23 89 true rfl _ _ rfl) (mv 138 (.bool true) (mv 139 (.agg (c101 f.pw f.pn f.toA f.key f.vn f.vw)) ?_)))))))
  simp only [z0, z1]
  refine wpList_nil (then_n (wp_cond_true rfl (wp_seq (wp_region_lit ?_))))
  refine s_alloc 15 rfl rfl 89 rfl _ zv101 _ rfl ?_
  intro w2 g2 G eg2 kg2
  have bg2 := size_base GG eg2
  have dg1g2 := lt_new kg1 eg2
  replace kg1 := G.has kg1
  replace GG := GG.trans G
  clear G eg2
  refine s_store rfl rfl 89 _ _ rfl g2 0 rfl (.agg (c101 f.pw f.pn f.toA f.key f.vn f.vw)) rfl 89 _ kg2 (c101 f.pw f.pn f.toA f.key f.vn f.vw) rfl (by kernel_rfl) (Nat.le_of_ble_eq_true rfl) (by kernel_rfl) (c101 f.pw f.pn f.toA f.key f.vn f.vw) (by kernel_rfl) ?_
  intro w4 S
  replace kg1 := S.has (by omega) kg1
  replace GG := GG.store S bg2
  replace kg2 := S.new
  clear S
  refine wpList_nil (then_n (wp_seq (wp_region_lit (sv 140 (.pointer (some ⟨g2, 0, none⟩)) (run_fld 89 _ 0 rfl _ _ rfl _) (sv 141 (.agg (c25 f.pw f.pn)) (run_lda 29 _ rfl g2 0 17 rfl 89 _ kg2 _ Try.underlying29 rfl si25 _) ?_)))))
  simp only [z0, z1]
  refine sv 142 (.pointer (some ⟨g2, 17, none⟩)) (run_fld 89 _ 1 rfl _ _ rfl _) (sv 143 (.bool f.toA) (run_ldc 4 _ rfl g2 17 rfl 89 _ kg2 (na4 _) _ rfl) (sv 144 (.pointer (some ⟨g2, 18, none⟩)) (run_fld 89 _ 2 rfl _ _ rfl _) ?_))
  simp only [z0, z1]
  refine sv 145 (.agg (c23 f.key)) (run_lda 27 _ rfl g2 18 16 rfl 89 _ kg2 _ Try.underlying27 rfl si23 _) (sv 146 (.pointer (some ⟨g2, 34, none⟩)) (run_fld 89 _ 3 rfl _ _ rfl _) (sv 147 (.agg (c31 f.vn f.vw)) (run_lda 35 _ rfl g2 34 17 rfl 89 _ kg2 _ Try.underlying35 rfl si31 _) ?_))
  simp only [z0, z1]
  refine sv 148 (.agg (c34 f.key f.vn f.vw Sl.nil)) (run_bd 38 _ rfl [(0, .agg (c23 f.key)), (1, .agg (c31 f.vn f.vw))] rfl _ (by kernel_rfl)) (sv 149 (.agg (c36 0 f.pw f.pn f.toA zF zF 0 0 0 0 0 Sl.nil Sl.nil f.key f.vn f.vw Sl.nil 0 0 Sl.nil)) (run_bd 40 _ rfl [(1, .agg (c25 f.pw f.pn)), (2, .bool f.toA), (10, .agg (c34 f.key f.vn f.vw Sl.nil))] rfl _ (by kernel_rfl)) ?_)
  refine s_store rfl rfl 40 _ _ rfl g1 0 rfl (.agg (c36 0 f.pw f.pn f.toA zF zF 0 0 0 0 0 Sl.nil Sl.nil f.key f.vn f.vw Sl.nil 0 0 Sl.nil)) rfl 40 _ kg1 (c36 0 f.pw f.pn f.toA zF zF 0 0 0 0 0 Sl.nil Sl.nil f.key f.vn f.vw Sl.nil 0 0 Sl.nil) rfl (by kernel_rfl) (Nat.le_of_ble_eq_true rfl) (by kernel_rfl) (c36 0 f.pw f.pn f.toA zF zF 0 0 0 0 0 Sl.nil Sl.nil f.key f.vn f.vw Sl.nil 0 0 Sl.nil) (by kernel_rfl) ?_
  intro w6 S
  replace kg2 := S.has (by omega) kg2
  replace GG := GG.store S bg1
  replace kg1 := S.new
  clear S
  refine mv 3 (.bool true) ?_
  simp only [z0, z1]
  refine wpList_nil (then_n (wp_ret (blk_r (then_r ?_))))
  refine bodyPost_ret (results_cell_tmp Try.results17 _ _ g1 40 _ (0, 0) _ rfl (.bool true) rfl kg1 Try.underlying40 rfl (by kernel_rfl)) rfl ?_
  exact ⟨rfl, GG⟩
set_option maxRecDepth 100000 in
set_option maxHeartbeats 4000000 in
theorem fields_nil (w : World) : Calls Try.prog 17 #[.nilIface] w fun e w' => e = .returned (.tuple #[.agg (c36 0 zF 0 false zF zF 0 0 0 0 0 Sl.nil Sl.nil zF 0 zF Sl.nil 0 0 Sl.nil), .bool false]) ∧ Gro w w' := by
  refine s_enterR Try.func17 rfl Try.ntmps17 [.nilIface] ?_
  intro U h; simp only [List.length_cons, List.length_nil, List.cons_append, List.nil_append, Nat.reduceAdd, Nat.reduceSub, List.reduceReplicate] at h; subst h
  have GG := Gro.refl w
  refine wp_seq (wp_region_lit ?_)
  refine s_alloc 2 rfl rfl 40 rfl _ zv36 _ rfl ?_
  intro w1 g1 G eg1 kg1
  have bg1 := size_base GG eg1
  replace GG := GG.trans G
  clear G eg1
  refine mv 3 (.bool false) (wpList_nil (then_n (wp_seq (wp_seq (wp_region_lit (mv 16 (.nilIface) ?_))))))
  simp only [z0, z1]
  refine wpList_nil (then_n (wp_block (wp_seq (wp_region_lit (sv 17 (.tuple #[.agg (c79 0 0 0 0 zF), .bool false]) (run_ta _ 23 67 true rfl _ _ rfl) (mv 18 (.bool false) (mv 19 (.agg (c79 0 0 0 0 zF)) ?_)))))))
  simp only [z0, z1]
  refine wpList_nil (then_n (wp_cond_false rfl (wp_seq (wp_region_lit (sv 27 (.tuple #[.agg (c81 0 0 0 0 0 Sl.nil), .bool false]) (run_ta _ 23 69 true rfl _ _ rfl) (mv 28 (.bool false) (mv 29 (.agg (c81 0 0 0 0 0 Sl.nil)) ?_)))))))
  simp only [z0, z1]
  refine wpList_nil (then_n (wp_cond_false rfl (wp_seq (wp_region_lit (sv 39 (.tuple #[.agg (c83 0 0 0 0 0), .bool false]) (run_ta _ 23 71 true rfl _ _ rfl) (mv 40 (.bool false) (mv 41 (.agg (c83 0 0 0 0 0)) ?_)))))))
  simp only [z0, z1]
  refine wpList_nil (then_n (wp_cond_false rfl (wp_seq (wp_region_lit (sv 49 (.tuple #[.agg (c85 zF 0 zF zF Sl.nil), .bool false]) (run_ta _ 23 73 true rfl _ _ rfl) (mv 50 (.bool false) (mv 51 (.agg (c85 zF 0 zF zF Sl.nil)) ?_)))))))
  simp only [z0, z1]
  refine wpList_nil (then_n (wp_cond_false rfl (wp_seq (wp_region_lit (sv 61 (.tuple #[.agg (c87 zF 0), .bool false]) (run_ta _ 23 75 true rfl _ _ rfl) (mv 62 (.bool false) (mv 63 (.agg (c87 zF 0)) ?_)))))))
  simp only [z0, z1]
  refine wpList_nil (then_n (wp_cond_false rfl (wp_seq (wp_region_lit (sv 67 (.tuple #[.agg (c89 zF 0 false), .bool false]) (run_ta _ 23 77 true rfl _ _ rfl) (mv 68 (.bool false) (mv 69 (.agg (c89 zF 0 false)) ?_)))))))
  simp only [z0, z1]
  refine wpList_nil (then_n (wp_cond_false rfl (wp_seq (wp_region_lit (sv 75 (.tuple #[.agg (c91 zF 0 false Sl.nil), .bool false]) (run_ta _ 23 79 true rfl _ _ rfl) (mv 76 (.bool false) (mv 77 (.agg (c91 zF 0 false Sl.nil)) ?_)))))))
  simp only [z0, z1]
  refine wpList_nil (then_n (wp_cond_false rfl (wp_seq (wp_region_lit (sv 85 (.tuple #[.agg (c93 zF zF 0 zF 0 false Sl.nil), .bool false]) (run_ta _ 23 81 true rfl _ _ rfl) (mv 86 (.bool false) (mv 87 (.agg (c93 zF zF 0 zF 0 false Sl.nil)) ?_)))))))
  simp only [z0, z1]
  refine wpList_nil (then_n (wp_cond_false rfl (wp_seq (wp_region_lit (sv 101 (.tuple #[.agg (c95 zF 0), .bool false]) (run_ta _ 23 83 true rfl _ _ rfl) (mv 102 (.bool false) (mv 103 (.agg (c95 zF 0)) ?_)))))))
  simp only [z0, z1]
  refine wpList_nil (then_n (wp_cond_false rfl (wp_seq (wp_region_lit (sv 109 (.tuple #[.agg (c97 zF zF 0 0 0 zF 0 zF Sl.nil Sl.nil), .bool false]) (run_ta _ 23 85 true rfl _ _ rfl) (mv 110 (.bool false) (mv 111 (.agg (c97 zF zF 0 0 0 zF 0 zF Sl.nil Sl.nil)) ?_)))))))
  simp only [z0, z1]
  refine wpList_nil (then_n (wp_cond_false rfl (wp_seq (wp_region_lit (sv 127 (.tuple #[.agg (c99 zF 0 false zF 0 zF Sl.nil), .bool false]) (run_ta _ 23 87 true rfl _ _ rfl) (mv 128 (.bool false) (mv 129 (.agg (c99 zF 0 false zF 0 zF Sl.nil)) ?_)))))))
  simp only [z0, z1]
  refine wpList_nil (then_n (wp_cond_false rfl (wp_seq (wp_region_lit (sv 137 (.tuple #[.agg (c101 zF 0 false zF 0 zF), .bool false]) (run_ta _ 23 89 true rfl _ _ rfl) (mv 138 (.bool false) (mv 139 (.agg (c101 zF 0 false zF 0 zF)) ?_)))))))
  simp only [z0, z1]
  refine wpList_nil (then_n (wp_cond_false rfl (wp_skip (blk_n (then_n (wp_seq (wp_region_lit (sv 150 (.agg (c36 0 zF 0 false zF zF 0 0 0 0 0 Sl.nil Sl.nil zF 0 zF Sl.nil 0 0 Sl.nil)) (run_bd 40 _ rfl [] rfl _ (by kernel_rfl)) ?_))))))))
  refine s_store rfl rfl 40 _ _ rfl g1 0 rfl (.agg (c36 0 zF 0 false zF zF 0 0 0 0 0 Sl.nil Sl.nil zF 0 zF Sl.nil 0 0 Sl.nil)) rfl 40 _ kg1 (c36 0 zF 0 false zF zF 0 0 0 0 0 Sl.nil Sl.nil zF 0 zF Sl.nil 0 0 Sl.nil) rfl (by kernel_rfl) (Nat.le_of_ble_eq_true rfl) (by kernel_rfl) (c36 0 zF 0 false zF zF 0 0 0 0 0 Sl.nil Sl.nil zF 0 zF Sl.nil 0 0 Sl.nil) (by kernel_rfl) ?_
  intro w3 S
  replace GG := GG.store S bg1
  replace kg1 := S.new
  clear S
  refine mv 3 (.bool false) (wpList_nil (then_n (wp_ret ?_)))
  refine bodyPost_ret (results_cell_tmp Try.results17 _ _ g1 40 _ (0, 0) _ rfl (.bool false) rfl kg1 Try.underlying40 rfl (by kernel_rfl)) rfl ?_
  exact ⟨rfl, GG⟩
theorem fields_any (k : Nat) (h1 : 1 ≤ k) (h2 : k ≤ 12) (f : Fr) (w : World) : Calls Try.prog 17 #[bodyV k f] w fun e w' => e = .returned (.tuple #[.agg (frA (bare k f)), .bool true]) ∧ Gro w w' := by
  rcases is12 h1 h2 with rfl | rfl | rfl | rfl | rfl | rfl | rfl | rfl | rfl | rfl | rfl | rfl
  · exact fields_1 f w
  · exact fields_2 f w
  · exact fields_3 f w
  · exact fields_4 f w
  · exact fields_5 f w
  · exact fields_6 f w
  · exact fields_7 f w
  · exact fields_8 f w
  · exact fields_9 f w
  · exact fields_10 f w
  · exact fields_11 f w
  · exact fields_12 f w
end Go.Proofs.Ythmcnlmphikicab
