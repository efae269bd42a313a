/- Frames and bodies as rows of cells; what a body says in a plain frame's fields (frame.fields). -/
import Derived.Test.YthmcnlmphikicaaCS2
namespace Go.Proofs.Ythmcnlmphikicaa
open Go.RowKit
structure Fr where
  kind : Int
  pw : Nat → Nat
  pn : Int
  toA : Bool
  a : Nat → Nat
  b : Nat → Nat
  n : Int
  fi : Int
  fn : Int
  ti : Int
  tn : Int
  tr : Sl
  ids : Sl
  key : Nat → Nat
  vn : Int
  vw : Nat → Nat
  val : Sl
  op : Int
  ttl : Int
  tx : Sl
def frA (f : Fr) : Array Value := c36 f.kind f.pw f.pn f.toA f.a f.b f.n f.fi f.fn f.ti f.tn f.tr f.ids f.key f.vn f.vw f.val f.op f.ttl f.tx
def bodyV (k : Nat) (f : Fr) : Value :=
  match k with
  | 1 => .iface 79 (.agg (c79 f.fi f.fn f.ti f.tn f.a))
  | 2 => .iface 81 (.agg (c81 f.fi f.fn f.ti f.tn f.n f.tx))
  | 3 => .iface 83 (.agg (c83 f.fi f.fn f.ti f.tn f.n))
  | 4 => .iface 85 (.agg (c85 f.pw f.pn f.a f.b f.tr))
  | 5 => .iface 87 (.agg (c87 f.pw f.pn))
  | 6 => .iface 89 (.agg (c89 f.pw f.pn f.toA))
  | 7 => .iface 91 (.agg (c91 f.pw f.pn f.toA f.ids))
  | 8 => .iface 93 (.agg (c93 f.a f.b f.op f.pw f.pn f.toA f.tr))
  | 9 => .iface 95 (.agg (c95 f.a f.n))
  | 10 => .iface 97 (.agg (c97 f.a f.b f.n f.op f.ttl f.key f.vn f.vw f.val f.tx))
  | 11 => .iface 99 (.agg (c99 f.pw f.pn f.toA f.key f.vn f.vw f.val))
  | 12 => .iface 101 (.agg (c101 f.pw f.pn f.toA f.key f.vn f.vw))
  | _ => .nilIface
def bare (k : Nat) (f : Fr) : Fr :=
  match k with
  | 1 => ⟨0, zF, 0, false, f.a, zF, 0, f.fi, f.fn, f.ti, f.tn, Sl.nil, Sl.nil, zF, 0, zF, Sl.nil, 0, 0, Sl.nil⟩
  | 2 => ⟨0, zF, 0, false, zF, zF, f.n, f.fi, f.fn, f.ti, f.tn, Sl.nil, Sl.nil, zF, 0, zF, Sl.nil, 0, 0, f.tx⟩
  | 3 => ⟨0, zF, 0, false, zF, zF, f.n, f.fi, f.fn, f.ti, f.tn, Sl.nil, Sl.nil, zF, 0, zF, Sl.nil, 0, 0, Sl.nil⟩
  | 4 => ⟨0, f.pw, f.pn, false, f.a, f.b, 0, 0, 0, 0, 0, f.tr, Sl.nil, zF, 0, zF, Sl.nil, 0, 0, Sl.nil⟩
  | 5 => ⟨0, f.pw, f.pn, false, zF, zF, 0, 0, 0, 0, 0, Sl.nil, Sl.nil, zF, 0, zF, Sl.nil, 0, 0, Sl.nil⟩
  | 6 => ⟨0, f.pw, f.pn, f.toA, zF, zF, 0, 0, 0, 0, 0, Sl.nil, Sl.nil, zF, 0, zF, Sl.nil, 0, 0, Sl.nil⟩
  | 7 => ⟨0, f.pw, f.pn, f.toA, zF, zF, 0, 0, 0, 0, 0, Sl.nil, f.ids, zF, 0, zF, Sl.nil, 0, 0, Sl.nil⟩
  | 8 => ⟨0, f.pw, f.pn, f.toA, f.a, f.b, 0, 0, 0, 0, 0, f.tr, Sl.nil, zF, 0, zF, Sl.nil, f.op, 0, Sl.nil⟩
  | 9 => ⟨0, zF, 0, false, f.a, zF, f.n, 0, 0, 0, 0, Sl.nil, Sl.nil, zF, 0, zF, Sl.nil, 0, 0, Sl.nil⟩
  | 10 => ⟨0, zF, 0, false, f.a, f.b, f.n, 0, 0, 0, 0, Sl.nil, Sl.nil, f.key, f.vn, f.vw, f.val, f.op, f.ttl, f.tx⟩
  | 11 => ⟨0, f.pw, f.pn, f.toA, zF, zF, 0, 0, 0, 0, 0, Sl.nil, Sl.nil, f.key, f.vn, f.vw, f.val, 0, 0, Sl.nil⟩
  | 12 => ⟨0, f.pw, f.pn, f.toA, zF, zF, 0, 0, 0, 0, 0, Sl.nil, Sl.nil, f.key, f.vn, f.vw, Sl.nil, 0, 0, Sl.nil⟩
  | _ => ⟨0, zF, 0, false, zF, zF, 0, 0, 0, 0, 0, Sl.nil, Sl.nil, zF, 0, zF, Sl.nil, 0, 0, Sl.nil⟩
def Fr.zero : Fr := ⟨0, zF, 0, false, zF, zF, 0, 0, 0, 0, 0, Sl.nil, Sl.nil, zF, 0, zF, Sl.nil, 0, 0, Sl.nil⟩
theorem is12 {k : Nat} (h1 : 1 ≤ k) (h2 : k ≤ 12) : k = 1 ∨ k = 2 ∨ k = 3 ∨ k = 4 ∨ k = 5 ∨ k = 6 ∨ k = 7 ∨ k = 8 ∨ k = 9 ∨ k = 10 ∨ k = 11 ∨ k = 12 := by omega
set_option maxRecDepth 100000 in
set_option maxHeartbeats 4000000 in
theorem fields_1 (f : Fr) (w : World) : Calls Try.prog 36 #[.iface 79 (.agg (c79 f.fi f.fn f.ti f.tn f.a))] w fun e w' => e = .returned (.tuple #[.agg (c36 0 zF 0 false f.a zF 0 f.fi f.fn f.ti f.tn Sl.nil Sl.nil zF 0 zF Sl.nil 0 0 Sl.nil), .bool true]) ∧ Gro w w' := by
  refine s_enter Try.func36 rfl Try.ntmps36 [.iface 79 (.agg (c79 f.fi f.fn f.ti f.tn f.a))] [.iface 79 (.agg (c79 f.fi f.fn f.ti f.tn f.a)), undef, undef, undef, undef, undef, undef, undef, undef, undef, undef, undef, undef, undef, undef, undef, undef, undef, undef, undef, undef, undef, undef, undef, undef, undef, undef, undef, undef, undef, undef, undef, undef, undef, undef, undef, undef, undef, undef, undef, undef, undef, undef, undef, undef, undef, undef, undef, undef, undef, undef, undef, undef, undef, undef, undef, undef, undef, undef, undef, undef, undef, undef, undef, undef, undef, undef, undef, undef, undef, undef, undef, undef, undef, undef, undef, undef, undef, undef, undef, undef, undef, undef, undef, undef, undef, undef, undef, undef, undef, undef, undef, undef, undef, undef, undef, undef, undef, undef, undef, undef, undef, undef, undef, undef, undef, undef, undef, undef, undef, undef, undef, undef, undef, undef, undef, undef, undef, undef, undef, undef, undef, undef, undef, undef, undef, undef, undef, undef, undef, undef, undef, undef, undef, undef, undef, undef, undef, undef, undef, undef, undef, undef, undef, undef, undef, undef, undef, undef, undef, undef] rfl ?_
  have GG := Gro.refl w
  refine wp_seq ?_
  refine wp_region_lit ?_
  refine s_alloc 2 rfl rfl 36 rfl _ zv36 _ rfl ?_
  intro w1 g1 G eg1 kg1
  have bg1 := size_base GG eg1
  replace GG := GG.trans G
  clear G eg1
  simp only [z0, z1]
  refine s_val 3 rfl rfl (.bool false) (rfl) ?_
  simp only [z0, z1]
  refine wpList_nil ?_
  refine then_n ?_
  refine wp_seq ?_
  refine wp_seq ?_
  refine wp_region_lit ?_
  refine s_val 16 rfl rfl (.iface 79 (.agg (c79 f.fi f.fn f.ti f.tn f.a))) (rfl) ?_
  simp only [z0, z1]
  refine wpList_nil ?_
  refine then_n ?_
  refine wp_block ?_
  refine wp_seq ?_
  refine wp_region_lit ?_
  refine s_val 17 rfl rfl (.tuple #[.agg (c79 f.fi f.fn f.ti f.tn f.a), .bool true]) (run_ta _ 48 79 true rfl _ _ rfl (by kernel_rfl)) ?_
  simp only [z0, z1]
  refine s_val 18 rfl rfl (.bool true) (rfl) ?_
  simp only [z0, z1]
  refine s_val 19 rfl rfl (.agg (c79 f.fi f.fn f.ti f.tn f.a)) (rfl) ?_
  simp only [z0, z1]
  refine wpList_nil ?_
  refine then_n ?_
  refine wp_cond_true rfl ?_
  refine wp_seq ?_
  refine wp_region_lit ?_
  refine s_alloc 4 rfl rfl 79 rfl _ zv79 _ rfl ?_
  intro w2 g2 G eg2 kg2
  have bg2 := size_base GG eg2
  have dg1g2 := lt_new kg1 eg2
  replace kg1 := G.has kg1
  replace GG := GG.trans G
  clear G eg2
  simp only [z0, z1]
  refine s_store rfl rfl 79 _ _ rfl g2 0 rfl (.agg (c79 f.fi f.fn f.ti f.tn f.a)) rfl 79 _ kg2 (c79 f.fi f.fn f.ti f.tn f.a) rfl (by kernel_rfl) (Nat.le_of_ble_eq_true rfl) (by kernel_rfl) (c79 f.fi f.fn f.ti f.tn f.a) (by kernel_rfl) ?_
  intro w4 S
  replace kg1 := S.has (by omega) kg1
  replace GG := GG.store S bg2
  replace kg2 := S.new
  clear S
  refine wpList_nil ?_
  refine then_n ?_
  refine wp_seq ?_
  refine wp_region_lit ?_
  refine s_val 20 rfl rfl (.pointer (some ⟨g2, 0, none⟩)) (run_fld 79 _ 0 rfl _ _ rfl _ (by kernel_rfl)) ?_
  simp only [z0, z1]
  refine s_val 21 rfl rfl (.agg (c27 f.fi f.fn)) (run_lda 27 _ rfl g2 0 2 rfl 79 _ kg2 _ Try.underlying27 rfl si27 (Nat.le_of_ble_eq_true rfl) _ (by kernel_rfl)) ?_
  simp only [z0, z1]
  refine s_val 22 rfl rfl (.pointer (some ⟨g2, 2, none⟩)) (run_fld 79 _ 1 rfl _ _ rfl _ (by kernel_rfl)) ?_
  simp only [z0, z1]
  refine s_val 23 rfl rfl (.agg (c27 f.ti f.tn)) (run_lda 27 _ rfl g2 2 2 rfl 79 _ kg2 _ Try.underlying27 rfl si27 (Nat.le_of_ble_eq_true rfl) _ (by kernel_rfl)) ?_
  simp only [z0, z1]
  refine s_val 24 rfl rfl (.pointer (some ⟨g2, 4, none⟩)) (run_fld 79 _ 2 rfl _ _ rfl _ (by kernel_rfl)) ?_
  simp only [z0, z1]
  refine s_val 25 rfl rfl (.agg (c23 f.a)) (run_lda 23 _ rfl g2 4 16 rfl 79 _ kg2 _ Try.underlying23 rfl si23 (Nat.le_of_ble_eq_true rfl) _ (by kernel_rfl)) ?_
  simp only [z0, z1]
  refine s_val 26 rfl rfl (.agg (c36 0 zF 0 false f.a zF 0 f.fi f.fn f.ti f.tn Sl.nil Sl.nil zF 0 zF Sl.nil 0 0 Sl.nil)) (run_bd 36 _ rfl [(6, .agg (c27 f.fi f.fn)), (7, .agg (c27 f.ti f.tn)), (3, .agg (c23 f.a))] rfl _ (by kernel_rfl)) ?_
  simp only [z0, z1]
  refine s_store rfl rfl 36 _ _ rfl g1 0 rfl (.agg (c36 0 zF 0 false f.a zF 0 f.fi f.fn f.ti f.tn Sl.nil Sl.nil zF 0 zF Sl.nil 0 0 Sl.nil)) rfl 36 _ kg1 (c36 0 zF 0 false f.a zF 0 f.fi f.fn f.ti f.tn Sl.nil Sl.nil zF 0 zF Sl.nil 0 0 Sl.nil) rfl (by kernel_rfl) (Nat.le_of_ble_eq_true rfl) (by kernel_rfl) (c36 0 zF 0 false f.a zF 0 f.fi f.fn f.ti f.tn Sl.nil Sl.nil zF 0 zF Sl.nil 0 0 Sl.nil) (by kernel_rfl) ?_
  intro w6 S
  replace kg2 := S.has (by omega) kg2
  replace GG := GG.store S bg1
  replace kg1 := S.new
  clear S
  refine s_val 3 rfl rfl (.bool true) (rfl) ?_
  simp only [z0, z1]
  refine wpList_nil ?_
  refine then_n ?_
  refine wp_ret ?_
  refine blk_r ?_
  refine then_r ?_
  refine bodyPost_ret (results_cell_tmp Try.results36 _ _ g1 36 _ (0, 0) _ rfl (.bool true) rfl kg1 Try.underlying36 rfl (by kernel_rfl)) rfl ?_
  exact ⟨rfl, GG⟩
set_option maxRecDepth 100000 in
set_option maxHeartbeats 4000000 in
theorem fields_2 (f : Fr) (w : World) : Calls Try.prog 36 #[.iface 81 (.agg (c81 f.fi f.fn f.ti f.tn f.n f.tx))] w fun e w' => e = .returned (.tuple #[.agg (c36 0 zF 0 false zF zF f.n f.fi f.fn f.ti f.tn Sl.nil Sl.nil zF 0 zF Sl.nil 0 0 f.tx), .bool true]) ∧ Gro w w' := by
  refine s_enter Try.func36 rfl Try.ntmps36 [.iface 81 (.agg (c81 f.fi f.fn f.ti f.tn f.n f.tx))] [.iface 81 (.agg (c81 f.fi f.fn f.ti f.tn f.n f.tx)), undef, undef, undef, undef, undef, undef, undef, undef, undef, undef, undef, undef, undef, undef, undef, undef, undef, undef, undef, undef, undef, undef, undef, undef, undef, undef, undef, undef, undef, undef, undef, undef, undef, undef, undef, undef, undef, undef, undef, undef, undef, undef, undef, undef, undef, undef, undef, undef, undef, undef, undef, undef, undef, undef, undef, undef, undef, undef, undef, undef, undef, undef, undef, undef, undef, undef, undef, undef, undef, undef, undef, undef, undef, undef, undef, undef, undef, undef, undef, undef, undef, undef, undef, undef, undef, undef, undef, undef, undef, undef, undef, undef, undef, undef, undef, undef, undef, undef, undef, undef, undef, undef, undef, undef, undef, undef, undef, undef, undef, undef, undef, undef, undef, undef, undef, undef, undef, undef, undef, undef, undef, undef, undef, undef, undef, undef, undef, undef, undef, undef, undef, undef, undef, undef, undef, undef, undef, undef, undef, undef, undef, undef, undef, undef, undef, undef, undef, undef, undef, undef] rfl ?_
  have GG := Gro.refl w
  refine wp_seq ?_
  refine wp_region_lit ?_
  refine s_alloc 2 rfl rfl 36 rfl _ zv36 _ rfl ?_
  intro w1 g1 G eg1 kg1
  have bg1 := size_base GG eg1
  replace GG := GG.trans G
  clear G eg1
  simp only [z0, z1]
  refine s_val 3 rfl rfl (.bool false) (rfl) ?_
  simp only [z0, z1]
  refine wpList_nil ?_
  refine then_n ?_
  refine wp_seq ?_
  refine wp_seq ?_
  refine wp_region_lit ?_
  refine s_val 16 rfl rfl (.iface 81 (.agg (c81 f.fi f.fn f.ti f.tn f.n f.tx))) (rfl) ?_
  simp only [z0, z1]
  refine wpList_nil ?_
  refine then_n ?_
  refine wp_block ?_
  refine wp_seq ?_
  refine wp_region_lit ?_
  refine s_val 17 rfl rfl (.tuple #[.agg (c79 0 0 0 0 zF), .bool false]) (run_ta _ 48 79 true rfl _ _ rfl (by kernel_rfl)) ?_
  simp only [z0, z1]
  refine s_val 18 rfl rfl (.bool false) (rfl) ?_
  simp only [z0, z1]
  refine s_val 19 rfl rfl (.agg (c79 0 0 0 0 zF)) (rfl) ?_
  simp only [z0, z1]
  refine wpList_nil ?_
  refine then_n ?_
  refine wp_cond_false rfl ?_
  refine wp_seq ?_
  refine wp_region_lit ?_
  refine s_val 27 rfl rfl (.tuple #[.agg (c81 f.fi f.fn f.ti f.tn f.n f.tx), .bool true]) (run_ta _ 48 81 true rfl _ _ rfl (by kernel_rfl)) ?_
  simp only [z0, z1]
  refine s_val 28 rfl rfl (.bool true) (rfl) ?_
  simp only [z0, z1]
  refine s_val 29 rfl rfl (.agg (c81 f.fi f.fn f.ti f.tn f.n f.tx)) (rfl) ?_
  simp only [z0, z1]
  refine wpList_nil ?_
  refine then_n ?_
  refine wp_cond_true rfl ?_
  refine wp_seq ?_
  refine wp_region_lit ?_
  refine s_alloc 5 rfl rfl 81 rfl _ zv81 _ rfl ?_
  intro w2 g2 G eg2 kg2
  have bg2 := size_base GG eg2
  have dg1g2 := lt_new kg1 eg2
  replace kg1 := G.has kg1
  replace GG := GG.trans G
  clear G eg2
  simp only [z0, z1]
  refine s_store rfl rfl 81 _ _ rfl g2 0 rfl (.agg (c81 f.fi f.fn f.ti f.tn f.n f.tx)) rfl 81 _ kg2 (c81 f.fi f.fn f.ti f.tn f.n f.tx) rfl (by kernel_rfl) (Nat.le_of_ble_eq_true rfl) (by kernel_rfl) (c81 f.fi f.fn f.ti f.tn f.n f.tx) (by kernel_rfl) ?_
  intro w4 S
  replace kg1 := S.has (by omega) kg1
  replace GG := GG.store S bg2
  replace kg2 := S.new
  clear S
  refine wpList_nil ?_
  refine then_n ?_
  refine wp_seq ?_
  refine wp_region_lit ?_
  refine s_val 30 rfl rfl (.pointer (some ⟨g2, 0, none⟩)) (run_fld 81 _ 0 rfl _ _ rfl _ (by kernel_rfl)) ?_
  simp only [z0, z1]
  refine s_val 31 rfl rfl (.agg (c27 f.fi f.fn)) (run_lda 27 _ rfl g2 0 2 rfl 81 _ kg2 _ Try.underlying27 rfl si27 (Nat.le_of_ble_eq_true rfl) _ (by kernel_rfl)) ?_
  simp only [z0, z1]
  refine s_val 32 rfl rfl (.pointer (some ⟨g2, 2, none⟩)) (run_fld 81 _ 1 rfl _ _ rfl _ (by kernel_rfl)) ?_
  simp only [z0, z1]
  refine s_val 33 rfl rfl (.agg (c27 f.ti f.tn)) (run_lda 27 _ rfl g2 2 2 rfl 81 _ kg2 _ Try.underlying27 rfl si27 (Nat.le_of_ble_eq_true rfl) _ (by kernel_rfl)) ?_
  simp only [z0, z1]
  refine s_val 34 rfl rfl (.pointer (some ⟨g2, 4, none⟩)) (run_fld 81 _ 2 rfl _ _ rfl _ (by kernel_rfl)) ?_
  simp only [z0, z1]
  refine s_val 35 rfl rfl (.int .i64 f.n) (run_ldc 2 _ rfl g2 4 rfl 81 _ kg2 (na2 _) _ rfl) ?_
  simp only [z0, z1]
  refine s_val 36 rfl rfl (.pointer (some ⟨g2, 5, none⟩)) (run_fld 81 _ 3 rfl _ _ rfl _ (by kernel_rfl)) ?_
  simp only [z0, z1]
  refine s_val 37 rfl rfl (.slice f.tx.ao f.tx.n f.tx.cap) (run_ldc 32 _ rfl g2 5 rfl 81 _ kg2 (na32 _) _ rfl) ?_
  simp only [z0, z1]
  refine s_val 38 rfl rfl (.agg (c36 0 zF 0 false zF zF f.n f.fi f.fn f.ti f.tn Sl.nil Sl.nil zF 0 zF Sl.nil 0 0 f.tx)) (run_bd 36 _ rfl [(6, .agg (c27 f.fi f.fn)), (7, .agg (c27 f.ti f.tn)), (5, .int .i64 f.n), (13, .slice f.tx.ao f.tx.n f.tx.cap)] rfl _ (by kernel_rfl)) ?_
  simp only [z0, z1]
  refine s_store rfl rfl 36 _ _ rfl g1 0 rfl (.agg (c36 0 zF 0 false zF zF f.n f.fi f.fn f.ti f.tn Sl.nil Sl.nil zF 0 zF Sl.nil 0 0 f.tx)) rfl 36 _ kg1 (c36 0 zF 0 false zF zF f.n f.fi f.fn f.ti f.tn Sl.nil Sl.nil zF 0 zF Sl.nil 0 0 f.tx) rfl (by kernel_rfl) (Nat.le_of_ble_eq_true rfl) (by kernel_rfl) (c36 0 zF 0 false zF zF f.n f.fi f.fn f.ti f.tn Sl.nil Sl.nil zF 0 zF Sl.nil 0 0 f.tx) (by kernel_rfl) ?_
  intro w6 S
  replace kg2 := S.has (by omega) kg2
  replace GG := GG.store S bg1
  replace kg1 := S.new
  clear S
  refine s_val 3 rfl rfl (.bool true) (rfl) ?_
  simp only [z0, z1]
  refine wpList_nil ?_
  refine then_n ?_
  refine wp_ret ?_
  refine blk_r ?_
  refine then_r ?_
  refine bodyPost_ret (results_cell_tmp Try.results36 _ _ g1 36 _ (0, 0) _ rfl (.bool true) rfl kg1 Try.underlying36 rfl (by kernel_rfl)) rfl ?_
  exact ⟨rfl, GG⟩
set_option maxRecDepth 100000 in
set_option maxHeartbeats 4000000 in
theorem fields_3 (f : Fr) (w : World) : Calls Try.prog 36 #[.iface 83 (.agg (c83 f.fi f.fn f.ti f.tn f.n))] w fun e w' => e = .returned (.tuple #[.agg (c36 0 zF 0 false zF zF f.n f.fi f.fn f.ti f.tn Sl.nil Sl.nil zF 0 zF Sl.nil 0 0 Sl.nil), .bool true]) ∧ Gro w w' := by
  refine s_enter Try.func36 rfl Try.ntmps36 [.iface 83 (.agg (c83 f.fi f.fn f.ti f.tn f.n))] [.iface 83 (.agg (c83 f.fi f.fn f.ti f.tn f.n)), undef, undef, undef, undef, undef, undef, undef, undef, undef, undef, undef, undef, undef, undef, undef, undef, undef, undef, undef, undef, undef, undef, undef, undef, undef, undef, undef, undef, undef, undef, undef, undef, undef, undef, undef, undef, undef, undef, undef, undef, undef, undef, undef, undef, undef, undef, undef, undef, undef, undef, undef, undef, undef, undef, undef, undef, undef, undef, undef, undef, undef, undef, undef, undef, undef, undef, undef, undef, undef, undef, undef, undef, undef, undef, undef, undef, undef, undef, undef, undef, undef, undef, undef, undef, undef, undef, undef, undef, undef, undef, undef, undef, undef, undef, undef, undef, undef, undef, undef, undef, undef, undef, undef, undef, undef, undef, undef, undef, undef, undef, undef, undef, undef, undef, undef, undef, undef, undef, undef, undef, undef, undef, undef, undef, undef, undef, undef, undef, undef, undef, undef, undef, undef, undef, undef, undef, undef, undef, undef, undef, undef, undef, undef, undef, undef, undef, undef, undef, undef, undef] rfl ?_
  have GG := Gro.refl w
  refine wp_seq ?_
  refine wp_region_lit ?_
  refine s_alloc 2 rfl rfl 36 rfl _ zv36 _ rfl ?_
  intro w1 g1 G eg1 kg1
  have bg1 := size_base GG eg1
  replace GG := GG.trans G
  clear G eg1
  simp only [z0, z1]
  refine s_val 3 rfl rfl (.bool false) (rfl) ?_
  simp only [z0, z1]
  refine wpList_nil ?_
  refine then_n ?_
  refine wp_seq ?_
  refine wp_seq ?_
  refine wp_region_lit ?_
  refine s_val 16 rfl rfl (.iface 83 (.agg (c83 f.fi f.fn f.ti f.tn f.n))) (rfl) ?_
  simp only [z0, z1]
  refine wpList_nil ?_
  refine then_n ?_
  refine wp_block ?_
  refine wp_seq ?_
  refine wp_region_lit ?_
  refine s_val 17 rfl rfl (.tuple #[.agg (c79 0 0 0 0 zF), .bool false]) (run_ta _ 48 79 true rfl _ _ rfl (by kernel_rfl)) ?_
  simp only [z0, z1]
  refine s_val 18 rfl rfl (.bool false) (rfl) ?_
  simp only [z0, z1]
  refine s_val 19 rfl rfl (.agg (c79 0 0 0 0 zF)) (rfl) ?_
  simp only [z0, z1]
  refine wpList_nil ?_
  refine then_n ?_
  refine wp_cond_false rfl ?_
  refine wp_seq ?_
  refine wp_region_lit ?_
  refine s_val 27 rfl rfl (.tuple #[.agg (c81 0 0 0 0 0 Sl.nil), .bool false]) (run_ta _ 48 81 true rfl _ _ rfl (by kernel_rfl)) ?_
  simp only [z0, z1]
  refine s_val 28 rfl rfl (.bool false) (rfl) ?_
  simp only [z0, z1]
  refine s_val 29 rfl rfl (.agg (c81 0 0 0 0 0 Sl.nil)) (rfl) ?_
  simp only [z0, z1]
  refine wpList_nil ?_
  refine then_n ?_
  refine wp_cond_false rfl ?_
  refine wp_seq ?_
  refine wp_region_lit ?_
  refine s_val 39 rfl rfl (.tuple #[.agg (c83 f.fi f.fn f.ti f.tn f.n), .bool true]) (run_ta _ 48 83 true rfl _ _ rfl (by kernel_rfl)) ?_
  simp only [z0, z1]
  refine s_val 40 rfl rfl (.bool true) (rfl) ?_
  simp only [z0, z1]
  refine s_val 41 rfl rfl (.agg (c83 f.fi f.fn f.ti f.tn f.n)) (rfl) ?_
  simp only [z0, z1]
  refine wpList_nil ?_
  refine then_n ?_
  refine wp_cond_true rfl ?_
  refine wp_seq ?_
  refine wp_region_lit ?_
  refine s_alloc 6 rfl rfl 83 rfl _ zv83 _ rfl ?_
  intro w2 g2 G eg2 kg2
  have bg2 := size_base GG eg2
  have dg1g2 := lt_new kg1 eg2
  replace kg1 := G.has kg1
  replace GG := GG.trans G
  clear G eg2
  simp only [z0, z1]
  refine s_store rfl rfl 83 _ _ rfl g2 0 rfl (.agg (c83 f.fi f.fn f.ti f.tn f.n)) rfl 83 _ kg2 (c83 f.fi f.fn f.ti f.tn f.n) rfl (by kernel_rfl) (Nat.le_of_ble_eq_true rfl) (by kernel_rfl) (c83 f.fi f.fn f.ti f.tn f.n) (by kernel_rfl) ?_
  intro w4 S
  replace kg1 := S.has (by omega) kg1
  replace GG := GG.store S bg2
  replace kg2 := S.new
  clear S
  refine wpList_nil ?_
  refine then_n ?_
  refine wp_seq ?_
  refine wp_region_lit ?_
  refine s_val 42 rfl rfl (.pointer (some ⟨g2, 0, none⟩)) (run_fld 83 _ 0 rfl _ _ rfl _ (by kernel_rfl)) ?_
  simp only [z0, z1]
  refine s_val 43 rfl rfl (.agg (c27 f.fi f.fn)) (run_lda 27 _ rfl g2 0 2 rfl 83 _ kg2 _ Try.underlying27 rfl si27 (Nat.le_of_ble_eq_true rfl) _ (by kernel_rfl)) ?_
  simp only [z0, z1]
  refine s_val 44 rfl rfl (.pointer (some ⟨g2, 2, none⟩)) (run_fld 83 _ 1 rfl _ _ rfl _ (by kernel_rfl)) ?_
  simp only [z0, z1]
  refine s_val 45 rfl rfl (.agg (c27 f.ti f.tn)) (run_lda 27 _ rfl g2 2 2 rfl 83 _ kg2 _ Try.underlying27 rfl si27 (Nat.le_of_ble_eq_true rfl) _ (by kernel_rfl)) ?_
  simp only [z0, z1]
  refine s_val 46 rfl rfl (.pointer (some ⟨g2, 4, none⟩)) (run_fld 83 _ 2 rfl _ _ rfl _ (by kernel_rfl)) ?_
  simp only [z0, z1]
  refine s_val 47 rfl rfl (.int .i64 f.n) (run_ldc 2 _ rfl g2 4 rfl 83 _ kg2 (na2 _) _ rfl) ?_
  simp only [z0, z1]
  refine s_val 48 rfl rfl (.agg (c36 0 zF 0 false zF zF f.n f.fi f.fn f.ti f.tn Sl.nil Sl.nil zF 0 zF Sl.nil 0 0 Sl.nil)) (run_bd 36 _ rfl [(6, .agg (c27 f.fi f.fn)), (7, .agg (c27 f.ti f.tn)), (5, .int .i64 f.n)] rfl _ (by kernel_rfl)) ?_
  simp only [z0, z1]
  refine s_store rfl rfl 36 _ _ rfl g1 0 rfl (.agg (c36 0 zF 0 false zF zF f.n f.fi f.fn f.ti f.tn Sl.nil Sl.nil zF 0 zF Sl.nil 0 0 Sl.nil)) rfl 36 _ kg1 (c36 0 zF 0 false zF zF f.n f.fi f.fn f.ti f.tn Sl.nil Sl.nil zF 0 zF Sl.nil 0 0 Sl.nil) rfl (by kernel_rfl) (Nat.le_of_ble_eq_true rfl) (by kernel_rfl) (c36 0 zF 0 false zF zF f.n f.fi f.fn f.ti f.tn Sl.nil Sl.nil zF 0 zF Sl.nil 0 0 Sl.nil) (by kernel_rfl) ?_
  intro w6 S
  replace kg2 := S.has (by omega) kg2
  replace GG := GG.store S bg1
  replace kg1 := S.new
  clear S
  refine s_val 3 rfl rfl (.bool true) (rfl) ?_
  simp only [z0, z1]
  refine wpList_nil ?_
  refine then_n ?_
  refine wp_ret ?_
  refine blk_r ?_
  refine then_r ?_
  refine bodyPost_ret (results_cell_tmp Try.results36 _ _ g1 36 _ (0, 0) _ rfl (.bool true) rfl kg1 Try.underlying36 rfl (by kernel_rfl)) rfl ?_
  exact ⟨rfl, GG⟩
set_option maxRecDepth 100000 in
set_option maxHeartbeats 4000000 in
theorem fields_4 (f : Fr) (w : World) : Calls Try.prog 36 #[.iface 85 (.agg (c85 f.pw f.pn f.a f.b f.tr))] w fun e w' => e = .returned (.tuple #[.agg (c36 0 f.pw f.pn false f.a f.b 0 0 0 0 0 f.tr Sl.nil zF 0 zF Sl.nil 0 0 Sl.nil), .bool true]) ∧ Gro w w' := by
  refine s_enter Try.func36 rfl Try.ntmps36 [.iface 85 (.agg (c85 f.pw f.pn f.a f.b f.tr))] [.iface 85 (.agg (c85 f.pw f.pn f.a f.b f.tr)), undef, undef, undef, undef, undef, undef, undef, undef, undef, undef, undef, undef, undef, undef, undef, undef, undef, undef, undef, undef, undef, undef, undef, undef, undef, undef, undef, undef, undef, undef, undef, undef, undef, undef, undef, undef, undef, undef, undef, undef, undef, undef, undef, undef, undef, undef, undef, undef, undef, undef, undef, undef, undef, undef, undef, undef, undef, undef, undef, undef, undef, undef, undef, undef, undef, undef, undef, undef, undef, undef, undef, undef, undef, undef, undef, undef, undef, undef, undef, undef, undef, undef, undef, undef, undef, undef, undef, undef, undef, undef, undef, undef, undef, undef, undef, undef, undef, undef, undef, undef, undef, undef, undef, undef, undef, undef, undef, undef, undef, undef, undef, undef, undef, undef, undef, undef, undef, undef, undef, undef, undef, undef, undef, undef, undef, undef, undef, undef, undef, undef, undef, undef, undef, undef, undef, undef, undef, undef, undef, undef, undef, undef, undef, undef, undef, undef, undef, undef, undef, undef] rfl ?_
  have GG := Gro.refl w
  refine wp_seq ?_
  refine wp_region_lit ?_
  refine s_alloc 2 rfl rfl 36 rfl _ zv36 _ rfl ?_
  intro w1 g1 G eg1 kg1
  have bg1 := size_base GG eg1
  replace GG := GG.trans G
  clear G eg1
  simp only [z0, z1]
  refine s_val 3 rfl rfl (.bool false) (rfl) ?_
  simp only [z0, z1]
  refine wpList_nil ?_
  refine then_n ?_
  refine wp_seq ?_
  refine wp_seq ?_
  refine wp_region_lit ?_
  refine s_val 16 rfl rfl (.iface 85 (.agg (c85 f.pw f.pn f.a f.b f.tr))) (rfl) ?_
  simp only [z0, z1]
  refine wpList_nil ?_
  refine then_n ?_
  refine wp_block ?_
  refine wp_seq ?_
  refine wp_region_lit ?_
  refine s_val 17 rfl rfl (.tuple #[.agg (c79 0 0 0 0 zF), .bool false]) (run_ta _ 48 79 true rfl _ _ rfl (by kernel_rfl)) ?_
  simp only [z0, z1]
  refine s_val 18 rfl rfl (.bool false) (rfl) ?_
  simp only [z0, z1]
  refine s_val 19 rfl rfl (.agg (c79 0 0 0 0 zF)) (rfl) ?_
  simp only [z0, z1]
  refine wpList_nil ?_
  refine then_n ?_
  refine wp_cond_false rfl ?_
  refine wp_seq ?_
  refine wp_region_lit ?_
  refine s_val 27 rfl rfl (.tuple #[.agg (c81 0 0 0 0 0 Sl.nil), .bool false]) (run_ta _ 48 81 true rfl _ _ rfl (by kernel_rfl)) ?_
  simp only [z0, z1]
  refine s_val 28 rfl rfl (.bool false) (rfl) ?_
  simp only [z0, z1]
  refine s_val 29 rfl rfl (.agg (c81 0 0 0 0 0 Sl.nil)) (rfl) ?_
  simp only [z0, z1]
  refine wpList_nil ?_
  refine then_n ?_
  refine wp_cond_false rfl ?_
  refine wp_seq ?_
  refine wp_region_lit ?_
  refine s_val 39 rfl rfl (.tuple #[.agg (c83 0 0 0 0 0), .bool false]) (run_ta _ 48 83 true rfl _ _ rfl (by kernel_rfl)) ?_
  simp only [z0, z1]
  refine s_val 40 rfl rfl (.bool false) (rfl) ?_
  simp only [z0, z1]
  refine s_val 41 rfl rfl (.agg (c83 0 0 0 0 0)) (rfl) ?_
  simp only [z0, z1]
  refine wpList_nil ?_
  refine then_n ?_
  refine wp_cond_false rfl ?_
  refine wp_seq ?_
  refine wp_region_lit ?_
  refine s_val 49 rfl rfl (.tuple #[.agg (c85 f.pw f.pn f.a f.b f.tr), .bool true]) (run_ta _ 48 85 true rfl _ _ rfl (by kernel_rfl)) ?_
  simp only [z0, z1]
  refine s_val 50 rfl rfl (.bool true) (rfl) ?_
  simp only [z0, z1]
  refine s_val 51 rfl rfl (.agg (c85 f.pw f.pn f.a f.b f.tr)) (rfl) ?_
  simp only [z0, z1]
  refine wpList_nil ?_
  refine then_n ?_
  refine wp_cond_true rfl ?_
  refine wp_seq ?_
  refine wp_region_lit ?_
  refine s_alloc 7 rfl rfl 85 rfl _ zv85 _ rfl ?_
  intro w2 g2 G eg2 kg2
  have bg2 := size_base GG eg2
  have dg1g2 := lt_new kg1 eg2
  replace kg1 := G.has kg1
  replace GG := GG.trans G
  clear G eg2
  simp only [z0, z1]
  refine s_store rfl rfl 85 _ _ rfl g2 0 rfl (.agg (c85 f.pw f.pn f.a f.b f.tr)) rfl 85 _ kg2 (c85 f.pw f.pn f.a f.b f.tr) rfl (by kernel_rfl) (Nat.le_of_ble_eq_true rfl) (by kernel_rfl) (c85 f.pw f.pn f.a f.b f.tr) (by kernel_rfl) ?_
  intro w4 S
  replace kg1 := S.has (by omega) kg1
  replace GG := GG.store S bg2
  replace kg2 := S.new
  clear S
  refine wpList_nil ?_
  refine then_n ?_
  refine wp_seq ?_
  refine wp_region_lit ?_
  refine s_val 52 rfl rfl (.pointer (some ⟨g2, 0, none⟩)) (run_fld 85 _ 0 rfl _ _ rfl _ (by kernel_rfl)) ?_
  simp only [z0, z1]
  refine s_val 53 rfl rfl (.agg (c25 f.pw f.pn)) (run_lda 25 _ rfl g2 0 17 rfl 85 _ kg2 _ Try.underlying25 rfl si25 (Nat.le_of_ble_eq_true rfl) _ (by kernel_rfl)) ?_
  simp only [z0, z1]
  refine s_val 54 rfl rfl (.pointer (some ⟨g2, 17, none⟩)) (run_fld 85 _ 1 rfl _ _ rfl _ (by kernel_rfl)) ?_
  simp only [z0, z1]
  refine s_val 55 rfl rfl (.agg (c23 f.a)) (run_lda 23 _ rfl g2 17 16 rfl 85 _ kg2 _ Try.underlying23 rfl si23 (Nat.le_of_ble_eq_true rfl) _ (by kernel_rfl)) ?_
  simp only [z0, z1]
  refine s_val 56 rfl rfl (.pointer (some ⟨g2, 33, none⟩)) (run_fld 85 _ 2 rfl _ _ rfl _ (by kernel_rfl)) ?_
  simp only [z0, z1]
  refine s_val 57 rfl rfl (.agg (c23 f.b)) (run_lda 23 _ rfl g2 33 16 rfl 85 _ kg2 _ Try.underlying23 rfl si23 (Nat.le_of_ble_eq_true rfl) _ (by kernel_rfl)) ?_
  simp only [z0, z1]
  refine s_val 58 rfl rfl (.pointer (some ⟨g2, 49, none⟩)) (run_fld 85 _ 3 rfl _ _ rfl _ (by kernel_rfl)) ?_
  simp only [z0, z1]
  refine s_val 59 rfl rfl (.slice f.tr.ao f.tr.n f.tr.cap) (run_ldc 28 _ rfl g2 49 rfl 85 _ kg2 (na28 _) _ rfl) ?_
  simp only [z0, z1]
  refine s_val 60 rfl rfl (.agg (c36 0 f.pw f.pn false f.a f.b 0 0 0 0 0 f.tr Sl.nil zF 0 zF Sl.nil 0 0 Sl.nil)) (run_bd 36 _ rfl [(1, .agg (c25 f.pw f.pn)), (3, .agg (c23 f.a)), (4, .agg (c23 f.b)), (8, .slice f.tr.ao f.tr.n f.tr.cap)] rfl _ (by kernel_rfl)) ?_
  simp only [z0, z1]
  refine s_store rfl rfl 36 _ _ rfl g1 0 rfl (.agg (c36 0 f.pw f.pn false f.a f.b 0 0 0 0 0 f.tr Sl.nil zF 0 zF Sl.nil 0 0 Sl.nil)) rfl 36 _ kg1 (c36 0 f.pw f.pn false f.a f.b 0 0 0 0 0 f.tr Sl.nil zF 0 zF Sl.nil 0 0 Sl.nil) rfl (by kernel_rfl) (Nat.le_of_ble_eq_true rfl) (by kernel_rfl) (c36 0 f.pw f.pn false f.a f.b 0 0 0 0 0 f.tr Sl.nil zF 0 zF Sl.nil 0 0 Sl.nil) (by kernel_rfl) ?_
  intro w6 S
  replace kg2 := S.has (by omega) kg2
  replace GG := GG.store S bg1
  replace kg1 := S.new
  clear S
  refine s_val 3 rfl rfl (.bool true) (rfl) ?_
  simp only [z0, z1]
  refine wpList_nil ?_
  refine then_n ?_
  refine wp_ret ?_
  refine blk_r ?_
  refine then_r ?_
  refine bodyPost_ret (results_cell_tmp Try.results36 _ _ g1 36 _ (0, 0) _ rfl (.bool true) rfl kg1 Try.underlying36 rfl (by kernel_rfl)) rfl ?_
  exact ⟨rfl, GG⟩
set_option maxRecDepth 100000 in
set_option maxHeartbeats 4000000 in
theorem fields_5 (f : Fr) (w : World) : Calls Try.prog 36 #[.iface 87 (.agg (c87 f.pw f.pn))] w fun e w' => e = .returned (.tuple #[.agg (c36 0 f.pw f.pn false zF zF 0 0 0 0 0 Sl.nil Sl.nil zF 0 zF Sl.nil 0 0 Sl.nil), .bool true]) ∧ Gro w w' := by
  refine s_enter Try.func36 rfl Try.ntmps36 [.iface 87 (.agg (c87 f.pw f.pn))] [.iface 87 (.agg (c87 f.pw f.pn)), undef, undef, undef, undef, undef, undef, undef, undef, undef, undef, undef, undef, undef, undef, undef, undef, undef, undef, undef, undef, undef, undef, undef, undef, undef, undef, undef, undef, undef, undef, undef, undef, undef, undef, undef, undef, undef, undef, undef, undef, undef, undef, undef, undef, undef, undef, undef, undef, undef, undef, undef, undef, undef, undef, undef, undef, undef, undef, undef, undef, undef, undef, undef, undef, undef, undef, undef, undef, undef, undef, undef, undef, undef, undef, undef, undef, undef, undef, undef, undef, undef, undef, undef, undef, undef, undef, undef, undef, undef, undef, undef, undef, undef, undef, undef, undef, undef, undef, undef, undef, undef, undef, undef, undef, undef, undef, undef, undef, undef, undef, undef, undef, undef, undef, undef, undef, undef, undef, undef, undef, undef, undef, undef, undef, undef, undef, undef, undef, undef, undef, undef, undef, undef, undef, undef, undef, undef, undef, undef, undef, undef, undef, undef, undef, undef, undef, undef, undef, undef, undef] rfl ?_
  have GG := Gro.refl w
  refine wp_seq ?_
  refine wp_region_lit ?_
  refine s_alloc 2 rfl rfl 36 rfl _ zv36 _ rfl ?_
  intro w1 g1 G eg1 kg1
  have bg1 := size_base GG eg1
  replace GG := GG.trans G
  clear G eg1
  simp only [z0, z1]
  refine s_val 3 rfl rfl (.bool false) (rfl) ?_
  simp only [z0, z1]
  refine wpList_nil ?_
  refine then_n ?_
  refine wp_seq ?_
  refine wp_seq ?_
  refine wp_region_lit ?_
  refine s_val 16 rfl rfl (.iface 87 (.agg (c87 f.pw f.pn))) (rfl) ?_
  simp only [z0, z1]
  refine wpList_nil ?_
  refine then_n ?_
  refine wp_block ?_
  refine wp_seq ?_
  refine wp_region_lit ?_
  refine s_val 17 rfl rfl (.tuple #[.agg (c79 0 0 0 0 zF), .bool false]) (run_ta _ 48 79 true rfl _ _ rfl (by kernel_rfl)) ?_
  simp only [z0, z1]
  refine s_val 18 rfl rfl (.bool false) (rfl) ?_
  simp only [z0, z1]
  refine s_val 19 rfl rfl (.agg (c79 0 0 0 0 zF)) (rfl) ?_
  simp only [z0, z1]
  refine wpList_nil ?_
  refine then_n ?_
  refine wp_cond_false rfl ?_
  refine wp_seq ?_
  refine wp_region_lit ?_
  refine s_val 27 rfl rfl (.tuple #[.agg (c81 0 0 0 0 0 Sl.nil), .bool false]) (run_ta _ 48 81 true rfl _ _ rfl (by kernel_rfl)) ?_
  simp only [z0, z1]
  refine s_val 28 rfl rfl (.bool false) (rfl) ?_
  simp only [z0, z1]
  refine s_val 29 rfl rfl (.agg (c81 0 0 0 0 0 Sl.nil)) (rfl) ?_
  simp only [z0, z1]
  refine wpList_nil ?_
  refine then_n ?_
  refine wp_cond_false rfl ?_
  refine wp_seq ?_
  refine wp_region_lit ?_
  refine s_val 39 rfl rfl (.tuple #[.agg (c83 0 0 0 0 0), .bool false]) (run_ta _ 48 83 true rfl _ _ rfl (by kernel_rfl)) ?_
  simp only [z0, z1]
  refine s_val 40 rfl rfl (.bool false) (rfl) ?_
  simp only [z0, z1]
  refine s_val 41 rfl rfl (.agg (c83 0 0 0 0 0)) (rfl) ?_
  simp only [z0, z1]
  refine wpList_nil ?_
  refine then_n ?_
  refine wp_cond_false rfl ?_
  refine wp_seq ?_
  refine wp_region_lit ?_
  refine s_val 49 rfl rfl (.tuple #[.agg (c85 zF 0 zF zF Sl.nil), .bool false]) (run_ta _ 48 85 true rfl _ _ rfl (by kernel_rfl)) ?_
  simp only [z0, z1]
  refine s_val 50 rfl rfl (.bool false) (rfl) ?_
  simp only [z0, z1]
  refine s_val 51 rfl rfl (.agg (c85 zF 0 zF zF Sl.nil)) (rfl) ?_
  simp only [z0, z1]
  refine wpList_nil ?_
  refine then_n ?_
  refine wp_cond_false rfl ?_
  refine wp_seq ?_
  refine wp_region_lit ?_
  refine s_val 61 rfl rfl (.tuple #[.agg (c87 f.pw f.pn), .bool true]) (run_ta _ 48 87 true rfl _ _ rfl (by kernel_rfl)) ?_
  simp only [z0, z1]
  refine s_val 62 rfl rfl (.bool true) (rfl) ?_
  simp only [z0, z1]
  refine s_val 63 rfl rfl (.agg (c87 f.pw f.pn)) (rfl) ?_
  simp only [z0, z1]
  refine wpList_nil ?_
  refine then_n ?_
  refine wp_cond_true rfl ?_
  refine wp_seq ?_
  refine wp_region_lit ?_
  refine s_alloc 8 rfl rfl 87 rfl _ zv87 _ rfl ?_
  intro w2 g2 G eg2 kg2
  have bg2 := size_base GG eg2
  have dg1g2 := lt_new kg1 eg2
  replace kg1 := G.has kg1
  replace GG := GG.trans G
  clear G eg2
  simp only [z0, z1]
  refine s_store rfl rfl 87 _ _ rfl g2 0 rfl (.agg (c87 f.pw f.pn)) rfl 87 _ kg2 (c87 f.pw f.pn) rfl (by kernel_rfl) (Nat.le_of_ble_eq_true rfl) (by kernel_rfl) (c87 f.pw f.pn) (by kernel_rfl) ?_
  intro w4 S
  replace kg1 := S.has (by omega) kg1
  replace GG := GG.store S bg2
  replace kg2 := S.new
  clear S
  refine wpList_nil ?_
  refine then_n ?_
  refine wp_seq ?_
  refine wp_region_lit ?_
  refine s_val 64 rfl rfl (.pointer (some ⟨g2, 0, none⟩)) (run_fld 87 _ 0 rfl _ _ rfl _ (by kernel_rfl)) ?_
  simp only [z0, z1]
  refine s_val 65 rfl rfl (.agg (c25 f.pw f.pn)) (run_lda 25 _ rfl g2 0 17 rfl 87 _ kg2 _ Try.underlying25 rfl si25 (Nat.le_of_ble_eq_true rfl) _ (by kernel_rfl)) ?_
  simp only [z0, z1]
  refine s_val 66 rfl rfl (.agg (c36 0 f.pw f.pn false zF zF 0 0 0 0 0 Sl.nil Sl.nil zF 0 zF Sl.nil 0 0 Sl.nil)) (run_bd 36 _ rfl [(1, .agg (c25 f.pw f.pn))] rfl _ (by kernel_rfl)) ?_
  simp only [z0, z1]
  refine s_store rfl rfl 36 _ _ rfl g1 0 rfl (.agg (c36 0 f.pw f.pn false zF zF 0 0 0 0 0 Sl.nil Sl.nil zF 0 zF Sl.nil 0 0 Sl.nil)) rfl 36 _ kg1 (c36 0 f.pw f.pn false zF zF 0 0 0 0 0 Sl.nil Sl.nil zF 0 zF Sl.nil 0 0 Sl.nil) rfl (by kernel_rfl) (Nat.le_of_ble_eq_true rfl) (by kernel_rfl) (c36 0 f.pw f.pn false zF zF 0 0 0 0 0 Sl.nil Sl.nil zF 0 zF Sl.nil 0 0 Sl.nil) (by kernel_rfl) ?_
  intro w6 S
  replace kg2 := S.has (by omega) kg2
  replace GG := GG.store S bg1
  replace kg1 := S.new
  clear S
  refine s_val 3 rfl rfl (.bool true) (rfl) ?_
  simp only [z0, z1]
  refine wpList_nil ?_
  refine then_n ?_
  refine wp_ret ?_
  refine blk_r ?_
  refine then_r ?_
  refine bodyPost_ret (results_cell_tmp Try.results36 _ _ g1 36 _ (0, 0) _ rfl (.bool true) rfl kg1 Try.underlying36 rfl (by kernel_rfl)) rfl ?_
  exact ⟨rfl, GG⟩
set_option maxRecDepth 100000 in
set_option maxHeartbeats 4000000 in
theorem fields_6 (f : Fr) (w : World) : Calls Try.prog 36 #[.iface 89 (.agg (c89 f.pw f.pn f.toA))] w fun e w' => e = .returned (.tuple #[.agg (c36 0 f.pw f.pn f.toA zF zF 0 0 0 0 0 Sl.nil Sl.nil zF 0 zF Sl.nil 0 0 Sl.nil), .bool true]) ∧ Gro w w' := by
  refine s_enter Try.func36 rfl Try.ntmps36 [.iface 89 (.agg (c89 f.pw f.pn f.toA))] [.iface 89 (.agg (c89 f.pw f.pn f.toA)), undef, undef, undef, undef, undef, undef, undef, undef, undef, undef, undef, undef, undef, undef, undef, undef, undef, undef, undef, undef, undef, undef, undef, undef, undef, undef, undef, undef, undef, undef, undef, undef, undef, undef, undef, undef, undef, undef, undef, undef, undef, undef, undef, undef, undef, undef, undef, undef, undef, undef, undef, undef, undef, undef, undef, undef, undef, undef, undef, undef, undef, undef, undef, undef, undef, undef, undef, undef, undef, undef, undef, undef, undef, undef, undef, undef, undef, undef, undef, undef, undef, undef, undef, undef, undef, undef, undef, undef, undef, undef, undef, undef, undef, undef, undef, undef, undef, undef, undef, undef, undef, undef, undef, undef, undef, undef, undef, undef, undef, undef, undef, undef, undef, undef, undef, undef, undef, undef, undef, undef, undef, undef, undef, undef, undef, undef, undef, undef, undef, undef, undef, undef, undef, undef, undef, undef, undef, undef, undef, undef, undef, undef, undef, undef, undef, undef, undef, undef, undef, undef] rfl ?_
  have GG := Gro.refl w
  refine wp_seq ?_
  refine wp_region_lit ?_
  refine s_alloc 2 rfl rfl 36 rfl _ zv36 _ rfl ?_
  intro w1 g1 G eg1 kg1
  have bg1 := size_base GG eg1
  replace GG := GG.trans G
  clear G eg1
  simp only [z0, z1]
  refine s_val 3 rfl rfl (.bool false) (rfl) ?_
  simp only [z0, z1]
  refine wpList_nil ?_
  refine then_n ?_
  refine wp_seq ?_
  refine wp_seq ?_
  refine wp_region_lit ?_
  refine s_val 16 rfl rfl (.iface 89 (.agg (c89 f.pw f.pn f.toA))) (rfl) ?_
  simp only [z0, z1]
  refine wpList_nil ?_
  refine then_n ?_
  refine wp_block ?_
  refine wp_seq ?_
  refine wp_region_lit ?_
  refine s_val 17 rfl rfl (.tuple #[.agg (c79 0 0 0 0 zF), .bool false]) (run_ta _ 48 79 true rfl _ _ rfl (by kernel_rfl)) ?_
  simp only [z0, z1]
  refine s_val 18 rfl rfl (.bool false) (rfl) ?_
  simp only [z0, z1]
  refine s_val 19 rfl rfl (.agg (c79 0 0 0 0 zF)) (rfl) ?_
  simp only [z0, z1]
  refine wpList_nil ?_
  refine then_n ?_
  refine wp_cond_false rfl ?_
  refine wp_seq ?_
  refine wp_region_lit ?_
  refine s_val 27 rfl rfl (.tuple #[.agg (c81 0 0 0 0 0 Sl.nil), .bool false]) (run_ta _ 48 81 true rfl _ _ rfl (by kernel_rfl)) ?_
  simp only [z0, z1]
  refine s_val 28 rfl rfl (.bool false) (rfl) ?_
  simp only [z0, z1]
  refine s_val 29 rfl rfl (.agg (c81 0 0 0 0 0 Sl.nil)) (rfl) ?_
  simp only [z0, z1]
  refine wpList_nil ?_
  refine then_n ?_
  refine wp_cond_false rfl ?_
  refine wp_seq ?_
  refine wp_region_lit ?_
  refine s_val 39 rfl rfl (.tuple #[.agg (c83 0 0 0 0 0), .bool false]) (run_ta _ 48 83 true rfl _ _ rfl (by kernel_rfl)) ?_
  simp only [z0, z1]
  refine s_val 40 rfl rfl (.bool false) (rfl) ?_
  simp only [z0, z1]
  refine s_val 41 rfl rfl (.agg (c83 0 0 0 0 0)) (rfl) ?_
  simp only [z0, z1]
  refine wpList_nil ?_
  refine then_n ?_
  refine wp_cond_false rfl ?_
  refine wp_seq ?_
  refine wp_region_lit ?_
  refine s_val 49 rfl rfl (.tuple #[.agg (c85 zF 0 zF zF Sl.nil), .bool false]) (run_ta _ 48 85 true rfl _ _ rfl (by kernel_rfl)) ?_
  simp only [z0, z1]
  refine s_val 50 rfl rfl (.bool false) (rfl) ?_
  simp only [z0, z1]
  refine s_val 51 rfl rfl (.agg (c85 zF 0 zF zF Sl.nil)) (rfl) ?_
  simp only [z0, z1]
  refine wpList_nil ?_
  refine then_n ?_
  refine wp_cond_false rfl ?_
  refine wp_seq ?_
  refine wp_region_lit ?_
  refine s_val 61 rfl rfl (.tuple #[.agg (c87 zF 0), .bool false]) (run_ta _ 48 87 true rfl _ _ rfl (by kernel_rfl)) ?_
  simp only [z0, z1]
  refine s_val 62 rfl rfl (.bool false) (rfl) ?_
  simp only [z0, z1]
  refine s_val 63 rfl rfl (.agg (c87 zF 0)) (rfl) ?_
  simp only [z0, z1]
  refine wpList_nil ?_
  refine then_n ?_
  refine wp_cond_false rfl ?_
  refine wp_seq ?_
  refine wp_region_lit ?_
  refine s_val 67 rfl rfl (.tuple #[.agg (c89 f.pw f.pn f.toA), .bool true]) (run_ta _ 48 89 true rfl _ _ rfl (by kernel_rfl)) ?_
  simp only [z0, z1]
  refine s_val 68 rfl rfl (.bool true) (rfl) ?_
  simp only [z0, z1]
  refine s_val 69 rfl rfl (.agg (c89 f.pw f.pn f.toA)) (rfl) ?_
  simp only [z0, z1]
  refine wpList_nil ?_
  refine then_n ?_
  refine wp_cond_true rfl ?_
  refine wp_seq ?_
  refine wp_region_lit ?_
  refine s_alloc 9 rfl rfl 89 rfl _ zv89 _ rfl ?_
  intro w2 g2 G eg2 kg2
  have bg2 := size_base GG eg2
  have dg1g2 := lt_new kg1 eg2
  replace kg1 := G.has kg1
  replace GG := GG.trans G
  clear G eg2
  simp only [z0, z1]
  refine s_store rfl rfl 89 _ _ rfl g2 0 rfl (.agg (c89 f.pw f.pn f.toA)) rfl 89 _ kg2 (c89 f.pw f.pn f.toA) rfl (by kernel_rfl) (Nat.le_of_ble_eq_true rfl) (by kernel_rfl) (c89 f.pw f.pn f.toA) (by kernel_rfl) ?_
  intro w4 S
  replace kg1 := S.has (by omega) kg1
  replace GG := GG.store S bg2
  replace kg2 := S.new
  clear S
  refine wpList_nil ?_
  refine then_n ?_
  refine wp_seq ?_
  refine wp_region_lit ?_
  refine s_val 70 rfl rfl (.pointer (some ⟨g2, 0, none⟩)) (run_fld 89 _ 0 rfl _ _ rfl _ (by kernel_rfl)) ?_
  simp only [z0, z1]
  refine s_val 71 rfl rfl (.agg (c25 f.pw f.pn)) (run_lda 25 _ rfl g2 0 17 rfl 89 _ kg2 _ Try.underlying25 rfl si25 (Nat.le_of_ble_eq_true rfl) _ (by kernel_rfl)) ?_
  simp only [z0, z1]
  refine s_val 72 rfl rfl (.pointer (some ⟨g2, 17, none⟩)) (run_fld 89 _ 1 rfl _ _ rfl _ (by kernel_rfl)) ?_
  simp only [z0, z1]
  refine s_val 73 rfl rfl (.bool f.toA) (run_ldc 4 _ rfl g2 17 rfl 89 _ kg2 (na4 _) _ rfl) ?_
  simp only [z0, z1]
  refine s_val 74 rfl rfl (.agg (c36 0 f.pw f.pn f.toA zF zF 0 0 0 0 0 Sl.nil Sl.nil zF 0 zF Sl.nil 0 0 Sl.nil)) (run_bd 36 _ rfl [(1, .agg (c25 f.pw f.pn)), (2, .bool f.toA)] rfl _ (by kernel_rfl)) ?_
  simp only [z0, z1]
  refine s_store rfl rfl 36 _ _ rfl g1 0 rfl (.agg (c36 0 f.pw f.pn f.toA zF zF 0 0 0 0 0 Sl.nil Sl.nil zF 0 zF Sl.nil 0 0 Sl.nil)) rfl 36 _ kg1 (c36 0 f.pw f.pn f.toA zF zF 0 0 0 0 0 Sl.nil Sl.nil zF 0 zF Sl.nil 0 0 Sl.nil) rfl (by kernel_rfl) (Nat.le_of_ble_eq_true rfl) (by kernel_rfl) (c36 0 f.pw f.pn f.toA zF zF 0 0 0 0 0 Sl.nil Sl.nil zF 0 zF Sl.nil 0 0 Sl.nil) (by kernel_rfl) ?_
  intro w6 S
  replace kg2 := S.has (by omega) kg2
  replace GG := GG.store S bg1
  replace kg1 := S.new
  clear S
  refine s_val 3 rfl rfl (.bool true) (rfl) ?_
  simp only [z0, z1]
  refine wpList_nil ?_
  refine then_n ?_
  refine wp_ret ?_
  refine blk_r ?_
  refine then_r ?_
  refine bodyPost_ret (results_cell_tmp Try.results36 _ _ g1 36 _ (0, 0) _ rfl (.bool true) rfl kg1 Try.underlying36 rfl (by kernel_rfl)) rfl ?_
  exact ⟨rfl, GG⟩
set_option maxRecDepth 100000 in
set_option maxHeartbeats 4000000 in
theorem fields_7 (f : Fr) (w : World) : Calls Try.prog 36 #[.iface 91 (.agg (c91 f.pw f.pn f.toA f.ids))] w fun e w' => e = .returned (.tuple #[.agg (c36 0 f.pw f.pn f.toA zF zF 0 0 0 0 0 Sl.nil f.ids zF 0 zF Sl.nil 0 0 Sl.nil), .bool true]) ∧ Gro w w' := by
  refine s_enter Try.func36 rfl Try.ntmps36 [.iface 91 (.agg (c91 f.pw f.pn f.toA f.ids))] [.iface 91 (.agg (c91 f.pw f.pn f.toA f.ids)), undef, undef, undef, undef, undef, undef, undef, undef, undef, undef, undef, undef, undef, undef, undef, undef, undef, undef, undef, undef, undef, undef, undef, undef, undef, undef, undef, undef, undef, undef, undef, undef, undef, undef, undef, undef, undef, undef, undef, undef, undef, undef, undef, undef, undef, undef, undef, undef, undef, undef, undef, undef, undef, undef, undef, undef, undef, undef, undef, undef, undef, undef, undef, undef, undef, undef, undef, undef, undef, undef, undef, undef, undef, undef, undef, undef, undef, undef, undef, undef, undef, undef, undef, undef, undef, undef, undef, undef, undef, undef, undef, undef, undef, undef, undef, undef, undef, undef, undef, undef, undef, undef, undef, undef, undef, undef, undef, undef, undef, undef, undef, undef, undef, undef, undef, undef, undef, undef, undef, undef, undef, undef, undef, undef, undef, undef, undef, undef, undef, undef, undef, undef, undef, undef, undef, undef, undef, undef, undef, undef, undef, undef, undef, undef, undef, undef, undef, undef, undef, undef] rfl ?_
  have GG := Gro.refl w
  refine wp_seq ?_
  refine wp_region_lit ?_
  refine s_alloc 2 rfl rfl 36 rfl _ zv36 _ rfl ?_
  intro w1 g1 G eg1 kg1
  have bg1 := size_base GG eg1
  replace GG := GG.trans G
  clear G eg1
  simp only [z0, z1]
  refine s_val 3 rfl rfl (.bool false) (rfl) ?_
  simp only [z0, z1]
  refine wpList_nil ?_
  refine then_n ?_
  refine wp_seq ?_
  refine wp_seq ?_
  refine wp_region_lit ?_
  refine s_val 16 rfl rfl (.iface 91 (.agg (c91 f.pw f.pn f.toA f.ids))) (rfl) ?_
  simp only [z0, z1]
  refine wpList_nil ?_
  refine then_n ?_
  refine wp_block ?_
  refine wp_seq ?_
  refine wp_region_lit ?_
  refine s_val 17 rfl rfl (.tuple #[.agg (c79 0 0 0 0 zF), .bool false]) (run_ta _ 48 79 true rfl _ _ rfl (by kernel_rfl)) ?_
  simp only [z0, z1]
  refine s_val 18 rfl rfl (.bool false) (rfl) ?_
  simp only [z0, z1]
  refine s_val 19 rfl rfl (.agg (c79 0 0 0 0 zF)) (rfl) ?_
  simp only [z0, z1]
  refine wpList_nil ?_
  refine then_n ?_
  refine wp_cond_false rfl ?_
  refine wp_seq ?_
  refine wp_region_lit ?_
  refine s_val 27 rfl rfl (.tuple #[.agg (c81 0 0 0 0 0 Sl.nil), .bool false]) (run_ta _ 48 81 true rfl _ _ rfl (by kernel_rfl)) ?_
  simp only [z0, z1]
  refine s_val 28 rfl rfl (.bool false) (rfl) ?_
  simp only [z0, z1]
  refine s_val 29 rfl rfl (.agg (c81 0 0 0 0 0 Sl.nil)) (rfl) ?_
  simp only [z0, z1]
  refine wpList_nil ?_
  refine then_n ?_
  refine wp_cond_false rfl ?_
  refine wp_seq ?_
  refine wp_region_lit ?_
  refine s_val 39 rfl rfl (.tuple #[.agg (c83 0 0 0 0 0), .bool false]) (run_ta _ 48 83 true rfl _ _ rfl (by kernel_rfl)) ?_
  simp only [z0, z1]
  refine s_val 40 rfl rfl (.bool false) (rfl) ?_
  simp only [z0, z1]
  refine s_val 41 rfl rfl (.agg (c83 0 0 0 0 0)) (rfl) ?_
  simp only [z0, z1]
  refine wpList_nil ?_
  refine then_n ?_
  refine wp_cond_false rfl ?_
  refine wp_seq ?_
  refine wp_region_lit ?_
  refine s_val 49 rfl rfl (.tuple #[.agg (c85 zF 0 zF zF Sl.nil), .bool false]) (run_ta _ 48 85 true rfl _ _ rfl (by kernel_rfl)) ?_
  simp only [z0, z1]
  refine s_val 50 rfl rfl (.bool false) (rfl) ?_
  simp only [z0, z1]
  refine s_val 51 rfl rfl (.agg (c85 zF 0 zF zF Sl.nil)) (rfl) ?_
  simp only [z0, z1]
  refine wpList_nil ?_
  refine then_n ?_
  refine wp_cond_false rfl ?_
  refine wp_seq ?_
  refine wp_region_lit ?_
  refine s_val 61 rfl rfl (.tuple #[.agg (c87 zF 0), .bool false]) (run_ta _ 48 87 true rfl _ _ rfl (by kernel_rfl)) ?_
  simp only [z0, z1]
  refine s_val 62 rfl rfl (.bool false) (rfl) ?_
  simp only [z0, z1]
  refine s_val 63 rfl rfl (.agg (c87 zF 0)) (rfl) ?_
  simp only [z0, z1]
  refine wpList_nil ?_
  refine then_n ?_
  refine wp_cond_false rfl ?_
  refine wp_seq ?_
  refine wp_region_lit ?_
  refine s_val 67 rfl rfl (.tuple #[.agg (c89 zF 0 false), .bool false]) (run_ta _ 48 89 true rfl _ _ rfl (by kernel_rfl)) ?_
  simp only [z0, z1]
  refine s_val 68 rfl rfl (.bool false) (rfl) ?_
  simp only [z0, z1]
  refine s_val 69 rfl rfl (.agg (c89 zF 0 false)) (rfl) ?_
  simp only [z0, z1]
  refine wpList_nil ?_
  refine then_n ?_
  refine wp_cond_false rfl ?_
  refine wp_seq ?_
  refine wp_region_lit ?_
  refine s_val 75 rfl rfl (.tuple #[.agg (c91 f.pw f.pn f.toA f.ids), .bool true]) (run_ta _ 48 91 true rfl _ _ rfl (by kernel_rfl)) ?_
  simp only [z0, z1]
  refine s_val 76 rfl rfl (.bool true) (rfl) ?_
  simp only [z0, z1]
  refine s_val 77 rfl rfl (.agg (c91 f.pw f.pn f.toA f.ids)) (rfl) ?_
  simp only [z0, z1]
  refine wpList_nil ?_
  refine then_n ?_
  refine wp_cond_true rfl ?_
  refine wp_seq ?_
  refine wp_region_lit ?_
  refine s_alloc 10 rfl rfl 91 rfl _ zv91 _ rfl ?_
  intro w2 g2 G eg2 kg2
  have bg2 := size_base GG eg2
  have dg1g2 := lt_new kg1 eg2
  replace kg1 := G.has kg1
  replace GG := GG.trans G
  clear G eg2
  simp only [z0, z1]
  refine s_store rfl rfl 91 _ _ rfl g2 0 rfl (.agg (c91 f.pw f.pn f.toA f.ids)) rfl 91 _ kg2 (c91 f.pw f.pn f.toA f.ids) rfl (by kernel_rfl) (Nat.le_of_ble_eq_true rfl) (by kernel_rfl) (c91 f.pw f.pn f.toA f.ids) (by kernel_rfl) ?_
  intro w4 S
  replace kg1 := S.has (by omega) kg1
  replace GG := GG.store S bg2
  replace kg2 := S.new
  clear S
  refine wpList_nil ?_
  refine then_n ?_
  refine wp_seq ?_
  refine wp_region_lit ?_
  refine s_val 78 rfl rfl (.pointer (some ⟨g2, 0, none⟩)) (run_fld 91 _ 0 rfl _ _ rfl _ (by kernel_rfl)) ?_
  simp only [z0, z1]
  refine s_val 79 rfl rfl (.agg (c25 f.pw f.pn)) (run_lda 25 _ rfl g2 0 17 rfl 91 _ kg2 _ Try.underlying25 rfl si25 (Nat.le_of_ble_eq_true rfl) _ (by kernel_rfl)) ?_
  simp only [z0, z1]
  refine s_val 80 rfl rfl (.pointer (some ⟨g2, 17, none⟩)) (run_fld 91 _ 1 rfl _ _ rfl _ (by kernel_rfl)) ?_
  simp only [z0, z1]
  refine s_val 81 rfl rfl (.bool f.toA) (run_ldc 4 _ rfl g2 17 rfl 91 _ kg2 (na4 _) _ rfl) ?_
  simp only [z0, z1]
  refine s_val 82 rfl rfl (.pointer (some ⟨g2, 18, none⟩)) (run_fld 91 _ 2 rfl _ _ rfl _ (by kernel_rfl)) ?_
  simp only [z0, z1]
  refine s_val 83 rfl rfl (.slice f.ids.ao f.ids.n f.ids.cap) (run_ldc 29 _ rfl g2 18 rfl 91 _ kg2 (na29 _) _ rfl) ?_
  simp only [z0, z1]
  refine s_val 84 rfl rfl (.agg (c36 0 f.pw f.pn f.toA zF zF 0 0 0 0 0 Sl.nil f.ids zF 0 zF Sl.nil 0 0 Sl.nil)) (run_bd 36 _ rfl [(1, .agg (c25 f.pw f.pn)), (2, .bool f.toA), (9, .slice f.ids.ao f.ids.n f.ids.cap)] rfl _ (by kernel_rfl)) ?_
  simp only [z0, z1]
  refine s_store rfl rfl 36 _ _ rfl g1 0 rfl (.agg (c36 0 f.pw f.pn f.toA zF zF 0 0 0 0 0 Sl.nil f.ids zF 0 zF Sl.nil 0 0 Sl.nil)) rfl 36 _ kg1 (c36 0 f.pw f.pn f.toA zF zF 0 0 0 0 0 Sl.nil f.ids zF 0 zF Sl.nil 0 0 Sl.nil) rfl (by kernel_rfl) (Nat.le_of_ble_eq_true rfl) (by kernel_rfl) (c36 0 f.pw f.pn f.toA zF zF 0 0 0 0 0 Sl.nil f.ids zF 0 zF Sl.nil 0 0 Sl.nil) (by kernel_rfl) ?_
  intro w6 S
  replace kg2 := S.has (by omega) kg2
  replace GG := GG.store S bg1
  replace kg1 := S.new
  clear S
  refine s_val 3 rfl rfl (.bool true) (rfl) ?_
  simp only [z0, z1]
  refine wpList_nil ?_
  refine then_n ?_
  refine wp_ret ?_
  refine blk_r ?_
  refine then_r ?_
  refine bodyPost_ret (results_cell_tmp Try.results36 _ _ g1 36 _ (0, 0) _ rfl (.bool true) rfl kg1 Try.underlying36 rfl (by kernel_rfl)) rfl ?_
  exact ⟨rfl, GG⟩
set_option maxRecDepth 100000 in
set_option maxHeartbeats 4000000 in
theorem fields_8 (f : Fr) (w : World) : Calls Try.prog 36 #[.iface 93 (.agg (c93 f.a f.b f.op f.pw f.pn f.toA f.tr))] w fun e w' => e = .returned (.tuple #[.agg (c36 0 f.pw f.pn f.toA f.a f.b 0 0 0 0 0 f.tr Sl.nil zF 0 zF Sl.nil f.op 0 Sl.nil), .bool true]) ∧ Gro w w' := by
  refine s_enter Try.func36 rfl Try.ntmps36 [.iface 93 (.agg (c93 f.a f.b f.op f.pw f.pn f.toA f.tr))] [.iface 93 (.agg (c93 f.a f.b f.op f.pw f.pn f.toA f.tr)), undef, undef, undef, undef, undef, undef, undef, undef, undef, undef, undef, undef, undef, undef, undef, undef, undef, undef, undef, undef, undef, undef, undef, undef, undef, undef, undef, undef, undef, undef, undef, undef, undef, undef, undef, undef, undef, undef, undef, undef, undef, undef, undef, undef, undef, undef, undef, undef, undef, undef, undef, undef, undef, undef, undef, undef, undef, undef, undef, undef, undef, undef, undef, undef, undef, undef, undef, undef, undef, undef, undef, undef, undef, undef, undef, undef, undef, undef, undef, undef, undef, undef, undef, undef, undef, undef, undef, undef, undef, undef, undef, undef, undef, undef, undef, undef, undef, undef, undef, undef, undef, undef, undef, undef, undef, undef, undef, undef, undef, undef, undef, undef, undef, undef, undef, undef, undef, undef, undef, undef, undef, undef, undef, undef, undef, undef, undef, undef, undef, undef, undef, undef, undef, undef, undef, undef, undef, undef, undef, undef, undef, undef, undef, undef, undef, undef, undef, undef, undef, undef] rfl ?_
  have GG := Gro.refl w
  refine wp_seq ?_
  refine wp_region_lit ?_
  refine s_alloc 2 rfl rfl 36 rfl _ zv36 _ rfl ?_
  intro w1 g1 G eg1 kg1
  have bg1 := size_base GG eg1
  replace GG := GG.trans G
  clear G eg1
  simp only [z0, z1]
  refine s_val 3 rfl rfl (.bool false) (rfl) ?_
  simp only [z0, z1]
  refine wpList_nil ?_
  refine then_n ?_
  refine wp_seq ?_
  refine wp_seq ?_
  refine wp_region_lit ?_
  refine s_val 16 rfl rfl (.iface 93 (.agg (c93 f.a f.b f.op f.pw f.pn f.toA f.tr))) (rfl) ?_
  simp only [z0, z1]
  refine wpList_nil ?_
  refine then_n ?_
  refine wp_block ?_
  refine wp_seq ?_
  refine wp_region_lit ?_
  refine s_val 17 rfl rfl (.tuple #[.agg (c79 0 0 0 0 zF), .bool false]) (run_ta _ 48 79 true rfl _ _ rfl (by kernel_rfl)) ?_
  simp only [z0, z1]
  refine s_val 18 rfl rfl (.bool false) (rfl) ?_
  simp only [z0, z1]
  refine s_val 19 rfl rfl (.agg (c79 0 0 0 0 zF)) (rfl) ?_
  simp only [z0, z1]
  refine wpList_nil ?_
  refine then_n ?_
  refine wp_cond_false rfl ?_
  refine wp_seq ?_
  refine wp_region_lit ?_
  refine s_val 27 rfl rfl (.tuple #[.agg (c81 0 0 0 0 0 Sl.nil), .bool false]) (run_ta _ 48 81 true rfl _ _ rfl (by kernel_rfl)) ?_
  simp only [z0, z1]
  refine s_val 28 rfl rfl (.bool false) (rfl) ?_
  simp only [z0, z1]
  refine s_val 29 rfl rfl (.agg (c81 0 0 0 0 0 Sl.nil)) (rfl) ?_
  simp only [z0, z1]
  refine wpList_nil ?_
  refine then_n ?_
  refine wp_cond_false rfl ?_
  refine wp_seq ?_
  refine wp_region_lit ?_
  refine s_val 39 rfl rfl (.tuple #[.agg (c83 0 0 0 0 0), .bool false]) (run_ta _ 48 83 true rfl _ _ rfl (by kernel_rfl)) ?_
  simp only [z0, z1]
  refine s_val 40 rfl rfl (.bool false) (rfl) ?_
  simp only [z0, z1]
  refine s_val 41 rfl rfl (.agg (c83 0 0 0 0 0)) (rfl) ?_
  simp only [z0, z1]
  refine wpList_nil ?_
  refine then_n ?_
  refine wp_cond_false rfl ?_
  refine wp_seq ?_
  refine wp_region_lit ?_
  refine s_val 49 rfl rfl (.tuple #[.agg (c85 zF 0 zF zF Sl.nil), .bool false]) (run_ta _ 48 85 true rfl _ _ rfl (by kernel_rfl)) ?_
  simp only [z0, z1]
  refine s_val 50 rfl rfl (.bool false) (rfl) ?_
  simp only [z0, z1]
  refine s_val 51 rfl rfl (.agg (c85 zF 0 zF zF Sl.nil)) (rfl) ?_
  simp only [z0, z1]
  refine wpList_nil ?_
  refine then_n ?_
  refine wp_cond_false rfl ?_
  refine wp_seq ?_
  refine wp_region_lit ?_
  refine s_val 61 rfl rfl (.tuple #[.agg (c87 zF 0), .bool false]) (run_ta _ 48 87 true rfl _ _ rfl (by kernel_rfl)) ?_
  simp only [z0, z1]
  refine s_val 62 rfl rfl (.bool false) (rfl) ?_
  simp only [z0, z1]
  refine s_val 63 rfl rfl (.agg (c87 zF 0)) (rfl) ?_
  simp only [z0, z1]
  refine wpList_nil ?_
  refine then_n ?_
  refine wp_cond_false rfl ?_
  refine wp_seq ?_
  refine wp_region_lit ?_
  refine s_val 67 rfl rfl (.tuple #[.agg (c89 zF 0 false), .bool false]) (run_ta _ 48 89 true rfl _ _ rfl (by kernel_rfl)) ?_
  simp only [z0, z1]
  refine s_val 68 rfl rfl (.bool false) (rfl) ?_
  simp only [z0, z1]
  refine s_val 69 rfl rfl (.agg (c89 zF 0 false)) (rfl) ?_
  simp only [z0, z1]
  refine wpList_nil ?_
  refine then_n ?_
  refine wp_cond_false rfl ?_
  refine wp_seq ?_
  refine wp_region_lit ?_
  refine s_val 75 rfl rfl (.tuple #[.agg (c91 zF 0 false Sl.nil), .bool false]) (run_ta _ 48 91 true rfl _ _ rfl (by kernel_rfl)) ?_
  simp only [z0, z1]
  refine s_val 76 rfl rfl (.bool false) (rfl) ?_
  simp only [z0, z1]
  refine s_val 77 rfl rfl (.agg (c91 zF 0 false Sl.nil)) (rfl) ?_
  simp only [z0, z1]
  refine wpList_nil ?_
  refine then_n ?_
  refine wp_cond_false rfl ?_
  refine wp_seq ?_
  refine wp_region_lit ?_
  refine s_val 85 rfl rfl (.tuple #[.agg (c93 f.a f.b f.op f.pw f.pn f.toA f.tr), .bool true]) (run_ta _ 48 93 true rfl _ _ rfl (by kernel_rfl)) ?_
  simp only [z0, z1]
  refine s_val 86 rfl rfl (.bool true) (rfl) ?_
  simp only [z0, z1]
  refine s_val 87 rfl rfl (.agg (c93 f.a f.b f.op f.pw f.pn f.toA f.tr)) (rfl) ?_
  simp only [z0, z1]
  refine wpList_nil ?_
  refine then_n ?_
  refine wp_cond_true rfl ?_
  refine wp_seq ?_
  refine wp_region_lit ?_
  refine s_alloc 11 rfl rfl 93 rfl _ zv93 _ rfl ?_
  intro w2 g2 G eg2 kg2
  have bg2 := size_base GG eg2
  have dg1g2 := lt_new kg1 eg2
  replace kg1 := G.has kg1
  replace GG := GG.trans G
  clear G eg2
  simp only [z0, z1]
  refine s_store rfl rfl 93 _ _ rfl g2 0 rfl (.agg (c93 f.a f.b f.op f.pw f.pn f.toA f.tr)) rfl 93 _ kg2 (c93 f.a f.b f.op f.pw f.pn f.toA f.tr) rfl (by kernel_rfl) (Nat.le_of_ble_eq_true rfl) (by kernel_rfl) (c93 f.a f.b f.op f.pw f.pn f.toA f.tr) (by kernel_rfl) ?_
  intro w4 S
  replace kg1 := S.has (by omega) kg1
  replace GG := GG.store S bg2
  replace kg2 := S.new
  clear S
  refine wpList_nil ?_
  refine then_n ?_
  refine wp_seq ?_
  refine wp_region_lit ?_
  refine s_val 88 rfl rfl (.pointer (some ⟨g2, 0, none⟩)) (run_fld 93 _ 0 rfl _ _ rfl _ (by kernel_rfl)) ?_
  simp only [z0, z1]
  refine s_val 89 rfl rfl (.agg (c23 f.a)) (run_lda 23 _ rfl g2 0 16 rfl 93 _ kg2 _ Try.underlying23 rfl si23 (Nat.le_of_ble_eq_true rfl) _ (by kernel_rfl)) ?_
  simp only [z0, z1]
  refine s_val 90 rfl rfl (.pointer (some ⟨g2, 16, none⟩)) (run_fld 93 _ 1 rfl _ _ rfl _ (by kernel_rfl)) ?_
  simp only [z0, z1]
  refine s_val 91 rfl rfl (.agg (c23 f.b)) (run_lda 23 _ rfl g2 16 16 rfl 93 _ kg2 _ Try.underlying23 rfl si23 (Nat.le_of_ble_eq_true rfl) _ (by kernel_rfl)) ?_
  simp only [z0, z1]
  refine s_val 92 rfl rfl (.pointer (some ⟨g2, 32, none⟩)) (run_fld 93 _ 2 rfl _ _ rfl _ (by kernel_rfl)) ?_
  simp only [z0, z1]
  refine s_val 93 rfl rfl (.int .i64 f.op) (run_ldc 3 _ rfl g2 32 rfl 93 _ kg2 (na3 _) _ rfl) ?_
  simp only [z0, z1]
  refine s_val 94 rfl rfl (.pointer (some ⟨g2, 33, none⟩)) (run_fld 93 _ 3 rfl _ _ rfl _ (by kernel_rfl)) ?_
  simp only [z0, z1]
  refine s_val 95 rfl rfl (.agg (c25 f.pw f.pn)) (run_lda 25 _ rfl g2 33 17 rfl 93 _ kg2 _ Try.underlying25 rfl si25 (Nat.le_of_ble_eq_true rfl) _ (by kernel_rfl)) ?_
  simp only [z0, z1]
  refine s_val 96 rfl rfl (.pointer (some ⟨g2, 50, none⟩)) (run_fld 93 _ 4 rfl _ _ rfl _ (by kernel_rfl)) ?_
  simp only [z0, z1]
  refine s_val 97 rfl rfl (.bool f.toA) (run_ldc 4 _ rfl g2 50 rfl 93 _ kg2 (na4 _) _ rfl) ?_
  simp only [z0, z1]
  refine s_val 98 rfl rfl (.pointer (some ⟨g2, 51, none⟩)) (run_fld 93 _ 5 rfl _ _ rfl _ (by kernel_rfl)) ?_
  simp only [z0, z1]
  refine s_val 99 rfl rfl (.slice f.tr.ao f.tr.n f.tr.cap) (run_ldc 28 _ rfl g2 51 rfl 93 _ kg2 (na28 _) _ rfl) ?_
  simp only [z0, z1]
  refine s_val 100 rfl rfl (.agg (c36 0 f.pw f.pn f.toA f.a f.b 0 0 0 0 0 f.tr Sl.nil zF 0 zF Sl.nil f.op 0 Sl.nil)) (run_bd 36 _ rfl [(3, .agg (c23 f.a)), (4, .agg (c23 f.b)), (11, .int .i64 f.op), (1, .agg (c25 f.pw f.pn)), (2, .bool f.toA), (8, .slice f.tr.ao f.tr.n f.tr.cap)] rfl _ (by kernel_rfl)) ?_
  simp only [z0, z1]
  refine s_store rfl rfl 36 _ _ rfl g1 0 rfl (.agg (c36 0 f.pw f.pn f.toA f.a f.b 0 0 0 0 0 f.tr Sl.nil zF 0 zF Sl.nil f.op 0 Sl.nil)) rfl 36 _ kg1 (c36 0 f.pw f.pn f.toA f.a f.b 0 0 0 0 0 f.tr Sl.nil zF 0 zF Sl.nil f.op 0 Sl.nil) rfl (by kernel_rfl) (Nat.le_of_ble_eq_true rfl) (by kernel_rfl) (c36 0 f.pw f.pn f.toA f.a f.b 0 0 0 0 0 f.tr Sl.nil zF 0 zF Sl.nil f.op 0 Sl.nil) (by kernel_rfl) ?_
  intro w6 S
  replace kg2 := S.has (by omega) kg2
  replace GG := GG.store S bg1
  replace kg1 := S.new
  clear S
  refine s_val 3 rfl rfl (.bool true) (rfl) ?_
  simp only [z0, z1]
  refine wpList_nil ?_
  refine then_n ?_
  refine wp_ret ?_
  refine blk_r ?_
  refine then_r ?_
  refine bodyPost_ret (results_cell_tmp Try.results36 _ _ g1 36 _ (0, 0) _ rfl (.bool true) rfl kg1 Try.underlying36 rfl (by kernel_rfl)) rfl ?_
  exact ⟨rfl, GG⟩
set_option maxRecDepth 100000 in
set_option maxHeartbeats 4000000 in
theorem fields_9 (f : Fr) (w : World) : Calls Try.prog 36 #[.iface 95 (.agg (c95 f.a f.n))] w fun e w' => e = .returned (.tuple #[.agg (c36 0 zF 0 false f.a zF f.n 0 0 0 0 Sl.nil Sl.nil zF 0 zF Sl.nil 0 0 Sl.nil), .bool true]) ∧ Gro w w' := by
  refine s_enter Try.func36 rfl Try.ntmps36 [.iface 95 (.agg (c95 f.a f.n))] [.iface 95 (.agg (c95 f.a f.n)), undef, undef, undef, undef, undef, undef, undef, undef, undef, undef, undef, undef, undef, undef, undef, undef, undef, undef, undef, undef, undef, undef, undef, undef, undef, undef, undef, undef, undef, undef, undef, undef, undef, undef, undef, undef, undef, undef, undef, undef, undef, undef, undef, undef, undef, undef, undef, undef, undef, undef, undef, undef, undef, undef, undef, undef, undef, undef, undef, undef, undef, undef, undef, undef, undef, undef, undef, undef, undef, undef, undef, undef, undef, undef, undef, undef, undef, undef, undef, undef, undef, undef, undef, undef, undef, undef, undef, undef, undef, undef, undef, undef, undef, undef, undef, undef, undef, undef, undef, undef, undef, undef, undef, undef, undef, undef, undef, undef, undef, undef, undef, undef, undef, undef, undef, undef, undef, undef, undef, undef, undef, undef, undef, undef, undef, undef, undef, undef, undef, undef, undef, undef, undef, undef, undef, undef, undef, undef, undef, undef, undef, undef, undef, undef, undef, undef, undef, undef, undef, undef] rfl ?_
  have GG := Gro.refl w
  refine wp_seq ?_
  refine wp_region_lit ?_
  refine s_alloc 2 rfl rfl 36 rfl _ zv36 _ rfl ?_
  intro w1 g1 G eg1 kg1
  have bg1 := size_base GG eg1
  replace GG := GG.trans G
  clear G eg1
  simp only [z0, z1]
  refine s_val 3 rfl rfl (.bool false) (rfl) ?_
  simp only [z0, z1]
  refine wpList_nil ?_
  refine then_n ?_
  refine wp_seq ?_
  refine wp_seq ?_
  refine wp_region_lit ?_
  refine s_val 16 rfl rfl (.iface 95 (.agg (c95 f.a f.n))) (rfl) ?_
  simp only [z0, z1]
  refine wpList_nil ?_
  refine then_n ?_
  refine wp_block ?_
  refine wp_seq ?_
  refine wp_region_lit ?_
  refine s_val 17 rfl rfl (.tuple #[.agg (c79 0 0 0 0 zF), .bool false]) (run_ta _ 48 79 true rfl _ _ rfl (by kernel_rfl)) ?_
  simp only [z0, z1]
  refine s_val 18 rfl rfl (.bool false) (rfl) ?_
  simp only [z0, z1]
  refine s_val 19 rfl rfl (.agg (c79 0 0 0 0 zF)) (rfl) ?_
  simp only [z0, z1]
  refine wpList_nil ?_
  refine then_n ?_
  refine wp_cond_false rfl ?_
  refine wp_seq ?_
  refine wp_region_lit ?_
  refine s_val 27 rfl rfl (.tuple #[.agg (c81 0 0 0 0 0 Sl.nil), .bool false]) (run_ta _ 48 81 true rfl _ _ rfl (by kernel_rfl)) ?_
  simp only [z0, z1]
  refine s_val 28 rfl rfl (.bool false) (rfl) ?_
  simp only [z0, z1]
  refine s_val 29 rfl rfl (.agg (c81 0 0 0 0 0 Sl.nil)) (rfl) ?_
  simp only [z0, z1]
  refine wpList_nil ?_
  refine then_n ?_
  refine wp_cond_false rfl ?_
  refine wp_seq ?_
  refine wp_region_lit ?_
  refine s_val 39 rfl rfl (.tuple #[.agg (c83 0 0 0 0 0), .bool false]) (run_ta _ 48 83 true rfl _ _ rfl (by kernel_rfl)) ?_
  simp only [z0, z1]
  refine s_val 40 rfl rfl (.bool false) (rfl) ?_
  simp only [z0, z1]
  refine s_val 41 rfl rfl (.agg (c83 0 0 0 0 0)) (rfl) ?_
  simp only [z0, z1]
  refine wpList_nil ?_
  refine then_n ?_
  refine wp_cond_false rfl ?_
  refine wp_seq ?_
  refine wp_region_lit ?_
  refine s_val 49 rfl rfl (.tuple #[.agg (c85 zF 0 zF zF Sl.nil), .bool false]) (run_ta _ 48 85 true rfl _ _ rfl (by kernel_rfl)) ?_
  simp only [z0, z1]
  refine s_val 50 rfl rfl (.bool false) (rfl) ?_
  simp only [z0, z1]
  refine s_val 51 rfl rfl (.agg (c85 zF 0 zF zF Sl.nil)) (rfl) ?_
  simp only [z0, z1]
  refine wpList_nil ?_
  refine then_n ?_
  refine wp_cond_false rfl ?_
  refine wp_seq ?_
  refine wp_region_lit ?_
  refine s_val 61 rfl rfl (.tuple #[.agg (c87 zF 0), .bool false]) (run_ta _ 48 87 true rfl _ _ rfl (by kernel_rfl)) ?_
  simp only [z0, z1]
  refine s_val 62 rfl rfl (.bool false) (rfl) ?_
  simp only [z0, z1]
  refine s_val 63 rfl rfl (.agg (c87 zF 0)) (rfl) ?_
  simp only [z0, z1]
  refine wpList_nil ?_
  refine then_n ?_
  refine wp_cond_false rfl ?_
  refine wp_seq ?_
  refine wp_region_lit ?_
  refine s_val 67 rfl rfl (.tuple #[.agg (c89 zF 0 false), .bool false]) (run_ta _ 48 89 true rfl _ _ rfl (by kernel_rfl)) ?_
  simp only [z0, z1]
  refine s_val 68 rfl rfl (.bool false) (rfl) ?_
  simp only [z0, z1]
  refine s_val 69 rfl rfl (.agg (c89 zF 0 false)) (rfl) ?_
  simp only [z0, z1]
  refine wpList_nil ?_
  refine then_n ?_
  refine wp_cond_false rfl ?_
  refine wp_seq ?_
  refine wp_region_lit ?_
  refine s_val 75 rfl rfl (.tuple #[.agg (c91 zF 0 false Sl.nil), .bool false]) (run_ta _ 48 91 true rfl _ _ rfl (by kernel_rfl)) ?_
  simp only [z0, z1]
  refine s_val 76 rfl rfl (.bool false) (rfl) ?_
  simp only [z0, z1]
  refine s_val 77 rfl rfl (.agg (c91 zF 0 false Sl.nil)) (rfl) ?_
  simp only [z0, z1]
  refine wpList_nil ?_
  refine then_n ?_
  refine wp_cond_false rfl ?_
  refine wp_seq ?_
  refine wp_region_lit ?_
  refine s_val 85 rfl rfl (.tuple #[.agg (c93 zF zF 0 zF 0 false Sl.nil), .bool false]) (run_ta _ 48 93 true rfl _ _ rfl (by kernel_rfl)) ?_
  simp only [z0, z1]
  refine s_val 86 rfl rfl (.bool false) (rfl) ?_
  simp only [z0, z1]
  refine s_val 87 rfl rfl (.agg (c93 zF zF 0 zF 0 false Sl.nil)) (rfl) ?_
  simp only [z0, z1]
  refine wpList_nil ?_
  refine then_n ?_
  refine wp_cond_false rfl ?_
  refine wp_seq ?_
  refine wp_region_lit ?_
  refine s_val 101 rfl rfl (.tuple #[.agg (c95 f.a f.n), .bool true]) (run_ta _ 48 95 true rfl _ _ rfl (by kernel_rfl)) ?_
  simp only [z0, z1]
  refine s_val 102 rfl rfl (.bool true) (rfl) ?_
  simp only [z0, z1]
  refine s_val 103 rfl rfl (.agg (c95 f.a f.n)) (rfl) ?_
  simp only [z0, z1]
  refine wpList_nil ?_
  refine then_n ?_
  refine wp_cond_true rfl ?_
  refine wp_seq ?_
  refine wp_region_lit ?_
  refine s_alloc 12 rfl rfl 95 rfl _ zv95 _ rfl ?_
  intro w2 g2 G eg2 kg2
  have bg2 := size_base GG eg2
  have dg1g2 := lt_new kg1 eg2
  replace kg1 := G.has kg1
  replace GG := GG.trans G
  clear G eg2
  simp only [z0, z1]
  refine s_store rfl rfl 95 _ _ rfl g2 0 rfl (.agg (c95 f.a f.n)) rfl 95 _ kg2 (c95 f.a f.n) rfl (by kernel_rfl) (Nat.le_of_ble_eq_true rfl) (by kernel_rfl) (c95 f.a f.n) (by kernel_rfl) ?_
  intro w4 S
  replace kg1 := S.has (by omega) kg1
  replace GG := GG.store S bg2
  replace kg2 := S.new
  clear S
  refine wpList_nil ?_
  refine then_n ?_
  refine wp_seq ?_
  refine wp_region_lit ?_
  refine s_val 104 rfl rfl (.pointer (some ⟨g2, 0, none⟩)) (run_fld 95 _ 0 rfl _ _ rfl _ (by kernel_rfl)) ?_
  simp only [z0, z1]
  refine s_val 105 rfl rfl (.agg (c23 f.a)) (run_lda 23 _ rfl g2 0 16 rfl 95 _ kg2 _ Try.underlying23 rfl si23 (Nat.le_of_ble_eq_true rfl) _ (by kernel_rfl)) ?_
  simp only [z0, z1]
  refine s_val 106 rfl rfl (.pointer (some ⟨g2, 16, none⟩)) (run_fld 95 _ 1 rfl _ _ rfl _ (by kernel_rfl)) ?_
  simp only [z0, z1]
  refine s_val 107 rfl rfl (.int .i64 f.n) (run_ldc 2 _ rfl g2 16 rfl 95 _ kg2 (na2 _) _ rfl) ?_
  simp only [z0, z1]
  refine s_val 108 rfl rfl (.agg (c36 0 zF 0 false f.a zF f.n 0 0 0 0 Sl.nil Sl.nil zF 0 zF Sl.nil 0 0 Sl.nil)) (run_bd 36 _ rfl [(3, .agg (c23 f.a)), (5, .int .i64 f.n)] rfl _ (by kernel_rfl)) ?_
  simp only [z0, z1]
  refine s_store rfl rfl 36 _ _ rfl g1 0 rfl (.agg (c36 0 zF 0 false f.a zF f.n 0 0 0 0 Sl.nil Sl.nil zF 0 zF Sl.nil 0 0 Sl.nil)) rfl 36 _ kg1 (c36 0 zF 0 false f.a zF f.n 0 0 0 0 Sl.nil Sl.nil zF 0 zF Sl.nil 0 0 Sl.nil) rfl (by kernel_rfl) (Nat.le_of_ble_eq_true rfl) (by kernel_rfl) (c36 0 zF 0 false f.a zF f.n 0 0 0 0 Sl.nil Sl.nil zF 0 zF Sl.nil 0 0 Sl.nil) (by kernel_rfl) ?_
  intro w6 S
  replace kg2 := S.has (by omega) kg2
  replace GG := GG.store S bg1
  replace kg1 := S.new
  clear S
  refine s_val 3 rfl rfl (.bool true) (rfl) ?_
  simp only [z0, z1]
  refine wpList_nil ?_
  refine then_n ?_
  refine wp_ret ?_
  refine blk_r ?_
  refine then_r ?_
  refine bodyPost_ret (results_cell_tmp Try.results36 _ _ g1 36 _ (0, 0) _ rfl (.bool true) rfl kg1 Try.underlying36 rfl (by kernel_rfl)) rfl ?_
  exact ⟨rfl, GG⟩
set_option maxRecDepth 100000 in
set_option maxHeartbeats 4000000 in
theorem fields_10 (f : Fr) (w : World) : Calls Try.prog 36 #[.iface 97 (.agg (c97 f.a f.b f.n f.op f.ttl f.key f.vn f.vw f.val f.tx))] w fun e w' => e = .returned (.tuple #[.agg (c36 0 zF 0 false f.a f.b f.n 0 0 0 0 Sl.nil Sl.nil f.key f.vn f.vw f.val f.op f.ttl f.tx), .bool true]) ∧ Gro w w' := by
  refine s_enter Try.func36 rfl Try.ntmps36 [.iface 97 (.agg (c97 f.a f.b f.n f.op f.ttl f.key f.vn f.vw f.val f.tx))] [.iface 97 (.agg (c97 f.a f.b f.n f.op f.ttl f.key f.vn f.vw f.val f.tx)), undef, undef, undef, undef, undef, undef, undef, undef, undef, undef, undef, undef, undef, undef, undef, undef, undef, undef, undef, undef, undef, undef, undef, undef, undef, undef, undef, undef, undef, undef, undef, undef, undef, undef, undef, undef, undef, undef, undef, undef, undef, undef, undef, undef, undef, undef, undef, undef, undef, undef, undef, undef, undef, undef, undef, undef, undef, undef, undef, undef, undef, undef, undef, undef, undef, undef, undef, undef, undef, undef, undef, undef, undef, undef, undef, undef, undef, undef, undef, undef, undef, undef, undef, undef, undef, undef, undef, undef, undef, undef, undef, undef, undef, undef, undef, undef, undef, undef, undef, undef, undef, undef, undef, undef, undef, undef, undef, undef, undef, undef, undef, undef, undef, undef, undef, undef, undef, undef, undef, undef, undef, undef, undef, undef, undef, undef, undef, undef, undef, undef, undef, undef, undef, undef, undef, undef, undef, undef, undef, undef, undef, undef, undef, undef, undef, undef, undef, undef, undef, undef] rfl ?_
  have GG := Gro.refl w
  refine wp_seq ?_
  refine wp_region_lit ?_
  refine s_alloc 2 rfl rfl 36 rfl _ zv36 _ rfl ?_
  intro w1 g1 G eg1 kg1
  have bg1 := size_base GG eg1
  replace GG := GG.trans G
  clear G eg1
  simp only [z0, z1]
  refine s_val 3 rfl rfl (.bool false) (rfl) ?_
  simp only [z0, z1]
  refine wpList_nil ?_
  refine then_n ?_
  refine wp_seq ?_
  refine wp_seq ?_
  refine wp_region_lit ?_
  refine s_val 16 rfl rfl (.iface 97 (.agg (c97 f.a f.b f.n f.op f.ttl f.key f.vn f.vw f.val f.tx))) (rfl) ?_
  simp only [z0, z1]
  refine wpList_nil ?_
  refine then_n ?_
  refine wp_block ?_
  refine wp_seq ?_
  refine wp_region_lit ?_
  refine s_val 17 rfl rfl (.tuple #[.agg (c79 0 0 0 0 zF), .bool false]) (run_ta _ 48 79 true rfl _ _ rfl (by kernel_rfl)) ?_
  simp only [z0, z1]
  refine s_val 18 rfl rfl (.bool false) (rfl) ?_
  simp only [z0, z1]
  refine s_val 19 rfl rfl (.agg (c79 0 0 0 0 zF)) (rfl) ?_
  simp only [z0, z1]
  refine wpList_nil ?_
  refine then_n ?_
  refine wp_cond_false rfl ?_
  refine wp_seq ?_
  refine wp_region_lit ?_
  refine s_val 27 rfl rfl (.tuple #[.agg (c81 0 0 0 0 0 Sl.nil), .bool false]) (run_ta _ 48 81 true rfl _ _ rfl (by kernel_rfl)) ?_
  simp only [z0, z1]
  refine s_val 28 rfl rfl (.bool false) (rfl) ?_
  simp only [z0, z1]
  refine s_val 29 rfl rfl (.agg (c81 0 0 0 0 0 Sl.nil)) (rfl) ?_
  simp only [z0, z1]
  refine wpList_nil ?_
  refine then_n ?_
  refine wp_cond_false rfl ?_
  refine wp_seq ?_
  refine wp_region_lit ?_
  refine s_val 39 rfl rfl (.tuple #[.agg (c83 0 0 0 0 0), .bool false]) (run_ta _ 48 83 true rfl _ _ rfl (by kernel_rfl)) ?_
  simp only [z0, z1]
  refine s_val 40 rfl rfl (.bool false) (rfl) ?_
  simp only [z0, z1]
  refine s_val 41 rfl rfl (.agg (c83 0 0 0 0 0)) (rfl) ?_
  simp only [z0, z1]
  refine wpList_nil ?_
  refine then_n ?_
  refine wp_cond_false rfl ?_
  refine wp_seq ?_
  refine wp_region_lit ?_
  refine s_val 49 rfl rfl (.tuple #[.agg (c85 zF 0 zF zF Sl.nil), .bool false]) (run_ta _ 48 85 true rfl _ _ rfl (by kernel_rfl)) ?_
  simp only [z0, z1]
  refine s_val 50 rfl rfl (.bool false) (rfl) ?_
  simp only [z0, z1]
  refine s_val 51 rfl rfl (.agg (c85 zF 0 zF zF Sl.nil)) (rfl) ?_
  simp only [z0, z1]
  refine wpList_nil ?_
  refine then_n ?_
  refine wp_cond_false rfl ?_
  refine wp_seq ?_
  refine wp_region_lit ?_
  refine s_val 61 rfl rfl (.tuple #[.agg (c87 zF 0), .bool false]) (run_ta _ 48 87 true rfl _ _ rfl (by kernel_rfl)) ?_
  simp only [z0, z1]
  refine s_val 62 rfl rfl (.bool false) (rfl) ?_
  simp only [z0, z1]
  refine s_val 63 rfl rfl (.agg (c87 zF 0)) (rfl) ?_
  simp only [z0, z1]
  refine wpList_nil ?_
  refine then_n ?_
  refine wp_cond_false rfl ?_
  refine wp_seq ?_
  refine wp_region_lit ?_
  refine s_val 67 rfl rfl (.tuple #[.agg (c89 zF 0 false), .bool false]) (run_ta _ 48 89 true rfl _ _ rfl (by kernel_rfl)) ?_
  simp only [z0, z1]
  refine s_val 68 rfl rfl (.bool false) (rfl) ?_
  simp only [z0, z1]
  refine s_val 69 rfl rfl (.agg (c89 zF 0 false)) (rfl) ?_
  simp only [z0, z1]
  refine wpList_nil ?_
  refine then_n ?_
  refine wp_cond_false rfl ?_
  refine wp_seq ?_
  refine wp_region_lit ?_
  refine s_val 75 rfl rfl (.tuple #[.agg (c91 zF 0 false Sl.nil), .bool false]) (run_ta _ 48 91 true rfl _ _ rfl (by kernel_rfl)) ?_
  simp only [z0, z1]
  refine s_val 76 rfl rfl (.bool false) (rfl) ?_
  simp only [z0, z1]
  refine s_val 77 rfl rfl (.agg (c91 zF 0 false Sl.nil)) (rfl) ?_
  simp only [z0, z1]
  refine wpList_nil ?_
  refine then_n ?_
  refine wp_cond_false rfl ?_
  refine wp_seq ?_
  refine wp_region_lit ?_
  refine s_val 85 rfl rfl (.tuple #[.agg (c93 zF zF 0 zF 0 false Sl.nil), .bool false]) (run_ta _ 48 93 true rfl _ _ rfl (by kernel_rfl)) ?_
  simp only [z0, z1]
  refine s_val 86 rfl rfl (.bool false) (rfl) ?_
  simp only [z0, z1]
  refine s_val 87 rfl rfl (.agg (c93 zF zF 0 zF 0 false Sl.nil)) (rfl) ?_
  simp only [z0, z1]
  refine wpList_nil ?_
  refine then_n ?_
  refine wp_cond_false rfl ?_
  refine wp_seq ?_
  refine wp_region_lit ?_
  refine s_val 101 rfl rfl (.tuple #[.agg (c95 zF 0), .bool false]) (run_ta _ 48 95 true rfl _ _ rfl (by kernel_rfl)) ?_
  simp only [z0, z1]
  refine s_val 102 rfl rfl (.bool false) (rfl) ?_
  simp only [z0, z1]
  refine s_val 103 rfl rfl (.agg (c95 zF 0)) (rfl) ?_
  simp only [z0, z1]
  refine wpList_nil ?_
  refine then_n ?_
  refine wp_cond_false rfl ?_
  refine wp_seq ?_
  refine wp_region_lit ?_
  refine s_val 109 rfl rfl (.tuple #[.agg (c97 f.a f.b f.n f.op f.ttl f.key f.vn f.vw f.val f.tx), .bool true]) (run_ta _ 48 97 true rfl _ _ rfl (by kernel_rfl)) ?_
  simp only [z0, z1]
  refine s_val 110 rfl rfl (.bool true) (rfl) ?_
  simp only [z0, z1]
  refine s_val 111 rfl rfl (.agg (c97 f.a f.b f.n f.op f.ttl f.key f.vn f.vw f.val f.tx)) (rfl) ?_
  simp only [z0, z1]
  refine wpList_nil ?_
  refine then_n ?_
  refine wp_cond_true rfl ?_
  refine wp_seq ?_
  refine wp_region_lit ?_
  refine s_alloc 13 rfl rfl 97 rfl _ zv97 _ rfl ?_
  intro w2 g2 G eg2 kg2
  have bg2 := size_base GG eg2
  have dg1g2 := lt_new kg1 eg2
  replace kg1 := G.has kg1
  replace GG := GG.trans G
  clear G eg2
  simp only [z0, z1]
  refine s_store rfl rfl 97 _ _ rfl g2 0 rfl (.agg (c97 f.a f.b f.n f.op f.ttl f.key f.vn f.vw f.val f.tx)) rfl 97 _ kg2 (c97 f.a f.b f.n f.op f.ttl f.key f.vn f.vw f.val f.tx) rfl (by kernel_rfl) (Nat.le_of_ble_eq_true rfl) (by kernel_rfl) (c97 f.a f.b f.n f.op f.ttl f.key f.vn f.vw f.val f.tx) (by kernel_rfl) ?_
  intro w4 S
  replace kg1 := S.has (by omega) kg1
  replace GG := GG.store S bg2
  replace kg2 := S.new
  clear S
  refine wpList_nil ?_
  refine then_n ?_
  refine wp_seq ?_
  refine wp_region_lit ?_
  refine s_val 112 rfl rfl (.pointer (some ⟨g2, 0, none⟩)) (run_fld 97 _ 0 rfl _ _ rfl _ (by kernel_rfl)) ?_
  simp only [z0, z1]
  refine s_val 113 rfl rfl (.agg (c23 f.a)) (run_lda 23 _ rfl g2 0 16 rfl 97 _ kg2 _ Try.underlying23 rfl si23 (Nat.le_of_ble_eq_true rfl) _ (by kernel_rfl)) ?_
  simp only [z0, z1]
  refine s_val 114 rfl rfl (.pointer (some ⟨g2, 16, none⟩)) (run_fld 97 _ 1 rfl _ _ rfl _ (by kernel_rfl)) ?_
  simp only [z0, z1]
  refine s_val 115 rfl rfl (.agg (c23 f.b)) (run_lda 23 _ rfl g2 16 16 rfl 97 _ kg2 _ Try.underlying23 rfl si23 (Nat.le_of_ble_eq_true rfl) _ (by kernel_rfl)) ?_
  simp only [z0, z1]
  refine s_val 116 rfl rfl (.pointer (some ⟨g2, 32, none⟩)) (run_fld 97 _ 2 rfl _ _ rfl _ (by kernel_rfl)) ?_
  simp only [z0, z1]
  refine s_val 117 rfl rfl (.int .i64 f.n) (run_ldc 2 _ rfl g2 32 rfl 97 _ kg2 (na2 _) _ rfl) ?_
  simp only [z0, z1]
  refine s_val 118 rfl rfl (.pointer (some ⟨g2, 33, none⟩)) (run_fld 97 _ 3 rfl _ _ rfl _ (by kernel_rfl)) ?_
  simp only [z0, z1]
  refine s_val 119 rfl rfl (.int .i64 f.op) (run_ldc 3 _ rfl g2 33 rfl 97 _ kg2 (na3 _) _ rfl) ?_
  simp only [z0, z1]
  refine s_val 120 rfl rfl (.pointer (some ⟨g2, 34, none⟩)) (run_fld 97 _ 4 rfl _ _ rfl _ (by kernel_rfl)) ?_
  simp only [z0, z1]
  refine s_val 121 rfl rfl (.int .i64 f.ttl) (run_ldc 3 _ rfl g2 34 rfl 97 _ kg2 (na3 _) _ rfl) ?_
  simp only [z0, z1]
  refine s_val 122 rfl rfl (.pointer (some ⟨g2, 35, none⟩)) (run_fld 97 _ 5 rfl _ _ rfl _ (by kernel_rfl)) ?_
  simp only [z0, z1]
  refine s_val 123 rfl rfl (.agg (c34 f.key f.vn f.vw f.val)) (run_lda 34 _ rfl g2 35 34 rfl 97 _ kg2 _ Try.underlying34 rfl si34 (Nat.le_of_ble_eq_true rfl) _ (by kernel_rfl)) ?_
  simp only [z0, z1]
  refine s_val 124 rfl rfl (.pointer (some ⟨g2, 69, none⟩)) (run_fld 97 _ 6 rfl _ _ rfl _ (by kernel_rfl)) ?_
  simp only [z0, z1]
  refine s_val 125 rfl rfl (.slice f.tx.ao f.tx.n f.tx.cap) (run_ldc 32 _ rfl g2 69 rfl 97 _ kg2 (na32 _) _ rfl) ?_
  simp only [z0, z1]
  refine s_val 126 rfl rfl (.agg (c36 0 zF 0 false f.a f.b f.n 0 0 0 0 Sl.nil Sl.nil f.key f.vn f.vw f.val f.op f.ttl f.tx)) (run_bd 36 _ rfl [(3, .agg (c23 f.a)), (4, .agg (c23 f.b)), (5, .int .i64 f.n), (11, .int .i64 f.op), (12, .int .i64 f.ttl), (10, .agg (c34 f.key f.vn f.vw f.val)), (13, .slice f.tx.ao f.tx.n f.tx.cap)] rfl _ (by kernel_rfl)) ?_
  simp only [z0, z1]
  refine s_store rfl rfl 36 _ _ rfl g1 0 rfl (.agg (c36 0 zF 0 false f.a f.b f.n 0 0 0 0 Sl.nil Sl.nil f.key f.vn f.vw f.val f.op f.ttl f.tx)) rfl 36 _ kg1 (c36 0 zF 0 false f.a f.b f.n 0 0 0 0 Sl.nil Sl.nil f.key f.vn f.vw f.val f.op f.ttl f.tx) rfl (by kernel_rfl) (Nat.le_of_ble_eq_true rfl) (by kernel_rfl) (c36 0 zF 0 false f.a f.b f.n 0 0 0 0 Sl.nil Sl.nil f.key f.vn f.vw f.val f.op f.ttl f.tx) (by kernel_rfl) ?_
  intro w6 S
  replace kg2 := S.has (by omega) kg2
  replace GG := GG.store S bg1
  replace kg1 := S.new
  clear S
  refine s_val 3 rfl rfl (.bool true) (rfl) ?_
  simp only [z0, z1]
  refine wpList_nil ?_
  refine then_n ?_
  refine wp_ret ?_
  refine blk_r ?_
  refine then_r ?_
  refine bodyPost_ret (results_cell_tmp Try.results36 _ _ g1 36 _ (0, 0) _ rfl (.bool true) rfl kg1 Try.underlying36 rfl (by kernel_rfl)) rfl ?_
  exact ⟨rfl, GG⟩
set_option maxRecDepth 100000 in
set_option maxHeartbeats 4000000 in
theorem fields_11 (f : Fr) (w : World) : Calls Try.prog 36 #[.iface 99 (.agg (c99 f.pw f.pn f.toA f.key f.vn f.vw f.val))] w fun e w' => e = .returned (.tuple #[.agg (c36 0 f.pw f.pn f.toA zF zF 0 0 0 0 0 Sl.nil Sl.nil f.key f.vn f.vw f.val 0 0 Sl.nil), .bool true]) ∧ Gro w w' := by
  refine s_enter Try.func36 rfl Try.ntmps36 [.iface 99 (.agg (c99 f.pw f.pn f.toA f.key f.vn f.vw f.val))] [.iface 99 (.agg (c99 f.pw f.pn f.toA f.key f.vn f.vw f.val)), undef, undef, undef, undef, undef, undef, undef, undef, undef, undef, undef, undef, undef, undef, undef, undef, undef, undef, undef, undef, undef, undef, undef, undef, undef, undef, undef, undef, undef, undef, undef, undef, undef, undef, undef, undef, undef, undef, undef, undef, undef, undef, undef, undef, undef, undef, undef, undef, undef, undef, undef, undef, undef, undef, undef, undef, undef, undef, undef, undef, undef, undef, undef, undef, undef, undef, undef, undef, undef, undef, undef, undef, undef, undef, undef, undef, undef, undef, undef, undef, undef, undef, undef, undef, undef, undef, undef, undef, undef, undef, undef, undef, undef, undef, undef, undef, undef, undef, undef, undef, undef, undef, undef, undef, undef, undef, undef, undef, undef, undef, undef, undef, undef, undef, undef, undef, undef, undef, undef, undef, undef, undef, undef, undef, undef, undef, undef, undef, undef, undef, undef, undef, undef, undef, undef, undef, undef, undef, undef, undef, undef, undef, undef, undef, undef, undef, undef, undef, undef, undef] rfl ?_
  have GG := Gro.refl w
  refine wp_seq ?_
  refine wp_region_lit ?_
  refine s_alloc 2 rfl rfl 36 rfl _ zv36 _ rfl ?_
  intro w1 g1 G eg1 kg1
  have bg1 := size_base GG eg1
  replace GG := GG.trans G
  clear G eg1
  simp only [z0, z1]
  refine s_val 3 rfl rfl (.bool false) (rfl) ?_
  simp only [z0, z1]
  refine wpList_nil ?_
  refine then_n ?_
  refine wp_seq ?_
  refine wp_seq ?_
  refine wp_region_lit ?_
  refine s_val 16 rfl rfl (.iface 99 (.agg (c99 f.pw f.pn f.toA f.key f.vn f.vw f.val))) (rfl) ?_
  simp only [z0, z1]
  refine wpList_nil ?_
  refine then_n ?_
  refine wp_block ?_
  refine wp_seq ?_
  refine wp_region_lit ?_
  refine s_val 17 rfl rfl (.tuple #[.agg (c79 0 0 0 0 zF), .bool false]) (run_ta _ 48 79 true rfl _ _ rfl (by kernel_rfl)) ?_
  simp only [z0, z1]
  refine s_val 18 rfl rfl (.bool false) (rfl) ?_
  simp only [z0, z1]
  refine s_val 19 rfl rfl (.agg (c79 0 0 0 0 zF)) (rfl) ?_
  simp only [z0, z1]
  refine wpList_nil ?_
  refine then_n ?_
  refine wp_cond_false rfl ?_
  refine wp_seq ?_
  refine wp_region_lit ?_
  refine s_val 27 rfl rfl (.tuple #[.agg (c81 0 0 0 0 0 Sl.nil), .bool false]) (run_ta _ 48 81 true rfl _ _ rfl (by kernel_rfl)) ?_
  simp only [z0, z1]
  refine s_val 28 rfl rfl (.bool false) (rfl) ?_
  simp only [z0, z1]
  refine s_val 29 rfl rfl (.agg (c81 0 0 0 0 0 Sl.nil)) (rfl) ?_
  simp only [z0, z1]
  refine wpList_nil ?_
  refine then_n ?_
  refine wp_cond_false rfl ?_
  refine wp_seq ?_
  refine wp_region_lit ?_
  refine s_val 39 rfl rfl (.tuple #[.agg (c83 0 0 0 0 0), .bool false]) (run_ta _ 48 83 true rfl _ _ rfl (by kernel_rfl)) ?_
  simp only [z0, z1]
  refine s_val 40 rfl rfl (.bool false) (rfl) ?_
  simp only [z0, z1]
  refine s_val 41 rfl rfl (.agg (c83 0 0 0 0 0)) (rfl) ?_
  simp only [z0, z1]
  refine wpList_nil ?_
  refine then_n ?_
  refine wp_cond_false rfl ?_
  refine wp_seq ?_
  refine wp_region_lit ?_
  refine s_val 49 rfl rfl (.tuple #[.agg (c85 zF 0 zF zF Sl.nil), .bool false]) (run_ta _ 48 85 true rfl _ _ rfl (by kernel_rfl)) ?_
  simp only [z0, z1]
  refine s_val 50 rfl rfl (.bool false) (rfl) ?_
  simp only [z0, z1]
  refine s_val 51 rfl rfl (.agg (c85 zF 0 zF zF Sl.nil)) (rfl) ?_
  simp only [z0, z1]
  refine wpList_nil ?_
  refine then_n ?_
  refine wp_cond_false rfl ?_
  refine wp_seq ?_
  refine wp_region_lit ?_
  refine s_val 61 rfl rfl (.tuple #[.agg (c87 zF 0), .bool false]) (run_ta _ 48 87 true rfl _ _ rfl (by kernel_rfl)) ?_
  simp only [z0, z1]
  refine s_val 62 rfl rfl (.bool false) (rfl) ?_
  simp only [z0, z1]
  refine s_val 63 rfl rfl (.agg (c87 zF 0)) (rfl) ?_
  simp only [z0, z1]
  refine wpList_nil ?_
  refine then_n ?_
  refine wp_cond_false rfl ?_
  refine wp_seq ?_
  refine wp_region_lit ?_
  refine s_val 67 rfl rfl (.tuple #[.agg (c89 zF 0 false), .bool false]) (run_ta _ 48 89 true rfl _ _ rfl (by kernel_rfl)) ?_
  simp only [z0, z1]
  refine s_val 68 rfl rfl (.bool false) (rfl) ?_
  simp only [z0, z1]
  refine s_val 69 rfl rfl (.agg (c89 zF 0 false)) (rfl) ?_
  simp only [z0, z1]
  refine wpList_nil ?_
  refine then_n ?_
  refine wp_cond_false rfl ?_
  refine wp_seq ?_
  refine wp_region_lit ?_
  refine s_val 75 rfl rfl (.tuple #[.agg (c91 zF 0 false Sl.nil), .bool false]) (run_ta _ 48 91 true rfl _ _ rfl (by kernel_rfl)) ?_
  simp only [z0, z1]
  refine s_val 76 rfl rfl (.bool false) (rfl) ?_
  simp only [z0, z1]
  refine s_val 77 rfl rfl (.agg (c91 zF 0 false Sl.nil)) (rfl) ?_
  simp only [z0, z1]
  refine wpList_nil ?_
  refine then_n ?_
  refine wp_cond_false rfl ?_
  refine wp_seq ?_
  refine wp_region_lit ?_
  refine s_val 85 rfl rfl (.tuple #[.agg (c93 zF zF 0 zF 0 false Sl.nil), .bool false]) (run_ta _ 48 93 true rfl _ _ rfl (by kernel_rfl)) ?_
  simp only [z0, z1]
  refine s_val 86 rfl rfl (.bool false) (rfl) ?_
  simp only [z0, z1]
  refine s_val 87 rfl rfl (.agg (c93 zF zF 0 zF 0 false Sl.nil)) (rfl) ?_
  simp only [z0, z1]
  refine wpList_nil ?_
  refine then_n ?_
  refine wp_cond_false rfl ?_
  refine wp_seq ?_
  refine wp_region_lit ?_
  refine s_val 101 rfl rfl (.tuple #[.agg (c95 zF 0), .bool false]) (run_ta _ 48 95 true rfl _ _ rfl (by kernel_rfl)) ?_
  simp only [z0, z1]
  refine s_val 102 rfl rfl (.bool false) (rfl) ?_
  simp only [z0, z1]
  refine s_val 103 rfl rfl (.agg (c95 zF 0)) (rfl) ?_
  simp only [z0, z1]
  refine wpList_nil ?_
  refine then_n ?_
  refine wp_cond_false rfl ?_
  refine wp_seq ?_
  refine wp_region_lit ?_
  refine s_val 109 rfl rfl (.tuple #[.agg (c97 zF zF 0 0 0 zF 0 zF Sl.nil Sl.nil), .bool false]) (run_ta _ 48 97 true rfl _ _ rfl (by kernel_rfl)) ?_
  simp only [z0, z1]
  refine s_val 110 rfl rfl (.bool false) (rfl) ?_
  simp only [z0, z1]
  refine s_val 111 rfl rfl (.agg (c97 zF zF 0 0 0 zF 0 zF Sl.nil Sl.nil)) (rfl) ?_
  simp only [z0, z1]
  refine wpList_nil ?_
  refine then_n ?_
  refine wp_cond_false rfl ?_
  refine wp_seq ?_
  refine wp_region_lit ?_
  refine s_val 127 rfl rfl (.tuple #[.agg (c99 f.pw f.pn f.toA f.key f.vn f.vw f.val), .bool true]) (run_ta _ 48 99 true rfl _ _ rfl (by kernel_rfl)) ?_
  simp only [z0, z1]
  refine s_val 128 rfl rfl (.bool true) (rfl) ?_
  simp only [z0, z1]
  refine s_val 129 rfl rfl (.agg (c99 f.pw f.pn f.toA f.key f.vn f.vw f.val)) (rfl) ?_
  simp only [z0, z1]
  refine wpList_nil ?_
  refine then_n ?_
  refine wp_cond_true rfl ?_
  refine wp_seq ?_
  refine wp_region_lit ?_
  refine s_alloc 14 rfl rfl 99 rfl _ zv99 _ rfl ?_
  intro w2 g2 G eg2 kg2
  have bg2 := size_base GG eg2
  have dg1g2 := lt_new kg1 eg2
  replace kg1 := G.has kg1
  replace GG := GG.trans G
  clear G eg2
  simp only [z0, z1]
  refine s_store rfl rfl 99 _ _ rfl g2 0 rfl (.agg (c99 f.pw f.pn f.toA f.key f.vn f.vw f.val)) rfl 99 _ kg2 (c99 f.pw f.pn f.toA f.key f.vn f.vw f.val) rfl (by kernel_rfl) (Nat.le_of_ble_eq_true rfl) (by kernel_rfl) (c99 f.pw f.pn f.toA f.key f.vn f.vw f.val) (by kernel_rfl) ?_
  intro w4 S
  replace kg1 := S.has (by omega) kg1
  replace GG := GG.store S bg2
  replace kg2 := S.new
  clear S
  refine wpList_nil ?_
  refine then_n ?_
  refine wp_seq ?_
  refine wp_region_lit ?_
  refine s_val 130 rfl rfl (.pointer (some ⟨g2, 0, none⟩)) (run_fld 99 _ 0 rfl _ _ rfl _ (by kernel_rfl)) ?_
  simp only [z0, z1]
  refine s_val 131 rfl rfl (.agg (c25 f.pw f.pn)) (run_lda 25 _ rfl g2 0 17 rfl 99 _ kg2 _ Try.underlying25 rfl si25 (Nat.le_of_ble_eq_true rfl) _ (by kernel_rfl)) ?_
  simp only [z0, z1]
  refine s_val 132 rfl rfl (.pointer (some ⟨g2, 17, none⟩)) (run_fld 99 _ 1 rfl _ _ rfl _ (by kernel_rfl)) ?_
  simp only [z0, z1]
  refine s_val 133 rfl rfl (.bool f.toA) (run_ldc 4 _ rfl g2 17 rfl 99 _ kg2 (na4 _) _ rfl) ?_
  simp only [z0, z1]
  refine s_val 134 rfl rfl (.pointer (some ⟨g2, 18, none⟩)) (run_fld 99 _ 2 rfl _ _ rfl _ (by kernel_rfl)) ?_
  simp only [z0, z1]
  refine s_val 135 rfl rfl (.agg (c34 f.key f.vn f.vw f.val)) (run_lda 34 _ rfl g2 18 34 rfl 99 _ kg2 _ Try.underlying34 rfl si34 (Nat.le_of_ble_eq_true rfl) _ (by kernel_rfl)) ?_
  simp only [z0, z1]
  refine s_val 136 rfl rfl (.agg (c36 0 f.pw f.pn f.toA zF zF 0 0 0 0 0 Sl.nil Sl.nil f.key f.vn f.vw f.val 0 0 Sl.nil)) (run_bd 36 _ rfl [(1, .agg (c25 f.pw f.pn)), (2, .bool f.toA), (10, .agg (c34 f.key f.vn f.vw f.val))] rfl _ (by kernel_rfl)) ?_
  simp only [z0, z1]
  refine s_store rfl rfl 36 _ _ rfl g1 0 rfl (.agg (c36 0 f.pw f.pn f.toA zF zF 0 0 0 0 0 Sl.nil Sl.nil f.key f.vn f.vw f.val 0 0 Sl.nil)) rfl 36 _ kg1 (c36 0 f.pw f.pn f.toA zF zF 0 0 0 0 0 Sl.nil Sl.nil f.key f.vn f.vw f.val 0 0 Sl.nil) rfl (by kernel_rfl) (Nat.le_of_ble_eq_true rfl) (by kernel_rfl) (c36 0 f.pw f.pn f.toA zF zF 0 0 0 0 0 Sl.nil Sl.nil f.key f.vn f.vw f.val 0 0 Sl.nil) (by kernel_rfl) ?_
  intro w6 S
  replace kg2 := S.has (by omega) kg2
  replace GG := GG.store S bg1
  replace kg1 := S.new
  clear S
  refine s_val 3 rfl rfl (.bool true) (rfl) ?_
  simp only [z0, z1]
  refine wpList_nil ?_
  refine then_n ?_
  refine wp_ret ?_
  refine blk_r ?_
  refine then_r ?_
  refine bodyPost_ret (results_cell_tmp Try.results36 _ _ g1 36 _ (0, 0) _ rfl (.bool true) rfl kg1 Try.underlying36 rfl (by kernel_rfl)) rfl ?_
  exact ⟨rfl, GG⟩
set_option maxRecDepth 100000 in
set_option maxHeartbeats 4000000 in
theorem fields_12 (f : Fr) (w : World) : Calls Try.prog 36 #[.iface 101 (.agg (c101 f.pw f.pn f.toA f.key f.vn f.vw))] w fun e w' => e = .returned (.tuple #[.agg (c36 0 f.pw f.pn f.toA zF zF 0 0 0 0 0 Sl.nil Sl.nil f.key f.vn f.vw Sl.nil 0 0 Sl.nil), .bool true]) ∧ Gro w w' := by
  refine s_enter Try.func36 rfl Try.ntmps36 [.iface 101 (.agg (c101 f.pw f.pn f.toA f.key f.vn f.vw))] [.iface 101 (.agg (c101 f.pw f.pn f.toA f.key f.vn f.vw)), undef, undef, undef, undef, undef, undef, undef, undef, undef, undef, undef, undef, undef, undef, undef, undef, undef, undef, undef, undef, undef, undef, undef, undef, undef, undef, undef, undef, undef, undef, undef, undef, undef, undef, undef, undef, undef, undef, undef, undef, undef, undef, undef, undef, undef, undef, undef, undef, undef, undef, undef, undef, undef, undef, undef, undef, undef, undef, undef, undef, undef, undef, undef, undef, undef, undef, undef, undef, undef, undef, undef, undef, undef, undef, undef, undef, undef, undef, undef, undef, undef, undef, undef, undef, undef, undef, undef, undef, undef, undef, undef, undef, undef, undef, undef, undef, undef, undef, undef, undef, undef, undef, undef, undef, undef, undef, undef, undef, undef, undef, undef, undef, undef, undef, undef, undef, undef, undef, undef, undef, undef, undef, undef, undef, undef, undef, undef, undef, undef, undef, undef, undef, undef, undef, undef, undef, undef, undef, undef, undef, undef, undef, undef, undef, undef, undef, undef, undef, undef, undef] rfl ?_
  have GG := Gro.refl w
  refine wp_seq ?_
  refine wp_region_lit ?_
  refine s_alloc 2 rfl rfl 36 rfl _ zv36 _ rfl ?_
  intro w1 g1 G eg1 kg1
  have bg1 := size_base GG eg1
  replace GG := GG.trans G
  clear G eg1
  simp only [z0, z1]
  refine s_val 3 rfl rfl (.bool false) (rfl) ?_
  simp only [z0, z1]
  refine wpList_nil ?_
  refine then_n ?_
  refine wp_seq ?_
  refine wp_seq ?_
  refine wp_region_lit ?_
  refine s_val 16 rfl rfl (.iface 101 (.agg (c101 f.pw f.pn f.toA f.key f.vn f.vw))) (rfl) ?_
  simp only [z0, z1]
  refine wpList_nil ?_
  refine then_n ?_
  refine wp_block ?_
  refine wp_seq ?_
  refine wp_region_lit ?_
  refine s_val 17 rfl rfl (.tuple #[.agg (c79 0 0 0 0 zF), .bool false]) (run_ta _ 48 79 true rfl _ _ rfl (by kernel_rfl)) ?_
  simp only [z0, z1]
  refine s_val 18 rfl rfl (.bool false) (rfl) ?_
  simp only [z0, z1]
  refine s_val 19 rfl rfl (.agg (c79 0 0 0 0 zF)) (rfl) ?_
  simp only [z0, z1]
  refine wpList_nil ?_
  refine then_n ?_
  refine wp_cond_false rfl ?_
  refine wp_seq ?_
  refine wp_region_lit ?_
  refine s_val 27 rfl rfl (.tuple #[.agg (c81 0 0 0 0 0 Sl.nil), .bool false]) (run_ta _ 48 81 true rfl _ _ rfl (by kernel_rfl)) ?_
  simp only [z0, z1]
  refine s_val 28 rfl rfl (.bool false) (rfl) ?_
  simp only [z0, z1]
  refine s_val 29 rfl rfl (.agg (c81 0 0 0 0 0 Sl.nil)) (rfl) ?_
  simp only [z0, z1]
  refine wpList_nil ?_
  refine then_n ?_
  refine wp_cond_false rfl ?_
  refine wp_seq ?_
  refine wp_region_lit ?_
  refine s_val 39 rfl rfl (.tuple #[.agg (c83 0 0 0 0 0), .bool false]) (run_ta _ 48 83 true rfl _ _ rfl (by kernel_rfl)) ?_
  simp only [z0, z1]
  refine s_val 40 rfl rfl (.bool false) (rfl) ?_
  simp only [z0, z1]
  refine s_val 41 rfl rfl (.agg (c83 0 0 0 0 0)) (rfl) ?_
  simp only [z0, z1]
  refine wpList_nil ?_
  refine then_n ?_
  refine wp_cond_false rfl ?_
  refine wp_seq ?_
  refine wp_region_lit ?_
  refine s_val 49 rfl rfl (.tuple #[.agg (c85 zF 0 zF zF Sl.nil), .bool false]) (run_ta _ 48 85 true rfl _ _ rfl (by kernel_rfl)) ?_
  simp only [z0, z1]
  refine s_val 50 rfl rfl (.bool false) (rfl) ?_
  simp only [z0, z1]
  refine s_val 51 rfl rfl (.agg (c85 zF 0 zF zF Sl.nil)) (rfl) ?_
  simp only [z0, z1]
  refine wpList_nil ?_
  refine then_n ?_
  refine wp_cond_false rfl ?_
  refine wp_seq ?_
  refine wp_region_lit ?_
  refine s_val 61 rfl rfl (.tuple #[.agg (c87 zF 0), .bool false]) (run_ta _ 48 87 true rfl _ _ rfl (by kernel_rfl)) ?_
  simp only [z0, z1]
  refine s_val 62 rfl rfl (.bool false) (rfl) ?_
  simp only [z0, z1]
  refine s_val 63 rfl rfl (.agg (c87 zF 0)) (rfl) ?_
  simp only [z0, z1]
  refine wpList_nil ?_
  refine then_n ?_
  refine wp_cond_false rfl ?_
  refine wp_seq ?_
  refine wp_region_lit ?_
  refine s_val 67 rfl rfl (.tuple #[.agg (c89 zF 0 false), .bool false]) (run_ta _ 48 89 true rfl _ _ rfl (by kernel_rfl)) ?_
  simp only [z0, z1]
  refine s_val 68 rfl rfl (.bool false) (rfl) ?_
  simp only [z0, z1]
  refine s_val 69 rfl rfl (.agg (c89 zF 0 false)) (rfl) ?_
  simp only [z0, z1]
  refine wpList_nil ?_
  refine then_n ?_
  refine wp_cond_false rfl ?_
  refine wp_seq ?_
  refine wp_region_lit ?_
  refine s_val 75 rfl rfl (.tuple #[.agg (c91 zF 0 false Sl.nil), .bool false]) (run_ta _ 48 91 true rfl _ _ rfl (by kernel_rfl)) ?_
  simp only [z0, z1]
  refine s_val 76 rfl rfl (.bool false) (rfl) ?_
  simp only [z0, z1]
  refine s_val 77 rfl rfl (.agg (c91 zF 0 false Sl.nil)) (rfl) ?_
  simp only [z0, z1]
  refine wpList_nil ?_
  refine then_n ?_
  refine wp_cond_false rfl ?_
  refine wp_seq ?_
  refine wp_region_lit ?_
  refine s_val 85 rfl rfl (.tuple #[.agg (c93 zF zF 0 zF 0 false Sl.nil), .bool false]) (run_ta _ 48 93 true rfl _ _ rfl (by kernel_rfl)) ?_
  simp only [z0, z1]
  refine s_val 86 rfl rfl (.bool false) (rfl) ?_
  simp only [z0, z1]
  refine s_val 87 rfl rfl (.agg (c93 zF zF 0 zF 0 false Sl.nil)) (rfl) ?_
  simp only [z0, z1]
  refine wpList_nil ?_
  refine then_n ?_
  refine wp_cond_false rfl ?_
  refine wp_seq ?_
  refine wp_region_lit ?_
  refine s_val 101 rfl rfl (.tuple #[.agg (c95 zF 0), .bool false]) (run_ta _ 48 95 true rfl _ _ rfl (by kernel_rfl)) ?_
  simp only [z0, z1]
  refine s_val 102 rfl rfl (.bool false) (rfl) ?_
  simp only [z0, z1]
  refine s_val 103 rfl rfl (.agg (c95 zF 0)) (rfl) ?_
  simp only [z0, z1]
  refine wpList_nil ?_
  refine then_n ?_
  refine wp_cond_false rfl ?_
  refine wp_seq ?_
  refine wp_region_lit ?_
  refine s_val 109 rfl rfl (.tuple #[.agg (c97 zF zF 0 0 0 zF 0 zF Sl.nil Sl.nil), .bool false]) (run_ta _ 48 97 true rfl _ _ rfl (by kernel_rfl)) ?_
  simp only [z0, z1]
  refine s_val 110 rfl rfl (.bool false) (rfl) ?_
  simp only [z0, z1]
  refine s_val 111 rfl rfl (.agg (c97 zF zF 0 0 0 zF 0 zF Sl.nil Sl.nil)) (rfl) ?_
  simp only [z0, z1]
  refine wpList_nil ?_
  refine then_n ?_
  refine wp_cond_false rfl ?_
  refine wp_seq ?_
  refine wp_region_lit ?_
  refine s_val 127 rfl rfl (.tuple #[.agg (c99 zF 0 false zF 0 zF Sl.nil), .bool false]) (run_ta _ 48 99 true rfl _ _ rfl (by kernel_rfl)) ?_
  simp only [z0, z1]
  refine s_val 128 rfl rfl (.bool false) (rfl) ?_
  simp only [z0, z1]
  refine s_val 129 rfl rfl (.agg (c99 zF 0 false zF 0 zF Sl.nil)) (rfl) ?_
  simp only [z0, z1]
  refine wpList_nil ?_
  refine then_n ?_
  refine wp_cond_false rfl ?_
  refine wp_seq ?_
  refine wp_region_lit ?_
  refine s_val 137 rfl rfl (.tuple #[.agg (c101 f.pw f.pn f.toA f.key f.vn f.vw), .bool true]) (run_ta _ 48 101 true rfl _ _ rfl (by kernel_rfl)) ?_
  simp only [z0, z1]
  refine s_val 138 rfl rfl (.bool true) (rfl) ?_
  simp only [z0, z1]
  refine s_val 139 rfl rfl (.agg (c101 f.pw f.pn f.toA f.key f.vn f.vw)) (rfl) ?_
  simp only [z0, z1]
  refine wpList_nil ?_
  refine then_n ?_
  refine wp_cond_true rfl ?_
  refine wp_seq ?_
  refine wp_region_lit ?_
  refine s_alloc 15 rfl rfl 101 rfl _ zv101 _ rfl ?_
  intro w2 g2 G eg2 kg2
  have bg2 := size_base GG eg2
  have dg1g2 := lt_new kg1 eg2
  replace kg1 := G.has kg1
  replace GG := GG.trans G
  clear G eg2
  simp only [z0, z1]
  refine s_store rfl rfl 101 _ _ rfl g2 0 rfl (.agg (c101 f.pw f.pn f.toA f.key f.vn f.vw)) rfl 101 _ kg2 (c101 f.pw f.pn f.toA f.key f.vn f.vw) rfl (by kernel_rfl) (Nat.le_of_ble_eq_true rfl) (by kernel_rfl) (c101 f.pw f.pn f.toA f.key f.vn f.vw) (by kernel_rfl) ?_
  intro w4 S
  replace kg1 := S.has (by omega) kg1
  replace GG := GG.store S bg2
  replace kg2 := S.new
  clear S
  refine wpList_nil ?_
  refine then_n ?_
  refine wp_seq ?_
  refine wp_region_lit ?_
  refine s_val 140 rfl rfl (.pointer (some ⟨g2, 0, none⟩)) (run_fld 101 _ 0 rfl _ _ rfl _ (by kernel_rfl)) ?_
  simp only [z0, z1]
  refine s_val 141 rfl rfl (.agg (c25 f.pw f.pn)) (run_lda 25 _ rfl g2 0 17 rfl 101 _ kg2 _ Try.underlying25 rfl si25 (Nat.le_of_ble_eq_true rfl) _ (by kernel_rfl)) ?_
  simp only [z0, z1]
  refine s_val 142 rfl rfl (.pointer (some ⟨g2, 17, none⟩)) (run_fld 101 _ 1 rfl _ _ rfl _ (by kernel_rfl)) ?_
  simp only [z0, z1]
  refine s_val 143 rfl rfl (.bool f.toA) (run_ldc 4 _ rfl g2 17 rfl 101 _ kg2 (na4 _) _ rfl) ?_
  simp only [z0, z1]
  refine s_val 144 rfl rfl (.pointer (some ⟨g2, 18, none⟩)) (run_fld 101 _ 2 rfl _ _ rfl _ (by kernel_rfl)) ?_
  simp only [z0, z1]
  refine s_val 145 rfl rfl (.agg (c23 f.key)) (run_lda 23 _ rfl g2 18 16 rfl 101 _ kg2 _ Try.underlying23 rfl si23 (Nat.le_of_ble_eq_true rfl) _ (by kernel_rfl)) ?_
  simp only [z0, z1]
  refine s_val 146 rfl rfl (.pointer (some ⟨g2, 34, none⟩)) (run_fld 101 _ 3 rfl _ _ rfl _ (by kernel_rfl)) ?_
  simp only [z0, z1]
  refine s_val 147 rfl rfl (.agg (c31 f.vn f.vw)) (run_lda 31 _ rfl g2 34 17 rfl 101 _ kg2 _ Try.underlying31 rfl si31 (Nat.le_of_ble_eq_true rfl) _ (by kernel_rfl)) ?_
  simp only [z0, z1]
  refine s_val 148 rfl rfl (.agg (c34 f.key f.vn f.vw Sl.nil)) (run_bd 34 _ rfl [(0, .agg (c23 f.key)), (1, .agg (c31 f.vn f.vw))] rfl _ (by kernel_rfl)) ?_
  simp only [z0, z1]
  refine s_val 149 rfl rfl (.agg (c36 0 f.pw f.pn f.toA zF zF 0 0 0 0 0 Sl.nil Sl.nil f.key f.vn f.vw Sl.nil 0 0 Sl.nil)) (run_bd 36 _ rfl [(1, .agg (c25 f.pw f.pn)), (2, .bool f.toA), (10, .agg (c34 f.key f.vn f.vw Sl.nil))] rfl _ (by kernel_rfl)) ?_
  simp only [z0, z1]
  refine s_store rfl rfl 36 _ _ rfl g1 0 rfl (.agg (c36 0 f.pw f.pn f.toA zF zF 0 0 0 0 0 Sl.nil Sl.nil f.key f.vn f.vw Sl.nil 0 0 Sl.nil)) rfl 36 _ kg1 (c36 0 f.pw f.pn f.toA zF zF 0 0 0 0 0 Sl.nil Sl.nil f.key f.vn f.vw Sl.nil 0 0 Sl.nil) rfl (by kernel_rfl) (Nat.le_of_ble_eq_true rfl) (by kernel_rfl) (c36 0 f.pw f.pn f.toA zF zF 0 0 0 0 0 Sl.nil Sl.nil f.key f.vn f.vw Sl.nil 0 0 Sl.nil) (by kernel_rfl) ?_
  intro w6 S
  replace kg2 := S.has (by omega) kg2
  replace GG := GG.store S bg1
  replace kg1 := S.new
  clear S
  refine s_val 3 rfl rfl (.bool true) (rfl) ?_
  simp only [z0, z1]
  refine wpList_nil ?_
  refine then_n ?_
  refine wp_ret ?_
  refine blk_r ?_
  refine then_r ?_
  refine bodyPost_ret (results_cell_tmp Try.results36 _ _ g1 36 _ (0, 0) _ rfl (.bool true) rfl kg1 Try.underlying36 rfl (by kernel_rfl)) rfl ?_
  exact ⟨rfl, GG⟩
set_option maxRecDepth 100000 in
set_option maxHeartbeats 4000000 in
theorem fields_nil (w : World) : Calls Try.prog 36 #[.nilIface] w fun e w' => e = .returned (.tuple #[.agg (c36 0 zF 0 false zF zF 0 0 0 0 0 Sl.nil Sl.nil zF 0 zF Sl.nil 0 0 Sl.nil), .bool false]) ∧ Gro w w' := by
  refine s_enter Try.func36 rfl Try.ntmps36 [.nilIface] [.nilIface, undef, undef, undef, undef, undef, undef, undef, undef, undef, undef, undef, undef, undef, undef, undef, undef, undef, undef, undef, undef, undef, undef, undef, undef, undef, undef, undef, undef, undef, undef, undef, undef, undef, undef, undef, undef, undef, undef, undef, undef, undef, undef, undef, undef, undef, undef, undef, undef, undef, undef, undef, undef, undef, undef, undef, undef, undef, undef, undef, undef, undef, undef, undef, undef, undef, undef, undef, undef, undef, undef, undef, undef, undef, undef, undef, undef, undef, undef, undef, undef, undef, undef, undef, undef, undef, undef, undef, undef, undef, undef, undef, undef, undef, undef, undef, undef, undef, undef, undef, undef, undef, undef, undef, undef, undef, undef, undef, undef, undef, undef, undef, undef, undef, undef, undef, undef, undef, undef, undef, undef, undef, undef, undef, undef, undef, undef, undef, undef, undef, undef, undef, undef, undef, undef, undef, undef, undef, undef, undef, undef, undef, undef, undef, undef, undef, undef, undef, undef, undef, undef] rfl ?_
  have GG := Gro.refl w
  refine wp_seq ?_
  refine wp_region_lit ?_
  refine s_alloc 2 rfl rfl 36 rfl _ zv36 _ rfl ?_
  intro w1 g1 G eg1 kg1
  have bg1 := size_base GG eg1
  replace GG := GG.trans G
  clear G eg1
  simp only [z0, z1]
  refine s_val 3 rfl rfl (.bool false) (rfl) ?_
  simp only [z0, z1]
  refine wpList_nil ?_
  refine then_n ?_
  refine wp_seq ?_
  refine wp_seq ?_
  refine wp_region_lit ?_
  refine s_val 16 rfl rfl (.nilIface) (rfl) ?_
  simp only [z0, z1]
  refine wpList_nil ?_
  refine then_n ?_
  refine wp_block ?_
  refine wp_seq ?_
  refine wp_region_lit ?_
  refine s_val 17 rfl rfl (.tuple #[.agg (c79 0 0 0 0 zF), .bool false]) (run_ta _ 48 79 true rfl _ _ rfl (by kernel_rfl)) ?_
  simp only [z0, z1]
  refine s_val 18 rfl rfl (.bool false) (rfl) ?_
  simp only [z0, z1]
  refine s_val 19 rfl rfl (.agg (c79 0 0 0 0 zF)) (rfl) ?_
  simp only [z0, z1]
  refine wpList_nil ?_
  refine then_n ?_
  refine wp_cond_false rfl ?_
  refine wp_seq ?_
  refine wp_region_lit ?_
  refine s_val 27 rfl rfl (.tuple #[.agg (c81 0 0 0 0 0 Sl.nil), .bool false]) (run_ta _ 48 81 true rfl _ _ rfl (by kernel_rfl)) ?_
  simp only [z0, z1]
  refine s_val 28 rfl rfl (.bool false) (rfl) ?_
  simp only [z0, z1]
  refine s_val 29 rfl rfl (.agg (c81 0 0 0 0 0 Sl.nil)) (rfl) ?_
  simp only [z0, z1]
  refine wpList_nil ?_
  refine then_n ?_
  refine wp_cond_false rfl ?_
  refine wp_seq ?_
  refine wp_region_lit ?_
  refine s_val 39 rfl rfl (.tuple #[.agg (c83 0 0 0 0 0), .bool false]) (run_ta _ 48 83 true rfl _ _ rfl (by kernel_rfl)) ?_
  simp only [z0, z1]
  refine s_val 40 rfl rfl (.bool false) (rfl) ?_
  simp only [z0, z1]
  refine s_val 41 rfl rfl (.agg (c83 0 0 0 0 0)) (rfl) ?_
  simp only [z0, z1]
  refine wpList_nil ?_
  refine then_n ?_
  refine wp_cond_false rfl ?_
  refine wp_seq ?_
  refine wp_region_lit ?_
  refine s_val 49 rfl rfl (.tuple #[.agg (c85 zF 0 zF zF Sl.nil), .bool false]) (run_ta _ 48 85 true rfl _ _ rfl (by kernel_rfl)) ?_
  simp only [z0, z1]
  refine s_val 50 rfl rfl (.bool false) (rfl) ?_
  simp only [z0, z1]
  refine s_val 51 rfl rfl (.agg (c85 zF 0 zF zF Sl.nil)) (rfl) ?_
  simp only [z0, z1]
  refine wpList_nil ?_
  refine then_n ?_
  refine wp_cond_false rfl ?_
  refine wp_seq ?_
  refine wp_region_lit ?_
  refine s_val 61 rfl rfl (.tuple #[.agg (c87 zF 0), .bool false]) (run_ta _ 48 87 true rfl _ _ rfl (by kernel_rfl)) ?_
  simp only [z0, z1]
  refine s_val 62 rfl rfl (.bool false) (rfl) ?_
  simp only [z0, z1]
  refine s_val 63 rfl rfl (.agg (c87 zF 0)) (rfl) ?_
  simp only [z0, z1]
  refine wpList_nil ?_
  refine then_n ?_
  refine wp_cond_false rfl ?_
  refine wp_seq ?_
  refine wp_region_lit ?_
  refine s_val 67 rfl rfl (.tuple #[.agg (c89 zF 0 false), .bool false]) (run_ta _ 48 89 true rfl _ _ rfl (by kernel_rfl)) ?_
  simp only [z0, z1]
  refine s_val 68 rfl rfl (.bool false) (rfl) ?_
  simp only [z0, z1]
  refine s_val 69 rfl rfl (.agg (c89 zF 0 false)) (rfl) ?_
  simp only [z0, z1]
  refine wpList_nil ?_
  refine then_n ?_
  refine wp_cond_false rfl ?_
  refine wp_seq ?_
  refine wp_region_lit ?_
  refine s_val 75 rfl rfl (.tuple #[.agg (c91 zF 0 false Sl.nil), .bool false]) (run_ta _ 48 91 true rfl _ _ rfl (by kernel_rfl)) ?_
  simp only [z0, z1]
  refine s_val 76 rfl rfl (.bool false) (rfl) ?_
  simp only [z0, z1]
  refine s_val 77 rfl rfl (.agg (c91 zF 0 false Sl.nil)) (rfl) ?_
  simp only [z0, z1]
  refine wpList_nil ?_
  refine then_n ?_
  refine wp_cond_false rfl ?_
  refine wp_seq ?_
  refine wp_region_lit ?_
  refine s_val 85 rfl rfl (.tuple #[.agg (c93 zF zF 0 zF 0 false Sl.nil), .bool false]) (run_ta _ 48 93 true rfl _ _ rfl (by kernel_rfl)) ?_
  simp only [z0, z1]
  refine s_val 86 rfl rfl (.bool false) (rfl) ?_
  simp only [z0, z1]
  refine s_val 87 rfl rfl (.agg (c93 zF zF 0 zF 0 false Sl.nil)) (rfl) ?_
  simp only [z0, z1]
  refine wpList_nil ?_
  refine then_n ?_
  refine wp_cond_false rfl ?_
  refine wp_seq ?_
  refine wp_region_lit ?_
  refine s_val 101 rfl rfl (.tuple #[.agg (c95 zF 0), .bool false]) (run_ta _ 48 95 true rfl _ _ rfl (by kernel_rfl)) ?_
  simp only [z0, z1]
  refine s_val 102 rfl rfl (.bool false) (rfl) ?_
  simp only [z0, z1]
  refine s_val 103 rfl rfl (.agg (c95 zF 0)) (rfl) ?_
  simp only [z0, z1]
  refine wpList_nil ?_
  refine then_n ?_
  refine wp_cond_false rfl ?_
  refine wp_seq ?_
  refine wp_region_lit ?_
  refine s_val 109 rfl rfl (.tuple #[.agg (c97 zF zF 0 0 0 zF 0 zF Sl.nil Sl.nil), .bool false]) (run_ta _ 48 97 true rfl _ _ rfl (by kernel_rfl)) ?_
  simp only [z0, z1]
  refine s_val 110 rfl rfl (.bool false) (rfl) ?_
  simp only [z0, z1]
  refine s_val 111 rfl rfl (.agg (c97 zF zF 0 0 0 zF 0 zF Sl.nil Sl.nil)) (rfl) ?_
  simp only [z0, z1]
  refine wpList_nil ?_
  refine then_n ?_
  refine wp_cond_false rfl ?_
  refine wp_seq ?_
  refine wp_region_lit ?_
  refine s_val 127 rfl rfl (.tuple #[.agg (c99 zF 0 false zF 0 zF Sl.nil), .bool false]) (run_ta _ 48 99 true rfl _ _ rfl (by kernel_rfl)) ?_
  simp only [z0, z1]
  refine s_val 128 rfl rfl (.bool false) (rfl) ?_
  simp only [z0, z1]
  refine s_val 129 rfl rfl (.agg (c99 zF 0 false zF 0 zF Sl.nil)) (rfl) ?_
  simp only [z0, z1]
  refine wpList_nil ?_
  refine then_n ?_
  refine wp_cond_false rfl ?_
  refine wp_seq ?_
  refine wp_region_lit ?_
  refine s_val 137 rfl rfl (.tuple #[.agg (c101 zF 0 false zF 0 zF), .bool false]) (run_ta _ 48 101 true rfl _ _ rfl (by kernel_rfl)) ?_
  simp only [z0, z1]
  refine s_val 138 rfl rfl (.bool false) (rfl) ?_
  simp only [z0, z1]
  refine s_val 139 rfl rfl (.agg (c101 zF 0 false zF 0 zF)) (rfl) ?_
  simp only [z0, z1]
  refine wpList_nil ?_
  refine then_n ?_
  refine wp_cond_false rfl ?_
  refine wp_skip ?_
  refine blk_n ?_
  refine then_n ?_
  refine wp_seq ?_
  refine wp_region_lit ?_
  refine s_val 150 rfl rfl (.agg (c36 0 zF 0 false zF zF 0 0 0 0 0 Sl.nil Sl.nil zF 0 zF Sl.nil 0 0 Sl.nil)) (run_bd 36 _ rfl [] rfl _ (by kernel_rfl)) ?_
  simp only [z0, z1]
  refine s_store rfl rfl 36 _ _ rfl g1 0 rfl (.agg (c36 0 zF 0 false zF zF 0 0 0 0 0 Sl.nil Sl.nil zF 0 zF Sl.nil 0 0 Sl.nil)) rfl 36 _ kg1 (c36 0 zF 0 false zF zF 0 0 0 0 0 Sl.nil Sl.nil zF 0 zF Sl.nil 0 0 Sl.nil) rfl (by kernel_rfl) (Nat.le_of_ble_eq_true rfl) (by kernel_rfl) (c36 0 zF 0 false zF zF 0 0 0 0 0 Sl.nil Sl.nil zF 0 zF Sl.nil 0 0 Sl.nil) (by kernel_rfl) ?_
  intro w3 S
  replace GG := GG.store S bg1
  replace kg1 := S.new
  clear S
  refine s_val 3 rfl rfl (.bool false) (rfl) ?_
  simp only [z0, z1]
  refine wpList_nil ?_
  refine then_n ?_
  refine wp_ret ?_
  refine bodyPost_ret (results_cell_tmp Try.results36 _ _ g1 36 _ (0, 0) _ rfl (.bool false) rfl kg1 Try.underlying36 rfl (by kernel_rfl)) rfl ?_
  exact ⟨rfl, GG⟩
theorem fields_any (k : Nat) (h1 : 1 ≤ k) (h2 : k ≤ 12) (f : Fr) (w : World) : Calls Try.prog 36 #[bodyV k f] w fun e w' => e = .returned (.tuple #[.agg (frA (bare k f)), .bool true]) ∧ Gro w w' := by
  rcases is12 h1 h2 with rfl | rfl | rfl | rfl | rfl | rfl | rfl | rfl | rfl | rfl | rfl | rfl
  · exact fields_1 f w
  · exact fields_2 f w
  · exact fields_3 f w
  · exact fields_4 f w
  · exact fields_5 f w
  · exact fields_6 f w
  · exact fields_7 f w
  · exact fields_8 f w
  · exact fields_9 f w
  · exact fields_10 f w
  · exact fields_11 f w
  · exact fields_12 f w
end Go.Proofs.Ythmcnlmphikicaa
