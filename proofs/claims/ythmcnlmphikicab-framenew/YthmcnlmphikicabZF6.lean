/- The bytes of a body (frame.bytesOf), kind by kind. -/
import Derived.Test.YthmcnlmphikicabZF5
namespace Go.Proofs.Ythmcnlmphikicab
open Go.RowKit
structure FD where
  tr : List Int
  ids : List (List Nat)
  val : List Nat
  tx : List Nat
set_option maxRecDepth 100000 in
set_option maxHeartbeats 4000000 in
theorem bytesOf_1 (B : Nat) (f : Fr) (_d : FD) (w : World) (hB : B ≤ w.heap.size) (hfi : okN f.fi) (hfn : okN f.fn) (hti : okN f.ti) (htn : okN f.tn) (ha : okI f.a) : Calls Try.prog 24 #[.iface 67 (.agg (c79 f.fi f.fn f.ti f.tn f.a))] w (RetE (rowE B (List.flatten [(sessL f.fi f.fn), (sessL f.ti f.tn), (idL f.a)])) w) := by
  refine s_enterR Try.func24 rfl Try.ntmps24 [.iface 67 (.agg (c79 f.fi f.fn f.ti f.tn f.a))] ?_
  intro U h; simp only [List.length_cons, List.length_nil, List.cons_append, List.nil_append, Nat.reduceAdd, Nat.reduceSub, List.reduceReplicate] at h; subst h
  have GG := Gro.refl w
  refine wp_seq (wp_region_lit (mv 2 (.slice none 0 0) (wpList_nil (then_n (wp_seq (wp_seq (wp_region_lit (mv 15 (.iface 67 (.agg (c79 f.fi f.fn f.ti f.tn f.a))) (wpList_nil (then_n (wp_block (wp_seq (wp_region_lit (sv 16 (.tuple #[.agg (c79 f.fi f.fn f.ti f.tn f.a), .bool true]) (run_ta _ 23 67 true rfl _ _ rfl) ?_))))))))))))))
  simp only [z0, z1]
  refine mv 17 (.bool true) (mv 18 (.agg (c79 f.fi f.fn f.ti f.tn f.a)) (wpList_nil (then_n (wp_cond_true rfl (wp_seq (wp_region_lit ?_))))))
  refine s_alloc 3 rfl rfl 67 rfl _ zv79 _ rfl ?_
  intro w1 g1 G eg1 kg1
  have bg1 := size_base GG eg1
  replace GG := GG.trans G
  clear G eg1
  simp only [z0, z1]
  refine s_store rfl rfl 67 _ _ rfl g1 0 rfl (.agg (c79 f.fi f.fn f.ti f.tn f.a)) rfl 67 _ kg1 (c79 f.fi f.fn f.ti f.tn f.a) rfl (by kernel_rfl) (Nat.le_of_ble_eq_true rfl) (by kernel_rfl) (c79 f.fi f.fn f.ti f.tn f.a) (by kernel_rfl) ?_
  intro w3 S
  replace GG := GG.store S bg1
  replace kg1 := S.new
  clear S
  refine wpList_nil (then_n (wp_seq ?_))
  refine wp_region_exA (A := ?A) 10 [(0, 19), (1, 20), (2, 21), (3, 22), (4, 23), (5, 24), (6, 25), (7, 26), (8, 27), (9, 28)] [.val (.pointer (some ⟨g1, 0, none⟩)), .val (.agg (c27 f.fi f.fn)), (rowE B (sessL f.fi f.fn)), .val (.pointer (some ⟨g1, 2, none⟩)), .val (.agg (c27 f.ti f.tn)), (rowE B (sessL f.ti f.tn)), .val (.pointer (some ⟨g1, 4, none⟩)), .val (.slice (some ⟨g1, 4, none⟩) 16 16), (textsE [(sessL f.fi f.fn), (sessL f.ti f.tn), (idL f.a)]), (rowE B ((List.flatten [(sessL f.fi f.fn), (sessL f.ti f.tn), (idL f.a)])))] follows (by kernel_rfl) rfl ?hA (opsA_cons ?o0 (opsA_cons ?o1 (opsA_cons ?o2 (opsA_cons ?o3 (opsA_cons ?o4 (opsA_cons ?o5 (opsA_cons ?o6 (opsA_cons ?o7 (opsA_cons ?o8 (opsA_cons ?o9 opsA_nil)))))))))) ?rest
  case hA =>
    intro ptrs
    simp only [full, foldSlots, filledE, postE, List.foldl_cons, List.foldl_nil, List.getD_cons_zero, List.getD_cons_succ, fill_val, fill_row, fill_texts, List.set_cons_zero, List.set_cons_succ]
    exact rfl
  case o0 => exact fun _ _ hw _ => opE_value (v := .pointer (some ⟨g1, 0, none⟩)) rfl (run_fld 67 _ 0 rfl _ _ rfl _)
  case o1 => exact fun _ _ hw _ => opE_value (v := .agg (c27 f.fi f.fn)) rfl (run_lda 31 _ rfl g1 0 2 rfl 67 _ (hw.has kg1) _ Try.underlying31 rfl si27 _)
  case o2 =>
    intro ptrs w' hw hE
    exact opE_call (rowE B (sessL f.fi f.fn)) rfl _ 36 Try.call36 rfl rfl _ rfl [.agg (c27 f.fi f.fn)] rfl (session_E B f.fi f.fn _ (Nat.le_trans hB (GG.drew.trans hw).size) hfi hfn)
  case o3 => exact fun _ _ hw _ => opE_value (v := .pointer (some ⟨g1, 2, none⟩)) rfl (run_fld 67 _ 1 rfl _ _ rfl _)
  case o4 => exact fun _ _ hw _ => opE_value (v := .agg (c27 f.ti f.tn)) rfl (run_lda 31 _ rfl g1 2 2 rfl 67 _ (hw.has kg1) _ Try.underlying31 rfl si27 _)
  case o5 =>
    intro ptrs w' hw hE
    obtain ⟨⟨ao2, cap2, h2, o2⟩, _⟩ := hE
    exact opE_call (rowE B (sessL f.ti f.tn)) rfl _ 36 Try.call36 rfl rfl _ rfl [.agg (c27 f.ti f.tn)] rfl (session_E B f.ti f.tn _ (Nat.le_trans hB (GG.drew.trans hw).size) hti htn)
  case o6 => exact fun _ _ hw _ => opE_value (v := .pointer (some ⟨g1, 4, none⟩)) rfl (run_fld 67 _ 2 rfl _ _ rfl _)
  case o7 => exact fun _ _ hw _ => opE_value (v := .slice (some ⟨g1, 4, none⟩) 16 16) rfl (run_arr_at _ rfl _ _ rfl _)
  case o8 =>
    intro ptrs w' hw hE
    obtain ⟨⟨ao2, cap2, h2, o2⟩, ⟨ao5, cap5, h5, o5⟩, _⟩ := hE
    exact opE_new (textsE [(sessL f.fi f.fn), (sessL f.ti f.tn), (idL f.a)]) rfl (run_bsl 100 3 _ rfl [(0, .slice ao2 (sessL f.fi f.fn).length cap2), (1, .slice ao5 (sessL f.ti f.tn).length cap5), (2, .slice (some ⟨g1, 4, none⟩) 16 16)] (by show [(0, ptrs 2), (1, ptrs 5), (2, .slice (some ⟨g1, 4, none⟩) 16 16)] = _; rw [h2, h5]) (by kernel_rfl)) (gro_alloc _ _) (texts_new [.slice ao2 (sessL f.fi f.fn).length cap2, .slice ao5 (sessL f.ti f.tn).length cap5, .slice (some ⟨g1, 4, none⟩) 16 16] [(sessL f.fi f.fn), (sessL f.ti f.tn), (idL f.a)] _ ⟨⟨_, _, rfl, o2.nc⟩, ⟨_, _, rfl, o5.nc⟩, ⟨_, _, rfl, (nc_id (hw.has kg1) f.a ha (by kernel_rfl))⟩, trivial⟩)
  case o9 =>
    intro ptrs w' hw hE
    obtain ⟨⟨ge8, h8, o8⟩, ⟨ao5, cap5, h5, o5⟩, _⟩ := hE
    exact (by have z0 := sessL_len f.fi f.fn; have z1 := sessL_len f.ti f.tn; have z2 := idL_len f.a; exact opE_call (rowE B ((List.flatten [(sessL f.fi f.fn), (sessL f.ti f.tn), (idL f.a)]))) rfl _ 22 Try.call22 rfl rfl _ rfl [.slice (some ⟨ge8, 0, none⟩) ([(sessL f.fi f.fn), (sessL f.ti f.tn), (idL f.a)]).length ([(sessL f.fi f.fn), (sessL f.ti f.tn), (idL f.a)]).length] (congrArg (fun v => [v]) h8) (concat_E B ge8 [(sessL f.fi f.fn), (sessL f.ti f.tn), (idL f.a)] _ (Nat.le_trans hB (GG.drew.trans hw).size) o8 (Nat.le_of_ble_eq_true rfl) (by simp only [List.flatten_cons, List.flatten_nil, List.length_append, List.length_nil]; omega)))
  intro ptrs w4 GD hx
  simp only [List.drop_succ_cons, List.drop_zero]
  replace kg1 := GD.has kg1
  replace GG := GG.drew.trans GD
  obtain ⟨_, _, _, ⟨ao9x, cap9x, h9, o9x⟩, _⟩ := hx
  simp only [h9]
  clear GD
  refine mv 2 (.slice ao9x ((List.flatten [(sessL f.fi f.fn), (sessL f.ti f.tn), (idL f.a)])).length cap9x) (wpList_nil (then_n (wp_ret (blk_r (then_r ?_)))))
  refine bodyPost_ret (results_tmp Try.results24 _ _ _) rfl ?_
  exact ⟨_, rfl, GG, _, _, rfl, o9x⟩
set_option maxRecDepth 100000 in
set_option maxHeartbeats 4000000 in
theorem bytesOf_2 (B : Nat) (f : Fr) (d : FD) (w : World) (hB : B ≤ w.heap.size) (hfi : okN f.fi) (hfn : okN f.fn) (hti : okN f.ti) (htn : okN f.tn) (hn : okN f.n) (txo : Option Addr) (txc : Nat) (Htx : NC w .u8 txo txc d.tx) (hltx : d.tx.length ≤ 5000) : Calls Try.prog 24 #[.iface 69 (.agg (c81 f.fi f.fn f.ti f.tn f.n ⟨txo, d.tx.length, txc⟩))] w (RetE (rowE B (List.flatten [(sessL f.fi f.fn), (sessL f.ti f.tn), (List.flatMap nI [f.n]), (putT [d.tx])])) w) := by
  refine s_enterR Try.func24 rfl Try.ntmps24 [.iface 69 (.agg (c81 f.fi f.fn f.ti f.tn f.n ⟨txo, d.tx.length, txc⟩))] ?_
  intro U h; simp only [List.length_cons, List.length_nil, List.cons_append, List.nil_append, Nat.reduceAdd, Nat.reduceSub, List.reduceReplicate] at h; subst h
  have GG := Gro.refl w
  refine wp_seq (wp_region_lit (mv 2 (.slice none 0 0) (wpList_nil (then_n (wp_seq (wp_seq (wp_region_lit (mv 15 (.iface 69 (.agg (c81 f.fi f.fn f.ti f.tn f.n ⟨txo, d.tx.length, txc⟩))) (wpList_nil (then_n (wp_block (wp_seq (wp_region_lit (sv 16 (.tuple #[.agg (c79 0 0 0 0 zF), .bool false]) (run_ta _ 23 67 true rfl _ _ rfl) ?_))))))))))))))
  simp only [z0, z1]
  refine mv 17 (.bool false) (mv 18 (.agg (c79 0 0 0 0 zF)) (wpList_nil (then_n (wp_cond_false rfl (wp_seq (wp_region_lit (sv 29 (.tuple #[.agg (c81 f.fi f.fn f.ti f.tn f.n ⟨txo, d.tx.length, txc⟩), .bool true]) (run_ta _ 23 69 true rfl _ _ rfl) ?_)))))))
  simp only [z0, z1]
  refine mv 30 (.bool true) (mv 31 (.agg (c81 f.fi f.fn f.ti f.tn f.n ⟨txo, d.tx.length, txc⟩)) (wpList_nil (then_n (wp_cond_true rfl (wp_seq (wp_region_lit ?_))))))
  refine s_alloc 4 rfl rfl 69 rfl _ zv81 _ rfl ?_
  intro w1 g1 G eg1 kg1
  have bg1 := size_base GG eg1
  replace GG := GG.trans G
  clear G eg1
  simp only [z0, z1]
  refine s_store rfl rfl 69 _ _ rfl g1 0 rfl (.agg (c81 f.fi f.fn f.ti f.tn f.n ⟨txo, d.tx.length, txc⟩)) rfl 69 _ kg1 (c81 f.fi f.fn f.ti f.tn f.n ⟨txo, d.tx.length, txc⟩) rfl (by kernel_rfl) (Nat.le_of_ble_eq_true rfl) (by kernel_rfl) (c81 f.fi f.fn f.ti f.tn f.n ⟨txo, d.tx.length, txc⟩) (by kernel_rfl) ?_
  intro w3 S
  replace GG := GG.store S bg1
  replace kg1 := S.new
  clear S
  refine wpList_nil (then_n (wp_seq ?_))
  refine wp_region_exA (A := ?A) 16 [(0, 32), (1, 33), (2, 34), (3, 35), (4, 36), (5, 37), (6, 38), (7, 39), (8, 40), (9, 41), (10, 42), (11, 43), (12, 44), (13, 45), (14, 46), (15, 47)] [.val (.pointer (some ⟨g1, 0, none⟩)), .val (.agg (c27 f.fi f.fn)), (rowE B (sessL f.fi f.fn)), .val (.pointer (some ⟨g1, 2, none⟩)), .val (.agg (c27 f.ti f.tn)), (rowE B (sessL f.ti f.tn)), .val (.pointer (some ⟨g1, 4, none⟩)), .val (.int .i64 f.n), (intsE [f.n]), (rowE B (List.flatMap nI [f.n])), .val (.pointer (some ⟨g1, 5, none⟩)), .val (.slice txo d.tx.length txc), (textsE [d.tx]), (rowE B (putT [d.tx])), (textsE [(sessL f.fi f.fn), (sessL f.ti f.tn), (List.flatMap nI [f.n]), (putT [d.tx])]), (rowE B ((List.flatten [(sessL f.fi f.fn), (sessL f.ti f.tn), (List.flatMap nI [f.n]), (putT [d.tx])])))] follows (by kernel_rfl) rfl ?hA (opsA_cons ?o0 (opsA_cons ?o1 (opsA_cons ?o2 (opsA_cons ?o3 (opsA_cons ?o4 (opsA_cons ?o5 (opsA_cons ?o6 (opsA_cons ?o7 (opsA_cons ?o8 (opsA_cons ?o9 (opsA_cons ?o10 (opsA_cons ?o11 (opsA_cons ?o12 (opsA_cons ?o13 (opsA_cons ?o14 (opsA_cons ?o15 opsA_nil)))))))))))))))) ?rest
  case hA =>
    intro ptrs
    simp only [full, foldSlots, filledE, postE, List.foldl_cons, List.foldl_nil, List.getD_cons_zero, List.getD_cons_succ, fill_val, fill_row, fill_ints, fill_texts, List.set_cons_zero, List.set_cons_succ]
    exact rfl
  case o0 => exact fun _ _ hw _ => opE_value (v := .pointer (some ⟨g1, 0, none⟩)) rfl (run_fld 69 _ 0 rfl _ _ rfl _)
  case o1 => exact fun _ _ hw _ => opE_value (v := .agg (c27 f.fi f.fn)) rfl (run_lda 31 _ rfl g1 0 2 rfl 69 _ (hw.has kg1) _ Try.underlying31 rfl si27 _)
  case o2 =>
    intro ptrs w' hw hE
    exact opE_call (rowE B (sessL f.fi f.fn)) rfl _ 36 Try.call36 rfl rfl _ rfl [.agg (c27 f.fi f.fn)] rfl (session_E B f.fi f.fn _ (Nat.le_trans hB (GG.drew.trans hw).size) hfi hfn)
  case o3 => exact fun _ _ hw _ => opE_value (v := .pointer (some ⟨g1, 2, none⟩)) rfl (run_fld 69 _ 1 rfl _ _ rfl _)
  case o4 => exact fun _ _ hw _ => opE_value (v := .agg (c27 f.ti f.tn)) rfl (run_lda 31 _ rfl g1 2 2 rfl 69 _ (hw.has kg1) _ Try.underlying31 rfl si27 _)
  case o5 =>
    intro ptrs w' hw hE
    obtain ⟨⟨ao2, cap2, h2, o2⟩, _⟩ := hE
    exact opE_call (rowE B (sessL f.ti f.tn)) rfl _ 36 Try.call36 rfl rfl _ rfl [.agg (c27 f.ti f.tn)] rfl (session_E B f.ti f.tn _ (Nat.le_trans hB (GG.drew.trans hw).size) hti htn)
  case o6 => exact fun _ _ hw _ => opE_value (v := .pointer (some ⟨g1, 4, none⟩)) rfl (run_fld 69 _ 2 rfl _ _ rfl _)
  case o7 => exact fun _ _ hw _ => opE_value (v := .int .i64 f.n) rfl (run_ldc 2 _ rfl g1 4 rfl 69 _ (hw.has kg1) (na2 _) _ rfl)
  case o8 =>
    intro ptrs w' hw hE
    exact opE_new (intsE [f.n]) rfl (run_bsl 121 1 _ rfl [(0, .int .i64 f.n)] rfl (by kernel_rfl)) (gro_alloc _ _) (ints_new [f.n] _)
  case o9 =>
    intro ptrs w' hw hE
    obtain ⟨⟨ge8, h8, o8⟩, ⟨ao5, cap5, h5, o5⟩, _⟩ := hE
    exact opE_call (rowE B (List.flatMap nI [f.n])) rfl _ 37 Try.call37 rfl rfl _ rfl [.slice (some ⟨ge8, 0, none⟩) ([f.n]).length ([f.n]).length] (congrArg (fun v => [v]) h8) (number_E B ge8 [f.n] _ (Nat.le_trans hB (GG.drew.trans hw).size) o8 (ok1 hn) (Nat.le_of_ble_eq_true rfl))
  case o10 => exact fun _ _ hw _ => opE_value (v := .pointer (some ⟨g1, 5, none⟩)) rfl (run_fld 69 _ 3 rfl _ _ rfl _)
  case o11 => exact fun _ _ hw _ => opE_value (v := .slice txo d.tx.length txc) rfl (run_ldc 36 _ rfl g1 5 rfl 69 _ (hw.has kg1) (na32 _) _ rfl)
  case o12 =>
    intro ptrs w' hw hE
    exact opE_new (textsE [d.tx]) rfl (run_bsl 100 1 _ rfl [(0, .slice txo d.tx.length txc)] rfl (by kernel_rfl)) (gro_alloc _ _) (texts_new [.slice txo d.tx.length txc] [d.tx] _ ⟨⟨_, _, rfl, (Htx.gro (GG.drew.trans hw))⟩, trivial⟩)
  case o13 =>
    intro ptrs w' hw hE
    obtain ⟨⟨ge12, h12, o12⟩, ⟨ao9, cap9, h9, o9⟩, _⟩ := hE
    exact (by have z0 := hltx; exact opE_call (rowE B (putT [d.tx])) rfl _ 38 Try.call38 rfl rfl _ rfl [.slice (some ⟨ge12, 0, none⟩) ([d.tx]).length ([d.tx]).length] (congrArg (fun v => [v]) h12) (putText_E B ge12 [d.tx] _ (Nat.le_trans hB (GG.drew.trans hw).size) o12 (Nat.le_of_ble_eq_true rfl) (by have := t1_len d.tx; omega)))
  case o14 =>
    intro ptrs w' hw hE
    obtain ⟨⟨ao2, cap2, h2, o2⟩, ⟨ao5, cap5, h5, o5⟩, ⟨ao9, cap9, h9, o9⟩, ⟨ao13, cap13, h13, o13⟩, _⟩ := hE
    exact opE_new (textsE [(sessL f.fi f.fn), (sessL f.ti f.tn), (List.flatMap nI [f.n]), (putT [d.tx])]) rfl (run_bsl 100 4 _ rfl [(0, .slice ao2 (sessL f.fi f.fn).length cap2), (1, .slice ao5 (sessL f.ti f.tn).length cap5), (2, .slice ao9 (List.flatMap nI [f.n]).length cap9), (3, .slice ao13 (putT [d.tx]).length cap13)] (by show [(0, ptrs 2), (1, ptrs 5), (2, ptrs 9), (3, ptrs 13)] = _; rw [h2, h5, h9, h13]) (by kernel_rfl)) (gro_alloc _ _) (texts_new [.slice ao2 (sessL f.fi f.fn).length cap2, .slice ao5 (sessL f.ti f.tn).length cap5, .slice ao9 (List.flatMap nI [f.n]).length cap9, .slice ao13 (putT [d.tx]).length cap13] [(sessL f.fi f.fn), (sessL f.ti f.tn), (List.flatMap nI [f.n]), (putT [d.tx])] _ ⟨⟨_, _, rfl, o2.nc⟩, ⟨_, _, rfl, o5.nc⟩, ⟨_, _, rfl, o9.nc⟩, ⟨_, _, rfl, o13.nc⟩, trivial⟩)
  case o15 =>
    intro ptrs w' hw hE
    obtain ⟨⟨ge14, h14, o14⟩, ⟨ao13, cap13, h13, o13⟩, _⟩ := hE
    exact (by have z0 := sessL_len f.fi f.fn; have z1 := sessL_len f.ti f.tn; have z2 := n1_len f.n; have z3 := t1_len d.tx; exact opE_call (rowE B ((List.flatten [(sessL f.fi f.fn), (sessL f.ti f.tn), (List.flatMap nI [f.n]), (putT [d.tx])]))) rfl _ 22 Try.call22 rfl rfl _ rfl [.slice (some ⟨ge14, 0, none⟩) ([(sessL f.fi f.fn), (sessL f.ti f.tn), (List.flatMap nI [f.n]), (putT [d.tx])]).length ([(sessL f.fi f.fn), (sessL f.ti f.tn), (List.flatMap nI [f.n]), (putT [d.tx])]).length] (congrArg (fun v => [v]) h14) (concat_E B ge14 [(sessL f.fi f.fn), (sessL f.ti f.tn), (List.flatMap nI [f.n]), (putT [d.tx])] _ (Nat.le_trans hB (GG.drew.trans hw).size) o14 (Nat.le_of_ble_eq_true rfl) (by simp only [List.flatten_cons, List.flatten_nil, List.length_append, List.length_nil]; omega)))
  intro ptrs w4 GD hx
  simp only [List.drop_succ_cons, List.drop_zero]
  replace kg1 := GD.has kg1
  replace GG := GG.drew.trans GD
  obtain ⟨_, _, _, _, _, _, _, ⟨ao15x, cap15x, h15, o15x⟩, _⟩ := hx
  simp only [h15]
  clear GD
  refine mv 2 (.slice ao15x ((List.flatten [(sessL f.fi f.fn), (sessL f.ti f.tn), (List.flatMap nI [f.n]), (putT [d.tx])])).length cap15x) (wpList_nil (then_n (wp_ret (blk_r (then_r ?_)))))
  refine bodyPost_ret (results_tmp Try.results24 _ _ _) rfl ?_
  exact ⟨_, rfl, GG, _, _, rfl, o15x⟩
set_option maxRecDepth 100000 in
set_option maxHeartbeats 4000000 in
theorem bytesOf_3 (B : Nat) (f : Fr) (_d : FD) (w : World) (hB : B ≤ w.heap.size) (hfi : okN f.fi) (hfn : okN f.fn) (hti : okN f.ti) (htn : okN f.tn) (hn : okN f.n) : Calls Try.prog 24 #[.iface 71 (.agg (c83 f.fi f.fn f.ti f.tn f.n))] w (RetE (rowE B (List.flatten [(sessL f.fi f.fn), (sessL f.ti f.tn), (List.flatMap nI [f.n])])) w) := by
  refine s_enterR Try.func24 rfl Try.ntmps24 [.iface 71 (.agg (c83 f.fi f.fn f.ti f.tn f.n))] ?_
  intro U h; simp only [List.length_cons, List.length_nil, List.cons_append, List.nil_append, Nat.reduceAdd, Nat.reduceSub, List.reduceReplicate] at h; subst h
  have GG := Gro.refl w
  refine wp_seq (wp_region_lit (mv 2 (.slice none 0 0) (wpList_nil (then_n (wp_seq (wp_seq (wp_region_lit (mv 15 (.iface 71 (.agg (c83 f.fi f.fn f.ti f.tn f.n))) (wpList_nil (then_n (wp_block (wp_seq (wp_region_lit (sv 16 (.tuple #[.agg (c79 0 0 0 0 zF), .bool false]) (run_ta _ 23 67 true rfl _ _ rfl) ?_))))))))))))))
  simp only [z0, z1]
  refine mv 17 (.bool false) (mv 18 (.agg (c79 0 0 0 0 zF)) (wpList_nil (then_n (wp_cond_false rfl (wp_seq (wp_region_lit (sv 29 (.tuple #[.agg (c81 0 0 0 0 0 Sl.nil), .bool false]) (run_ta _ 23 69 true rfl _ _ rfl) ?_)))))))
  simp only [z0, z1]
  refine mv 30 (.bool false) (mv 31 (.agg (c81 0 0 0 0 0 Sl.nil)) (wpList_nil (then_n (wp_cond_false rfl (wp_seq (wp_region_lit (sv 48 (.tuple #[.agg (c83 f.fi f.fn f.ti f.tn f.n), .bool true]) (run_ta _ 23 71 true rfl _ _ rfl) ?_)))))))
  simp only [z0, z1]
  refine mv 49 (.bool true) (mv 50 (.agg (c83 f.fi f.fn f.ti f.tn f.n)) (wpList_nil (then_n (wp_cond_true rfl (wp_seq (wp_region_lit ?_))))))
  refine s_alloc 5 rfl rfl 71 rfl _ zv83 _ rfl ?_
  intro w1 g1 G eg1 kg1
  have bg1 := size_base GG eg1
  replace GG := GG.trans G
  clear G eg1
  simp only [z0, z1]
  refine s_store rfl rfl 71 _ _ rfl g1 0 rfl (.agg (c83 f.fi f.fn f.ti f.tn f.n)) rfl 71 _ kg1 (c83 f.fi f.fn f.ti f.tn f.n) rfl (by kernel_rfl) (Nat.le_of_ble_eq_true rfl) (by kernel_rfl) (c83 f.fi f.fn f.ti f.tn f.n) (by kernel_rfl) ?_
  intro w3 S
  replace GG := GG.store S bg1
  replace kg1 := S.new
  clear S
  refine wpList_nil (then_n (wp_seq ?_))
  refine wp_region_exA (A := ?A) 12 [(0, 51), (1, 52), (2, 53), (3, 54), (4, 55), (5, 56), (6, 57), (7, 58), (8, 59), (9, 60), (10, 61), (11, 62)] [.val (.pointer (some ⟨g1, 0, none⟩)), .val (.agg (c27 f.fi f.fn)), (rowE B (sessL f.fi f.fn)), .val (.pointer (some ⟨g1, 2, none⟩)), .val (.agg (c27 f.ti f.tn)), (rowE B (sessL f.ti f.tn)), .val (.pointer (some ⟨g1, 4, none⟩)), .val (.int .i64 f.n), (intsE [f.n]), (rowE B (List.flatMap nI [f.n])), (textsE [(sessL f.fi f.fn), (sessL f.ti f.tn), (List.flatMap nI [f.n])]), (rowE B ((List.flatten [(sessL f.fi f.fn), (sessL f.ti f.tn), (List.flatMap nI [f.n])])))] follows (by kernel_rfl) rfl ?hA (opsA_cons ?o0 (opsA_cons ?o1 (opsA_cons ?o2 (opsA_cons ?o3 (opsA_cons ?o4 (opsA_cons ?o5 (opsA_cons ?o6 (opsA_cons ?o7 (opsA_cons ?o8 (opsA_cons ?o9 (opsA_cons ?o10 (opsA_cons ?o11 opsA_nil)))))))))))) ?rest
  case hA =>
    intro ptrs
    simp only [full, foldSlots, filledE, postE, List.foldl_cons, List.foldl_nil, List.getD_cons_zero, List.getD_cons_succ, fill_val, fill_row, fill_ints, fill_texts, List.set_cons_zero, List.set_cons_succ]
    exact rfl
  case o0 => exact fun _ _ hw _ => opE_value (v := .pointer (some ⟨g1, 0, none⟩)) rfl (run_fld 71 _ 0 rfl _ _ rfl _)
  case o1 => exact fun _ _ hw _ => opE_value (v := .agg (c27 f.fi f.fn)) rfl (run_lda 31 _ rfl g1 0 2 rfl 71 _ (hw.has kg1) _ Try.underlying31 rfl si27 _)
  case o2 =>
    intro ptrs w' hw hE
    exact opE_call (rowE B (sessL f.fi f.fn)) rfl _ 36 Try.call36 rfl rfl _ rfl [.agg (c27 f.fi f.fn)] rfl (session_E B f.fi f.fn _ (Nat.le_trans hB (GG.drew.trans hw).size) hfi hfn)
  case o3 => exact fun _ _ hw _ => opE_value (v := .pointer (some ⟨g1, 2, none⟩)) rfl (run_fld 71 _ 1 rfl _ _ rfl _)
  case o4 => exact fun _ _ hw _ => opE_value (v := .agg (c27 f.ti f.tn)) rfl (run_lda 31 _ rfl g1 2 2 rfl 71 _ (hw.has kg1) _ Try.underlying31 rfl si27 _)
  case o5 =>
    intro ptrs w' hw hE
    obtain ⟨⟨ao2, cap2, h2, o2⟩, _⟩ := hE
    exact opE_call (rowE B (sessL f.ti f.tn)) rfl _ 36 Try.call36 rfl rfl _ rfl [.agg (c27 f.ti f.tn)] rfl (session_E B f.ti f.tn _ (Nat.le_trans hB (GG.drew.trans hw).size) hti htn)
  case o6 => exact fun _ _ hw _ => opE_value (v := .pointer (some ⟨g1, 4, none⟩)) rfl (run_fld 71 _ 2 rfl _ _ rfl _)
  case o7 => exact fun _ _ hw _ => opE_value (v := .int .i64 f.n) rfl (run_ldc 2 _ rfl g1 4 rfl 71 _ (hw.has kg1) (na2 _) _ rfl)
  case o8 =>
    intro ptrs w' hw hE
    exact opE_new (intsE [f.n]) rfl (run_bsl 121 1 _ rfl [(0, .int .i64 f.n)] rfl (by kernel_rfl)) (gro_alloc _ _) (ints_new [f.n] _)
  case o9 =>
    intro ptrs w' hw hE
    obtain ⟨⟨ge8, h8, o8⟩, ⟨ao5, cap5, h5, o5⟩, _⟩ := hE
    exact opE_call (rowE B (List.flatMap nI [f.n])) rfl _ 37 Try.call37 rfl rfl _ rfl [.slice (some ⟨ge8, 0, none⟩) ([f.n]).length ([f.n]).length] (congrArg (fun v => [v]) h8) (number_E B ge8 [f.n] _ (Nat.le_trans hB (GG.drew.trans hw).size) o8 (ok1 hn) (Nat.le_of_ble_eq_true rfl))
  case o10 =>
    intro ptrs w' hw hE
    obtain ⟨⟨ao2, cap2, h2, o2⟩, ⟨ao5, cap5, h5, o5⟩, ⟨ao9, cap9, h9, o9⟩, _⟩ := hE
    exact opE_new (textsE [(sessL f.fi f.fn), (sessL f.ti f.tn), (List.flatMap nI [f.n])]) rfl (run_bsl 100 3 _ rfl [(0, .slice ao2 (sessL f.fi f.fn).length cap2), (1, .slice ao5 (sessL f.ti f.tn).length cap5), (2, .slice ao9 (List.flatMap nI [f.n]).length cap9)] (by show [(0, ptrs 2), (1, ptrs 5), (2, ptrs 9)] = _; rw [h2, h5, h9]) (by kernel_rfl)) (gro_alloc _ _) (texts_new [.slice ao2 (sessL f.fi f.fn).length cap2, .slice ao5 (sessL f.ti f.tn).length cap5, .slice ao9 (List.flatMap nI [f.n]).length cap9] [(sessL f.fi f.fn), (sessL f.ti f.tn), (List.flatMap nI [f.n])] _ ⟨⟨_, _, rfl, o2.nc⟩, ⟨_, _, rfl, o5.nc⟩, ⟨_, _, rfl, o9.nc⟩, trivial⟩)
  case o11 =>
    intro ptrs w' hw hE
    obtain ⟨⟨ge10, h10, o10⟩, ⟨ao9, cap9, h9, o9⟩, _⟩ := hE
    exact (by have z0 := sessL_len f.fi f.fn; have z1 := sessL_len f.ti f.tn; have z2 := n1_len f.n; exact opE_call (rowE B ((List.flatten [(sessL f.fi f.fn), (sessL f.ti f.tn), (List.flatMap nI [f.n])]))) rfl _ 22 Try.call22 rfl rfl _ rfl [.slice (some ⟨ge10, 0, none⟩) ([(sessL f.fi f.fn), (sessL f.ti f.tn), (List.flatMap nI [f.n])]).length ([(sessL f.fi f.fn), (sessL f.ti f.tn), (List.flatMap nI [f.n])]).length] (congrArg (fun v => [v]) h10) (concat_E B ge10 [(sessL f.fi f.fn), (sessL f.ti f.tn), (List.flatMap nI [f.n])] _ (Nat.le_trans hB (GG.drew.trans hw).size) o10 (Nat.le_of_ble_eq_true rfl) (by simp only [List.flatten_cons, List.flatten_nil, List.length_append, List.length_nil]; omega)))
  intro ptrs w4 GD hx
  simp only [List.drop_succ_cons, List.drop_zero]
  replace kg1 := GD.has kg1
  replace GG := GG.drew.trans GD
  obtain ⟨_, _, _, _, _, ⟨ao11x, cap11x, h11, o11x⟩, _⟩ := hx
  simp only [h11]
  clear GD
  refine mv 2 (.slice ao11x ((List.flatten [(sessL f.fi f.fn), (sessL f.ti f.tn), (List.flatMap nI [f.n])])).length cap11x) (wpList_nil (then_n (wp_ret (blk_r (then_r ?_)))))
  refine bodyPost_ret (results_tmp Try.results24 _ _ _) rfl ?_
  exact ⟨_, rfl, GG, _, _, rfl, o11x⟩
set_option maxRecDepth 100000 in
set_option maxHeartbeats 4000000 in
theorem bytesOf_4 (B : Nat) (f : Fr) (d : FD) (w : World) (hB : B ≤ w.heap.size) (hpw : okI f.pw) (hpn : okN f.pn) (ha : okI f.a) (hb : okI f.b) (tro : Option Addr) (trc : Nat) (Htr : XC w 1 tro trc d.tr.length (d.tr.map (Value.int .i64 ·))) (htr : ∀ x ∈ d.tr, okN x) (hltr : d.tr.length ≤ 1000) : Calls Try.prog 24 #[.iface 73 (.agg (c85 f.pw f.pn f.a f.b ⟨tro, d.tr.length, trc⟩))] w (RetE (rowE B (List.flatten [(pathL f.pw f.pn), (idL f.a), (idL f.b), (trailL d.tr)])) w) := by
  refine s_enterR Try.func24 rfl Try.ntmps24 [.iface 73 (.agg (c85 f.pw f.pn f.a f.b ⟨tro, d.tr.length, trc⟩))] ?_
  intro U h; simp only [List.length_cons, List.length_nil, List.cons_append, List.nil_append, Nat.reduceAdd, Nat.reduceSub, List.reduceReplicate] at h; subst h
  have GG := Gro.refl w
  refine wp_seq (wp_region_lit (mv 2 (.slice none 0 0) (wpList_nil (then_n (wp_seq (wp_seq (wp_region_lit (mv 15 (.iface 73 (.agg (c85 f.pw f.pn f.a f.b ⟨tro, d.tr.length, trc⟩))) (wpList_nil (then_n (wp_block (wp_seq (wp_region_lit (sv 16 (.tuple #[.agg (c79 0 0 0 0 zF), .bool false]) (run_ta _ 23 67 true rfl _ _ rfl) ?_))))))))))))))
  simp only [z0, z1]
  refine mv 17 (.bool false) (mv 18 (.agg (c79 0 0 0 0 zF)) (wpList_nil (then_n (wp_cond_false rfl (wp_seq (wp_region_lit (sv 29 (.tuple #[.agg (c81 0 0 0 0 0 Sl.nil), .bool false]) (run_ta _ 23 69 true rfl _ _ rfl) ?_)))))))
  simp only [z0, z1]
  refine mv 30 (.bool false) (mv 31 (.agg (c81 0 0 0 0 0 Sl.nil)) (wpList_nil (then_n (wp_cond_false rfl (wp_seq (wp_region_lit (sv 48 (.tuple #[.agg (c83 0 0 0 0 0), .bool false]) (run_ta _ 23 71 true rfl _ _ rfl) ?_)))))))
  simp only [z0, z1]
  refine mv 49 (.bool false) (mv 50 (.agg (c83 0 0 0 0 0)) (wpList_nil (then_n (wp_cond_false rfl (wp_seq (wp_region_lit (sv 63 (.tuple #[.agg (c85 f.pw f.pn f.a f.b ⟨tro, d.tr.length, trc⟩), .bool true]) (run_ta _ 23 73 true rfl _ _ rfl) ?_)))))))
  simp only [z0, z1]
  refine mv 64 (.bool true) (mv 65 (.agg (c85 f.pw f.pn f.a f.b ⟨tro, d.tr.length, trc⟩)) (wpList_nil (then_n (wp_cond_true rfl (wp_seq (wp_region_lit ?_))))))
  refine s_alloc 6 rfl rfl 73 rfl _ zv85 _ rfl ?_
  intro w1 g1 G eg1 kg1
  have bg1 := size_base GG eg1
  replace GG := GG.trans G
  clear G eg1
  simp only [z0, z1]
  refine s_store rfl rfl 73 _ _ rfl g1 0 rfl (.agg (c85 f.pw f.pn f.a f.b ⟨tro, d.tr.length, trc⟩)) rfl 73 _ kg1 (c85 f.pw f.pn f.a f.b ⟨tro, d.tr.length, trc⟩) rfl (by kernel_rfl) (Nat.le_of_ble_eq_true rfl) (by kernel_rfl) (c85 f.pw f.pn f.a f.b ⟨tro, d.tr.length, trc⟩) (by kernel_rfl) ?_
  intro w3 S
  replace GG := GG.store S bg1
  replace kg1 := S.new
  clear S
  refine wpList_nil (then_n (wp_seq ?_))
  refine wp_region_exA (A := ?A) 12 [(0, 66), (1, 67), (2, 68), (3, 69), (4, 70), (5, 71), (6, 72), (7, 73), (8, 74), (9, 75), (10, 76), (11, 77)] [.val (.pointer (some ⟨g1, 0, none⟩)), .val (.agg (c25 f.pw f.pn)), (rowE B (pathL f.pw f.pn)), .val (.pointer (some ⟨g1, 17, none⟩)), .val (.slice (some ⟨g1, 17, none⟩) 16 16), .val (.pointer (some ⟨g1, 33, none⟩)), .val (.slice (some ⟨g1, 33, none⟩) 16 16), .val (.pointer (some ⟨g1, 49, none⟩)), .val (.slice tro d.tr.length trc), (rowE B (trailL d.tr)), (textsE [(pathL f.pw f.pn), (idL f.a), (idL f.b), (trailL d.tr)]), (rowE B ((List.flatten [(pathL f.pw f.pn), (idL f.a), (idL f.b), (trailL d.tr)])))] follows (by kernel_rfl) rfl ?hA (opsA_cons ?o0 (opsA_cons ?o1 (opsA_cons ?o2 (opsA_cons ?o3 (opsA_cons ?o4 (opsA_cons ?o5 (opsA_cons ?o6 (opsA_cons ?o7 (opsA_cons ?o8 (opsA_cons ?o9 (opsA_cons ?o10 (opsA_cons ?o11 opsA_nil)))))))))))) ?rest
  case hA =>
    intro ptrs
    simp only [full, foldSlots, filledE, postE, List.foldl_cons, List.foldl_nil, List.getD_cons_zero, List.getD_cons_succ, fill_val, fill_row, fill_texts, List.set_cons_zero, List.set_cons_succ]
    exact rfl
  case o0 => exact fun _ _ hw _ => opE_value (v := .pointer (some ⟨g1, 0, none⟩)) rfl (run_fld 73 _ 0 rfl _ _ rfl _)
  case o1 => exact fun _ _ hw _ => opE_value (v := .agg (c25 f.pw f.pn)) rfl (run_lda 29 _ rfl g1 0 17 rfl 73 _ (hw.has kg1) _ Try.underlying29 rfl si25 _)
  case o2 =>
    intro ptrs w' hw hE
    exact opE_call (rowE B (pathL f.pw f.pn)) rfl _ 39 Try.call39 rfl rfl _ rfl [.agg (c25 f.pw f.pn)] rfl (path_E B f.pw f.pn _ (Nat.le_trans hB (GG.drew.trans hw).size) hpw hpn)
  case o3 => exact fun _ _ hw _ => opE_value (v := .pointer (some ⟨g1, 17, none⟩)) rfl (run_fld 73 _ 1 rfl _ _ rfl _)
  case o4 => exact fun _ _ hw _ => opE_value (v := .slice (some ⟨g1, 17, none⟩) 16 16) rfl (run_arr_at _ rfl _ _ rfl _)
  case o5 => exact fun _ _ hw _ => opE_value (v := .pointer (some ⟨g1, 33, none⟩)) rfl (run_fld 73 _ 2 rfl _ _ rfl _)
  case o6 => exact fun _ _ hw _ => opE_value (v := .slice (some ⟨g1, 33, none⟩) 16 16) rfl (run_arr_at _ rfl _ _ rfl _)
  case o7 => exact fun _ _ hw _ => opE_value (v := .pointer (some ⟨g1, 49, none⟩)) rfl (run_fld 73 _ 3 rfl _ _ rfl _)
  case o8 => exact fun _ _ hw _ => opE_value (v := .slice tro d.tr.length trc) rfl (run_ldc 32 _ rfl g1 49 rfl 73 _ (hw.has kg1) (na28 _) _ rfl)
  case o9 =>
    intro ptrs w' hw hE
    obtain ⟨⟨ao2, cap2, h2, o2⟩, _⟩ := hE
    exact opE_call (rowE B (trailL d.tr)) rfl _ 40 Try.call40 rfl rfl _ rfl [.slice tro d.tr.length trc] rfl (trail_E B _ _ d.tr _ (Nat.le_trans hB (GG.drew.trans hw).size) (Htr.gro (GG.drew.trans hw)) htr hltr)
  case o10 =>
    intro ptrs w' hw hE
    obtain ⟨⟨ao2, cap2, h2, o2⟩, ⟨ao9, cap9, h9, o9⟩, _⟩ := hE
    exact opE_new (textsE [(pathL f.pw f.pn), (idL f.a), (idL f.b), (trailL d.tr)]) rfl (run_bsl 100 4 _ rfl [(0, .slice ao2 (pathL f.pw f.pn).length cap2), (1, .slice (some ⟨g1, 17, none⟩) 16 16), (2, .slice (some ⟨g1, 33, none⟩) 16 16), (3, .slice ao9 (trailL d.tr).length cap9)] (by show [(0, ptrs 2), (1, .slice (some ⟨g1, 17, none⟩) 16 16), (2, .slice (some ⟨g1, 33, none⟩) 16 16), (3, ptrs 9)] = _; rw [h2, h9]) (by kernel_rfl)) (gro_alloc _ _) (texts_new [.slice ao2 (pathL f.pw f.pn).length cap2, .slice (some ⟨g1, 17, none⟩) 16 16, .slice (some ⟨g1, 33, none⟩) 16 16, .slice ao9 (trailL d.tr).length cap9] [(pathL f.pw f.pn), (idL f.a), (idL f.b), (trailL d.tr)] _ ⟨⟨_, _, rfl, o2.nc⟩, ⟨_, _, rfl, (nc_id (hw.has kg1) f.a ha (by kernel_rfl))⟩, ⟨_, _, rfl, (nc_id (hw.has kg1) f.b hb (by kernel_rfl))⟩, ⟨_, _, rfl, o9.nc⟩, trivial⟩)
  case o11 =>
    intro ptrs w' hw hE
    obtain ⟨⟨ge10, h10, o10⟩, ⟨ao9, cap9, h9, o9⟩, _⟩ := hE
    exact (by have z0 := pathL_len f.pw f.pn; have z1 := idL_len f.a; have z2 := idL_len f.b; have z3 := trailL_len d.tr; exact opE_call (rowE B ((List.flatten [(pathL f.pw f.pn), (idL f.a), (idL f.b), (trailL d.tr)]))) rfl _ 22 Try.call22 rfl rfl _ rfl [.slice (some ⟨ge10, 0, none⟩) ([(pathL f.pw f.pn), (idL f.a), (idL f.b), (trailL d.tr)]).length ([(pathL f.pw f.pn), (idL f.a), (idL f.b), (trailL d.tr)]).length] (congrArg (fun v => [v]) h10) (concat_E B ge10 [(pathL f.pw f.pn), (idL f.a), (idL f.b), (trailL d.tr)] _ (Nat.le_trans hB (GG.drew.trans hw).size) o10 (Nat.le_of_ble_eq_true rfl) (by simp only [List.flatten_cons, List.flatten_nil, List.length_append, List.length_nil]; omega)))
  intro ptrs w4 GD hx
  simp only [List.drop_succ_cons, List.drop_zero]
  replace kg1 := GD.has kg1
  replace GG := GG.drew.trans GD
  obtain ⟨_, _, _, ⟨ao11x, cap11x, h11, o11x⟩, _⟩ := hx
  simp only [h11]
  clear GD
  refine mv 2 (.slice ao11x ((List.flatten [(pathL f.pw f.pn), (idL f.a), (idL f.b), (trailL d.tr)])).length cap11x) (wpList_nil (then_n (wp_ret (blk_r (then_r ?_)))))
  refine bodyPost_ret (results_tmp Try.results24 _ _ _) rfl ?_
  exact ⟨_, rfl, GG, _, _, rfl, o11x⟩
set_option maxRecDepth 100000 in
set_option maxHeartbeats 4000000 in
theorem bytesOf_5 (B : Nat) (f : Fr) (_d : FD) (w : World) (hB : B ≤ w.heap.size) (hpw : okI f.pw) (hpn : okN f.pn) : Calls Try.prog 24 #[.iface 75 (.agg (c87 f.pw f.pn))] w (RetE (rowE B (pathL f.pw f.pn)) w) := by
  refine s_enterR Try.func24 rfl Try.ntmps24 [.iface 75 (.agg (c87 f.pw f.pn))] ?_
  intro U h; simp only [List.length_cons, List.length_nil, List.cons_append, List.nil_append, Nat.reduceAdd, Nat.reduceSub, List.reduceReplicate] at h; subst h
  have GG := Gro.refl w
  refine wp_seq (wp_region_lit (mv 2 (.slice none 0 0) (wpList_nil (then_n (wp_seq (wp_seq (wp_region_lit (mv 15 (.iface 75 (.agg (c87 f.pw f.pn))) (wpList_nil (then_n (wp_block (wp_seq (wp_region_lit (sv 16 (.tuple #[.agg (c79 0 0 0 0 zF), .bool false]) (run_ta _ 23 67 true rfl _ _ rfl) ?_))))))))))))))
  simp only [z0, z1]
  refine mv 17 (.bool false) (mv 18 (.agg (c79 0 0 0 0 zF)) (wpList_nil (then_n (wp_cond_false rfl (wp_seq (wp_region_lit (sv 29 (.tuple #[.agg (c81 0 0 0 0 0 Sl.nil), .bool false]) (run_ta _ 23 69 true rfl _ _ rfl) ?_)))))))
  simp only [z0, z1]
  refine mv 30 (.bool false) (mv 31 (.agg (c81 0 0 0 0 0 Sl.nil)) (wpList_nil (then_n (wp_cond_false rfl (wp_seq (wp_region_lit (sv 48 (.tuple #[.agg (c83 0 0 0 0 0), .bool false]) (run_ta _ 23 71 true rfl _ _ rfl) ?_)))))))
  simp only [z0, z1]
  refine mv 49 (.bool false) (mv 50 (.agg (c83 0 0 0 0 0)) (wpList_nil (then_n (wp_cond_false rfl (wp_seq (wp_region_lit (sv 63 (.tuple #[.agg (c85 zF 0 zF zF Sl.nil), .bool false]) (run_ta _ 23 73 true rfl _ _ rfl) ?_)))))))
  simp only [z0, z1]
  refine mv 64 (.bool false) (mv 65 (.agg (c85 zF 0 zF zF Sl.nil)) (wpList_nil (then_n (wp_cond_false rfl (wp_seq (wp_region_lit (sv 78 (.tuple #[.agg (c87 f.pw f.pn), .bool true]) (run_ta _ 23 75 true rfl _ _ rfl) ?_)))))))
  simp only [z0, z1]
  refine mv 79 (.bool true) (mv 80 (.agg (c87 f.pw f.pn)) (wpList_nil (then_n (wp_cond_true rfl (wp_seq (wp_region_lit ?_))))))
  refine s_alloc 7 rfl rfl 75 rfl _ zv87 _ rfl ?_
  intro w1 g1 G eg1 kg1
  have bg1 := size_base GG eg1
  replace GG := GG.trans G
  clear G eg1
  simp only [z0, z1]
  refine s_store rfl rfl 75 _ _ rfl g1 0 rfl (.agg (c87 f.pw f.pn)) rfl 75 _ kg1 (c87 f.pw f.pn) rfl (by kernel_rfl) (Nat.le_of_ble_eq_true rfl) (by kernel_rfl) (c87 f.pw f.pn) (by kernel_rfl) ?_
  intro w3 S
  replace GG := GG.store S bg1
  replace kg1 := S.new
  clear S
  refine wpList_nil (then_n (wp_seq (wp_region_lit (sv 81 (.pointer (some ⟨g1, 0, none⟩)) (run_fld 75 _ 0 rfl _ _ rfl _) (sv 82 (.agg (c25 f.pw f.pn)) (run_lda 29 _ rfl g1 0 17 rfl 75 _ kg1 _ Try.underlying29 rfl si25 _) ?_)))))
  simp only [z0, z1]
  refine s_ex 83 rfl (rowE B (pathL f.pw f.pn)) rfl (opE_call (rowE B (pathL f.pw f.pn)) rfl _ 39 Try.call39 rfl rfl _ rfl [.agg (c25 f.pw f.pn)] rfl (path_E B f.pw f.pn _ (Nat.le_trans hB GG.size) hpw hpn)) ?_
  rintro v w4 G ⟨ao1, cap1, rfl, o1⟩
  replace kg1 := G.has kg1
  replace GG := GG.trans G
  clear G
  refine mv 2 (.slice ao1 (pathL f.pw f.pn).length cap1) (wpList_nil (then_n (wp_ret (blk_r (then_r ?_)))))
  refine bodyPost_ret (results_tmp Try.results24 _ _ _) rfl ?_
  exact ⟨_, rfl, GG, _, _, rfl, o1⟩
set_option maxRecDepth 100000 in
set_option maxHeartbeats 4000000 in
theorem bytesOf_6 (B : Nat) (f : Fr) (_d : FD) (w : World) (hB : B ≤ w.heap.size) (hpw : okI f.pw) (hpn : okN f.pn) : Calls Try.prog 24 #[.iface 77 (.agg (c89 f.pw f.pn f.toA))] w (RetE (rowE B (List.flatten [(pathL f.pw f.pn), (flagL f.toA)])) w) := by
  refine s_enterR Try.func24 rfl Try.ntmps24 [.iface 77 (.agg (c89 f.pw f.pn f.toA))] ?_
  intro U h; simp only [List.length_cons, List.length_nil, List.cons_append, List.nil_append, Nat.reduceAdd, Nat.reduceSub, List.reduceReplicate] at h; subst h
  have GG := Gro.refl w
  refine wp_seq (wp_region_lit (mv 2 (.slice none 0 0) (wpList_nil (then_n (wp_seq (wp_seq (wp_region_lit (mv 15 (.iface 77 (.agg (c89 f.pw f.pn f.toA))) (wpList_nil (then_n (wp_block (wp_seq (wp_region_lit (sv 16 (.tuple #[.agg (c79 0 0 0 0 zF), .bool false]) (run_ta _ 23 67 true rfl _ _ rfl) ?_))))))))))))))
  simp only [z0, z1]
  refine mv 17 (.bool false) (mv 18 (.agg (c79 0 0 0 0 zF)) (wpList_nil (then_n (wp_cond_false rfl (wp_seq (wp_region_lit (sv 29 (.tuple #[.agg (c81 0 0 0 0 0 Sl.nil), .bool false]) (run_ta _ 23 69 true rfl _ _ rfl) ?_)))))))
  simp only [z0, z1]
  refine mv 30 (.bool false) (mv 31 (.agg (c81 0 0 0 0 0 Sl.nil)) (wpList_nil (then_n (wp_cond_false rfl (wp_seq (wp_region_lit (sv 48 (.tuple #[.agg (c83 0 0 0 0 0), .bool false]) (run_ta _ 23 71 true rfl _ _ rfl) ?_)))))))
  simp only [z0, z1]
  refine mv 49 (.bool false) (mv 50 (.agg (c83 0 0 0 0 0)) (wpList_nil (then_n (wp_cond_false rfl (wp_seq (wp_region_lit (sv 63 (.tuple #[.agg (c85 zF 0 zF zF Sl.nil), .bool false]) (run_ta _ 23 73 true rfl _ _ rfl) ?_)))))))
  simp only [z0, z1]
  refine mv 64 (.bool false) (mv 65 (.agg (c85 zF 0 zF zF Sl.nil)) (wpList_nil (then_n (wp_cond_false rfl (wp_seq (wp_region_lit (sv 78 (.tuple #[.agg (c87 zF 0), .bool false]) (run_ta _ 23 75 true rfl _ _ rfl) ?_)))))))
  simp only [z0, z1]
  refine mv 79 (.bool false) (mv 80 (.agg (c87 zF 0)) (wpList_nil (then_n (wp_cond_false rfl (wp_seq (wp_region_lit (sv 84 (.tuple #[.agg (c89 f.pw f.pn f.toA), .bool true]) (run_ta _ 23 77 true rfl _ _ rfl) ?_)))))))
  simp only [z0, z1]
  refine mv 85 (.bool true) (mv 86 (.agg (c89 f.pw f.pn f.toA)) (wpList_nil (then_n (wp_cond_true rfl (wp_seq (wp_region_lit ?_))))))
  refine s_alloc 8 rfl rfl 77 rfl _ zv89 _ rfl ?_
  intro w1 g1 G eg1 kg1
  have bg1 := size_base GG eg1
  replace GG := GG.trans G
  clear G eg1
  simp only [z0, z1]
  refine s_store rfl rfl 77 _ _ rfl g1 0 rfl (.agg (c89 f.pw f.pn f.toA)) rfl 77 _ kg1 (c89 f.pw f.pn f.toA) rfl (by kernel_rfl) (Nat.le_of_ble_eq_true rfl) (by kernel_rfl) (c89 f.pw f.pn f.toA) (by kernel_rfl) ?_
  intro w3 S
  replace GG := GG.store S bg1
  replace kg1 := S.new
  clear S
  refine wpList_nil (then_n (wp_seq ?_))
  refine wp_region_exA (A := ?A) 8 [(0, 87), (1, 88), (2, 89), (3, 90), (4, 91), (5, 92), (6, 93), (7, 94)] [.val (.pointer (some ⟨g1, 0, none⟩)), .val (.agg (c25 f.pw f.pn)), (rowE B (pathL f.pw f.pn)), .val (.pointer (some ⟨g1, 17, none⟩)), .val (.bool f.toA), (rowE B (flagL f.toA)), (textsE [(pathL f.pw f.pn), (flagL f.toA)]), (rowE B ((List.flatten [(pathL f.pw f.pn), (flagL f.toA)])))] follows (by kernel_rfl) rfl ?hA (opsA_cons ?o0 (opsA_cons ?o1 (opsA_cons ?o2 (opsA_cons ?o3 (opsA_cons ?o4 (opsA_cons ?o5 (opsA_cons ?o6 (opsA_cons ?o7 opsA_nil)))))))) ?rest
  case hA =>
    intro ptrs
    simp only [full, foldSlots, filledE, postE, List.foldl_cons, List.foldl_nil, List.getD_cons_zero, List.getD_cons_succ, fill_val, fill_row, fill_texts, List.set_cons_zero, List.set_cons_succ]
    exact rfl
  case o0 => exact fun _ _ hw _ => opE_value (v := .pointer (some ⟨g1, 0, none⟩)) rfl (run_fld 77 _ 0 rfl _ _ rfl _)
  case o1 => exact fun _ _ hw _ => opE_value (v := .agg (c25 f.pw f.pn)) rfl (run_lda 29 _ rfl g1 0 17 rfl 77 _ (hw.has kg1) _ Try.underlying29 rfl si25 _)
  case o2 =>
    intro ptrs w' hw hE
    exact opE_call (rowE B (pathL f.pw f.pn)) rfl _ 39 Try.call39 rfl rfl _ rfl [.agg (c25 f.pw f.pn)] rfl (path_E B f.pw f.pn _ (Nat.le_trans hB (GG.drew.trans hw).size) hpw hpn)
  case o3 => exact fun _ _ hw _ => opE_value (v := .pointer (some ⟨g1, 17, none⟩)) rfl (run_fld 77 _ 1 rfl _ _ rfl _)
  case o4 => exact fun _ _ hw _ => opE_value (v := .bool f.toA) rfl (run_ldc 4 _ rfl g1 17 rfl 77 _ (hw.has kg1) (na4 _) _ rfl)
  case o5 =>
    intro ptrs w' hw hE
    obtain ⟨⟨ao2, cap2, h2, o2⟩, _⟩ := hE
    exact opE_call (rowE B (flagL f.toA)) rfl _ 41 Try.call41 rfl rfl _ rfl [.bool f.toA] rfl (flag_E B f.toA _ (Nat.le_trans hB (GG.drew.trans hw).size))
  case o6 =>
    intro ptrs w' hw hE
    obtain ⟨⟨ao2, cap2, h2, o2⟩, ⟨ao5, cap5, h5, o5⟩, _⟩ := hE
    exact opE_new (textsE [(pathL f.pw f.pn), (flagL f.toA)]) rfl (run_bsl 100 2 _ rfl [(0, .slice ao2 (pathL f.pw f.pn).length cap2), (1, .slice ao5 (flagL f.toA).length cap5)] (by show [(0, ptrs 2), (1, ptrs 5)] = _; rw [h2, h5]) (by kernel_rfl)) (gro_alloc _ _) (texts_new [.slice ao2 (pathL f.pw f.pn).length cap2, .slice ao5 (flagL f.toA).length cap5] [(pathL f.pw f.pn), (flagL f.toA)] _ ⟨⟨_, _, rfl, o2.nc⟩, ⟨_, _, rfl, o5.nc⟩, trivial⟩)
  case o7 =>
    intro ptrs w' hw hE
    obtain ⟨⟨ge6, h6, o6⟩, ⟨ao5, cap5, h5, o5⟩, _⟩ := hE
    exact (by have z0 := pathL_len f.pw f.pn; have z1 := flagL_len f.toA; exact opE_call (rowE B ((List.flatten [(pathL f.pw f.pn), (flagL f.toA)]))) rfl _ 22 Try.call22 rfl rfl _ rfl [.slice (some ⟨ge6, 0, none⟩) ([(pathL f.pw f.pn), (flagL f.toA)]).length ([(pathL f.pw f.pn), (flagL f.toA)]).length] (congrArg (fun v => [v]) h6) (concat_E B ge6 [(pathL f.pw f.pn), (flagL f.toA)] _ (Nat.le_trans hB (GG.drew.trans hw).size) o6 (Nat.le_of_ble_eq_true rfl) (by simp only [List.flatten_cons, List.flatten_nil, List.length_append, List.length_nil]; omega)))
  intro ptrs w4 GD hx
  simp only [List.drop_succ_cons, List.drop_zero]
  replace kg1 := GD.has kg1
  replace GG := GG.drew.trans GD
  obtain ⟨_, _, _, ⟨ao7x, cap7x, h7, o7x⟩, _⟩ := hx
  simp only [h7]
  clear GD
  refine mv 2 (.slice ao7x ((List.flatten [(pathL f.pw f.pn), (flagL f.toA)])).length cap7x) (wpList_nil (then_n (wp_ret (blk_r (then_r ?_)))))
  refine bodyPost_ret (results_tmp Try.results24 _ _ _) rfl ?_
  exact ⟨_, rfl, GG, _, _, rfl, o7x⟩
set_option maxRecDepth 100000 in
set_option maxHeartbeats 4000000 in
theorem bytesOf_7 (B : Nat) (f : Fr) (d : FD) (w : World) (hB : B ≤ w.heap.size) (hpw : okI f.pw) (hpn : okN f.pn) (ido : Option Addr) (idc : Nat) (Hids : XC w 16 ido idc d.ids.length (cellsI d.ids)) (hids : ok16 d.ids) (hlids : d.ids.length ≤ 1000) : Calls Try.prog 24 #[.iface 79 (.agg (c91 f.pw f.pn f.toA ⟨ido, d.ids.length, idc⟩))] w (RetE (rowE B (List.flatten [(pathL f.pw f.pn), (flagL f.toA), (idsL d.ids)])) w) := by
  refine s_enterR Try.func24 rfl Try.ntmps24 [.iface 79 (.agg (c91 f.pw f.pn f.toA ⟨ido, d.ids.length, idc⟩))] ?_
  intro U h; simp only [List.length_cons, List.length_nil, List.cons_append, List.nil_append, Nat.reduceAdd, Nat.reduceSub, List.reduceReplicate] at h; subst h
  have GG := Gro.refl w
  refine wp_seq (wp_region_lit (mv 2 (.slice none 0 0) (wpList_nil (then_n (wp_seq (wp_seq (wp_region_lit (mv 15 (.iface 79 (.agg (c91 f.pw f.pn f.toA ⟨ido, d.ids.length, idc⟩))) (wpList_nil (then_n (wp_block (wp_seq (wp_region_lit (sv 16 (.tuple #[.agg (c79 0 0 0 0 zF), .bool false]) (run_ta _ 23 67 true rfl _ _ rfl) ?_))))))))))))))
  simp only [z0, z1]
  refine mv 17 (.bool false) (mv 18 (.agg (c79 0 0 0 0 zF)) (wpList_nil (then_n (wp_cond_false rfl (wp_seq (wp_region_lit (sv 29 (.tuple #[.agg (c81 0 0 0 0 0 Sl.nil), .bool false]) (run_ta _ 23 69 true rfl _ _ rfl) ?_)))))))
  simp only [z0, z1]
  refine mv 30 (.bool false) (mv 31 (.agg (c81 0 0 0 0 0 Sl.nil)) (wpList_nil (then_n (wp_cond_false rfl (wp_seq (wp_region_lit (sv 48 (.tuple #[.agg (c83 0 0 0 0 0), .bool false]) (run_ta _ 23 71 true rfl _ _ rfl) ?_)))))))
  simp only [z0, z1]
  refine mv 49 (.bool false) (mv 50 (.agg (c83 0 0 0 0 0)) (wpList_nil (then_n (wp_cond_false rfl (wp_seq (wp_region_lit (sv 63 (.tuple #[.agg (c85 zF 0 zF zF Sl.nil), .bool false]) (run_ta _ 23 73 true rfl _ _ rfl) ?_)))))))
  simp only [z0, z1]
  refine mv 64 (.bool false) (mv 65 (.agg (c85 zF 0 zF zF Sl.nil)) (wpList_nil (then_n (wp_cond_false rfl (wp_seq (wp_region_lit (sv 78 (.tuple #[.agg (c87 zF 0), .bool false]) (run_ta _ 23 75 true rfl _ _ rfl) ?_)))))))
  simp only [z0, z1]
  refine mv 79 (.bool false) (mv 80 (.agg (c87 zF 0)) (wpList_nil (then_n (wp_cond_false rfl (wp_seq (wp_region_lit (sv 84 (.tuple #[.agg (c89 zF 0 false), .bool false]) (run_ta _ 23 77 true rfl _ _ rfl) ?_)))))))
  simp only [z0, z1]
  refine mv 85 (.bool false) (mv 86 (.agg (c89 zF 0 false)) (wpList_nil (then_n (wp_cond_false rfl (wp_seq (wp_region_lit (sv 95 (.tuple #[.agg (c91 f.pw f.pn f.toA ⟨ido, d.ids.length, idc⟩), .bool true]) (run_ta _ 23 79 true rfl _ _ rfl) ?_)))))))
  simp only [z0, z1]
  refine mv 96 (.bool true) (mv 97 (.agg (c91 f.pw f.pn f.toA ⟨ido, d.ids.length, idc⟩)) (wpList_nil (then_n (wp_cond_true rfl (wp_seq (wp_region_lit ?_))))))
  refine s_alloc 9 rfl rfl 79 rfl _ zv91 _ rfl ?_
  intro w1 g1 G eg1 kg1
  have bg1 := size_base GG eg1
  replace GG := GG.trans G
  clear G eg1
  simp only [z0, z1]
  refine s_store rfl rfl 79 _ _ rfl g1 0 rfl (.agg (c91 f.pw f.pn f.toA ⟨ido, d.ids.length, idc⟩)) rfl 79 _ kg1 (c91 f.pw f.pn f.toA ⟨ido, d.ids.length, idc⟩) rfl (by kernel_rfl) (Nat.le_of_ble_eq_true rfl) (by kernel_rfl) (c91 f.pw f.pn f.toA ⟨ido, d.ids.length, idc⟩) (by kernel_rfl) ?_
  intro w3 S
  replace GG := GG.store S bg1
  replace kg1 := S.new
  clear S
  refine wpList_nil (then_n (wp_seq ?_))
  refine wp_region_exA (A := ?A) 11 [(0, 98), (1, 99), (2, 100), (3, 101), (4, 102), (5, 103), (6, 104), (7, 105), (8, 106), (9, 107), (10, 108)] [.val (.pointer (some ⟨g1, 0, none⟩)), .val (.agg (c25 f.pw f.pn)), (rowE B (pathL f.pw f.pn)), .val (.pointer (some ⟨g1, 17, none⟩)), .val (.bool f.toA), (rowE B (flagL f.toA)), .val (.pointer (some ⟨g1, 18, none⟩)), .val (.slice ido d.ids.length idc), (rowE B (idsL d.ids)), (textsE [(pathL f.pw f.pn), (flagL f.toA), (idsL d.ids)]), (rowE B ((List.flatten [(pathL f.pw f.pn), (flagL f.toA), (idsL d.ids)])))] follows (by kernel_rfl) rfl ?hA (opsA_cons ?o0 (opsA_cons ?o1 (opsA_cons ?o2 (opsA_cons ?o3 (opsA_cons ?o4 (opsA_cons ?o5 (opsA_cons ?o6 (opsA_cons ?o7 (opsA_cons ?o8 (opsA_cons ?o9 (opsA_cons ?o10 opsA_nil))))))))))) ?rest
  case hA =>
    intro ptrs
    simp only [full, foldSlots, filledE, postE, List.foldl_cons, List.foldl_nil, List.getD_cons_zero, List.getD_cons_succ, fill_val, fill_row, fill_texts, List.set_cons_zero, List.set_cons_succ]
    exact rfl
  case o0 => exact fun _ _ hw _ => opE_value (v := .pointer (some ⟨g1, 0, none⟩)) rfl (run_fld 79 _ 0 rfl _ _ rfl _)
  case o1 => exact fun _ _ hw _ => opE_value (v := .agg (c25 f.pw f.pn)) rfl (run_lda 29 _ rfl g1 0 17 rfl 79 _ (hw.has kg1) _ Try.underlying29 rfl si25 _)
  case o2 =>
    intro ptrs w' hw hE
    exact opE_call (rowE B (pathL f.pw f.pn)) rfl _ 39 Try.call39 rfl rfl _ rfl [.agg (c25 f.pw f.pn)] rfl (path_E B f.pw f.pn _ (Nat.le_trans hB (GG.drew.trans hw).size) hpw hpn)
  case o3 => exact fun _ _ hw _ => opE_value (v := .pointer (some ⟨g1, 17, none⟩)) rfl (run_fld 79 _ 1 rfl _ _ rfl _)
  case o4 => exact fun _ _ hw _ => opE_value (v := .bool f.toA) rfl (run_ldc 4 _ rfl g1 17 rfl 79 _ (hw.has kg1) (na4 _) _ rfl)
  case o5 =>
    intro ptrs w' hw hE
    obtain ⟨⟨ao2, cap2, h2, o2⟩, _⟩ := hE
    exact opE_call (rowE B (flagL f.toA)) rfl _ 41 Try.call41 rfl rfl _ rfl [.bool f.toA] rfl (flag_E B f.toA _ (Nat.le_trans hB (GG.drew.trans hw).size))
  case o6 => exact fun _ _ hw _ => opE_value (v := .pointer (some ⟨g1, 18, none⟩)) rfl (run_fld 79 _ 2 rfl _ _ rfl _)
  case o7 => exact fun _ _ hw _ => opE_value (v := .slice ido d.ids.length idc) rfl (run_ldc 33 _ rfl g1 18 rfl 79 _ (hw.has kg1) (na29 _) _ rfl)
  case o8 =>
    intro ptrs w' hw hE
    obtain ⟨⟨ao5, cap5, h5, o5⟩, _⟩ := hE
    exact opE_call (rowE B (idsL d.ids)) rfl _ 42 Try.call42 rfl rfl _ rfl [.slice ido d.ids.length idc] rfl (ids_E B _ _ d.ids _ (Nat.le_trans hB (GG.drew.trans hw).size) (Hids.gro (GG.drew.trans hw)) hids hlids)
  case o9 =>
    intro ptrs w' hw hE
    obtain ⟨⟨ao2, cap2, h2, o2⟩, ⟨ao5, cap5, h5, o5⟩, ⟨ao8, cap8, h8, o8⟩, _⟩ := hE
    exact opE_new (textsE [(pathL f.pw f.pn), (flagL f.toA), (idsL d.ids)]) rfl (run_bsl 100 3 _ rfl [(0, .slice ao2 (pathL f.pw f.pn).length cap2), (1, .slice ao5 (flagL f.toA).length cap5), (2, .slice ao8 (idsL d.ids).length cap8)] (by show [(0, ptrs 2), (1, ptrs 5), (2, ptrs 8)] = _; rw [h2, h5, h8]) (by kernel_rfl)) (gro_alloc _ _) (texts_new [.slice ao2 (pathL f.pw f.pn).length cap2, .slice ao5 (flagL f.toA).length cap5, .slice ao8 (idsL d.ids).length cap8] [(pathL f.pw f.pn), (flagL f.toA), (idsL d.ids)] _ ⟨⟨_, _, rfl, o2.nc⟩, ⟨_, _, rfl, o5.nc⟩, ⟨_, _, rfl, o8.nc⟩, trivial⟩)
  case o10 =>
    intro ptrs w' hw hE
    obtain ⟨⟨ge9, h9, o9⟩, ⟨ao8, cap8, h8, o8⟩, _⟩ := hE
    exact (by have z0 := pathL_len f.pw f.pn; have z1 := flagL_len f.toA; have z2 := idsL_len d.ids hids; exact opE_call (rowE B ((List.flatten [(pathL f.pw f.pn), (flagL f.toA), (idsL d.ids)]))) rfl _ 22 Try.call22 rfl rfl _ rfl [.slice (some ⟨ge9, 0, none⟩) ([(pathL f.pw f.pn), (flagL f.toA), (idsL d.ids)]).length ([(pathL f.pw f.pn), (flagL f.toA), (idsL d.ids)]).length] (congrArg (fun v => [v]) h9) (concat_E B ge9 [(pathL f.pw f.pn), (flagL f.toA), (idsL d.ids)] _ (Nat.le_trans hB (GG.drew.trans hw).size) o9 (Nat.le_of_ble_eq_true rfl) (by simp only [List.flatten_cons, List.flatten_nil, List.length_append, List.length_nil]; omega)))
  intro ptrs w4 GD hx
  simp only [List.drop_succ_cons, List.drop_zero]
  replace kg1 := GD.has kg1
  replace GG := GG.drew.trans GD
  obtain ⟨_, _, _, _, ⟨ao10x, cap10x, h10, o10x⟩, _⟩ := hx
  simp only [h10]
  clear GD
  refine mv 2 (.slice ao10x ((List.flatten [(pathL f.pw f.pn), (flagL f.toA), (idsL d.ids)])).length cap10x) (wpList_nil (then_n (wp_ret (blk_r (then_r ?_)))))
  refine bodyPost_ret (results_tmp Try.results24 _ _ _) rfl ?_
  exact ⟨_, rfl, GG, _, _, rfl, o10x⟩
set_option maxRecDepth 100000 in
set_option maxHeartbeats 4000000 in
theorem bytesOf_8 (B : Nat) (f : Fr) (d : FD) (w : World) (hB : B ≤ w.heap.size) (ha : okI f.a) (hb : okI f.b) (hop : okN f.op) (hpw : okI f.pw) (hpn : okN f.pn) (tro : Option Addr) (trc : Nat) (Htr : XC w 1 tro trc d.tr.length (d.tr.map (Value.int .i64 ·))) (htr : ∀ x ∈ d.tr, okN x) (hltr : d.tr.length ≤ 1000) : Calls Try.prog 24 #[.iface 81 (.agg (c93 f.a f.b f.op f.pw f.pn f.toA ⟨tro, d.tr.length, trc⟩))] w (RetE (rowE B (List.flatten [(idL f.a), (idL f.b), (List.flatMap nI [f.op]), (pathL f.pw f.pn), (flagL f.toA), (trailL d.tr)])) w) := by
  refine s_enterR Try.func24 rfl Try.ntmps24 [.iface 81 (.agg (c93 f.a f.b f.op f.pw f.pn f.toA ⟨tro, d.tr.length, trc⟩))] ?_
  intro U h; simp only [List.length_cons, List.length_nil, List.cons_append, List.nil_append, Nat.reduceAdd, Nat.reduceSub, List.reduceReplicate] at h; subst h
  have GG := Gro.refl w
  refine wp_seq (wp_region_lit (mv 2 (.slice none 0 0) (wpList_nil (then_n (wp_seq (wp_seq (wp_region_lit (mv 15 (.iface 81 (.agg (c93 f.a f.b f.op f.pw f.pn f.toA ⟨tro, d.tr.length, trc⟩))) (wpList_nil (then_n (wp_block (wp_seq (wp_region_lit (sv 16 (.tuple #[.agg (c79 0 0 0 0 zF), .bool false]) (run_ta _ 23 67 true rfl _ _ rfl) ?_))))))))))))))
  simp only [z0, z1]
  refine mv 17 (.bool false) (mv 18 (.agg (c79 0 0 0 0 zF)) (wpList_nil (then_n (wp_cond_false rfl (wp_seq (wp_region_lit (sv 29 (.tuple #[.agg (c81 0 0 0 0 0 Sl.nil), .bool false]) (run_ta _ 23 69 true rfl _ _ rfl) ?_)))))))
  simp only [z0, z1]
  refine mv 30 (.bool false) (mv 31 (.agg (c81 0 0 0 0 0 Sl.nil)) (wpList_nil (then_n (wp_cond_false rfl (wp_seq (wp_region_lit (sv 48 (.tuple #[.agg (c83 0 0 0 0 0), .bool false]) (run_ta _ 23 71 true rfl _ _ rfl) ?_)))))))
  simp only [z0, z1]
  refine mv 49 (.bool false) (mv 50 (.agg (c83 0 0 0 0 0)) (wpList_nil (then_n (wp_cond_false rfl (wp_seq (wp_region_lit (sv 63 (.tuple #[.agg (c85 zF 0 zF zF Sl.nil), .bool false]) (run_ta _ 23 73 true rfl _ _ rfl) ?_)))))))
  simp only [z0, z1]
  refine mv 64 (.bool false) (mv 65 (.agg (c85 zF 0 zF zF Sl.nil)) (wpList_nil (then_n (wp_cond_false rfl (wp_seq (wp_region_lit (sv 78 (.tuple #[.agg (c87 zF 0), .bool false]) (run_ta _ 23 75 true rfl _ _ rfl) ?_)))))))
  simp only [z0, z1]
  refine mv 79 (.bool false) (mv 80 (.agg (c87 zF 0)) (wpList_nil (then_n (wp_cond_false rfl (wp_seq (wp_region_lit (sv 84 (.tuple #[.agg (c89 zF 0 false), .bool false]) (run_ta _ 23 77 true rfl _ _ rfl) ?_)))))))
  simp only [z0, z1]
  refine mv 85 (.bool false) (mv 86 (.agg (c89 zF 0 false)) (wpList_nil (then_n (wp_cond_false rfl (wp_seq (wp_region_lit (sv 95 (.tuple #[.agg (c91 zF 0 false Sl.nil), .bool false]) (run_ta _ 23 79 true rfl _ _ rfl) ?_)))))))
  simp only [z0, z1]
  refine mv 96 (.bool false) (mv 97 (.agg (c91 zF 0 false Sl.nil)) (wpList_nil (then_n (wp_cond_false rfl (wp_seq (wp_region_lit (sv 109 (.tuple #[.agg (c93 f.a f.b f.op f.pw f.pn f.toA ⟨tro, d.tr.length, trc⟩), .bool true]) (run_ta _ 23 81 true rfl _ _ rfl) ?_)))))))
  simp only [z0, z1]
  refine mv 110 (.bool true) (mv 111 (.agg (c93 f.a f.b f.op f.pw f.pn f.toA ⟨tro, d.tr.length, trc⟩)) (wpList_nil (then_n (wp_cond_true rfl (wp_seq (wp_region_lit ?_))))))
  refine s_alloc 10 rfl rfl 81 rfl _ zv93 _ rfl ?_
  intro w1 g1 G eg1 kg1
  have bg1 := size_base GG eg1
  replace GG := GG.trans G
  clear G eg1
  simp only [z0, z1]
  refine s_store rfl rfl 81 _ _ rfl g1 0 rfl (.agg (c93 f.a f.b f.op f.pw f.pn f.toA ⟨tro, d.tr.length, trc⟩)) rfl 81 _ kg1 (c93 f.a f.b f.op f.pw f.pn f.toA ⟨tro, d.tr.length, trc⟩) rfl (by kernel_rfl) (Nat.le_of_ble_eq_true rfl) (by kernel_rfl) (c93 f.a f.b f.op f.pw f.pn f.toA ⟨tro, d.tr.length, trc⟩) (by kernel_rfl) ?_
  intro w3 S
  replace GG := GG.store S bg1
  replace kg1 := S.new
  clear S
  refine wpList_nil (then_n (wp_seq ?_))
  refine wp_region_exA (A := ?A) 19 [(0, 112), (1, 113), (2, 114), (3, 115), (4, 116), (5, 117), (6, 118), (7, 119), (8, 120), (9, 121), (10, 122), (11, 123), (12, 124), (13, 125), (14, 126), (15, 127), (16, 128), (17, 129), (18, 130)] [.val (.pointer (some ⟨g1, 0, none⟩)), .val (.slice (some ⟨g1, 0, none⟩) 16 16), .val (.pointer (some ⟨g1, 16, none⟩)), .val (.slice (some ⟨g1, 16, none⟩) 16 16), .val (.pointer (some ⟨g1, 32, none⟩)), .val (.int .i64 f.op), (intsE [f.op]), (rowE B (List.flatMap nI [f.op])), .val (.pointer (some ⟨g1, 33, none⟩)), .val (.agg (c25 f.pw f.pn)), (rowE B (pathL f.pw f.pn)), .val (.pointer (some ⟨g1, 50, none⟩)), .val (.bool f.toA), (rowE B (flagL f.toA)), .val (.pointer (some ⟨g1, 51, none⟩)), .val (.slice tro d.tr.length trc), (rowE B (trailL d.tr)), (textsE [(idL f.a), (idL f.b), (List.flatMap nI [f.op]), (pathL f.pw f.pn), (flagL f.toA), (trailL d.tr)]), (rowE B ((List.flatten [(idL f.a), (idL f.b), (List.flatMap nI [f.op]), (pathL f.pw f.pn), (flagL f.toA), (trailL d.tr)])))] follows (by kernel_rfl) rfl ?hA (opsA_cons ?o0 (opsA_cons ?o1 (opsA_cons ?o2 (opsA_cons ?o3 (opsA_cons ?o4 (opsA_cons ?o5 (opsA_cons ?o6 (opsA_cons ?o7 (opsA_cons ?o8 (opsA_cons ?o9 (opsA_cons ?o10 (opsA_cons ?o11 (opsA_cons ?o12 (opsA_cons ?o13 (opsA_cons ?o14 (opsA_cons ?o15 (opsA_cons ?o16 (opsA_cons ?o17 (opsA_cons ?o18 opsA_nil))))))))))))))))))) ?rest
  case hA =>
    intro ptrs
    simp only [full, foldSlots, filledE, postE, List.foldl_cons, List.foldl_nil, List.getD_cons_zero, List.getD_cons_succ, fill_val, fill_row, fill_ints, fill_texts, List.set_cons_zero, List.set_cons_succ]
    exact rfl
  case o0 => exact fun _ _ hw _ => opE_value (v := .pointer (some ⟨g1, 0, none⟩)) rfl (run_fld 81 _ 0 rfl _ _ rfl _)
  case o1 => exact fun _ _ hw _ => opE_value (v := .slice (some ⟨g1, 0, none⟩) 16 16) rfl (run_arr_at _ rfl _ _ rfl _)
  case o2 => exact fun _ _ hw _ => opE_value (v := .pointer (some ⟨g1, 16, none⟩)) rfl (run_fld 81 _ 1 rfl _ _ rfl _)
  case o3 => exact fun _ _ hw _ => opE_value (v := .slice (some ⟨g1, 16, none⟩) 16 16) rfl (run_arr_at _ rfl _ _ rfl _)
  case o4 => exact fun _ _ hw _ => opE_value (v := .pointer (some ⟨g1, 32, none⟩)) rfl (run_fld 81 _ 2 rfl _ _ rfl _)
  case o5 => exact fun _ _ hw _ => opE_value (v := .int .i64 f.op) rfl (run_ldc 3 _ rfl g1 32 rfl 81 _ (hw.has kg1) (na3 _) _ rfl)
  case o6 =>
    intro ptrs w' hw hE
    exact opE_new (intsE [f.op]) rfl (run_bsl 121 1 _ rfl [(0, .int .i64 f.op)] rfl (by kernel_rfl)) (gro_alloc _ _) (ints_new [f.op] _)
  case o7 =>
    intro ptrs w' hw hE
    obtain ⟨⟨ge6, h6, o6⟩, _⟩ := hE
    exact opE_call (rowE B (List.flatMap nI [f.op])) rfl _ 37 Try.call37 rfl rfl _ rfl [.slice (some ⟨ge6, 0, none⟩) ([f.op]).length ([f.op]).length] (congrArg (fun v => [v]) h6) (number_E B ge6 [f.op] _ (Nat.le_trans hB (GG.drew.trans hw).size) o6 (ok1 hop) (Nat.le_of_ble_eq_true rfl))
  case o8 => exact fun _ _ hw _ => opE_value (v := .pointer (some ⟨g1, 33, none⟩)) rfl (run_fld 81 _ 3 rfl _ _ rfl _)
  case o9 => exact fun _ _ hw _ => opE_value (v := .agg (c25 f.pw f.pn)) rfl (run_lda 29 _ rfl g1 33 17 rfl 81 _ (hw.has kg1) _ Try.underlying29 rfl si25 _)
  case o10 =>
    intro ptrs w' hw hE
    obtain ⟨⟨ao7, cap7, h7, o7⟩, _⟩ := hE
    exact opE_call (rowE B (pathL f.pw f.pn)) rfl _ 39 Try.call39 rfl rfl _ rfl [.agg (c25 f.pw f.pn)] rfl (path_E B f.pw f.pn _ (Nat.le_trans hB (GG.drew.trans hw).size) hpw hpn)
  case o11 => exact fun _ _ hw _ => opE_value (v := .pointer (some ⟨g1, 50, none⟩)) rfl (run_fld 81 _ 4 rfl _ _ rfl _)
  case o12 => exact fun _ _ hw _ => opE_value (v := .bool f.toA) rfl (run_ldc 4 _ rfl g1 50 rfl 81 _ (hw.has kg1) (na4 _) _ rfl)
  case o13 =>
    intro ptrs w' hw hE
    obtain ⟨⟨ao10, cap10, h10, o10⟩, _⟩ := hE
    exact opE_call (rowE B (flagL f.toA)) rfl _ 41 Try.call41 rfl rfl _ rfl [.bool f.toA] rfl (flag_E B f.toA _ (Nat.le_trans hB (GG.drew.trans hw).size))
  case o14 => exact fun _ _ hw _ => opE_value (v := .pointer (some ⟨g1, 51, none⟩)) rfl (run_fld 81 _ 5 rfl _ _ rfl _)
  case o15 => exact fun _ _ hw _ => opE_value (v := .slice tro d.tr.length trc) rfl (run_ldc 32 _ rfl g1 51 rfl 81 _ (hw.has kg1) (na28 _) _ rfl)
  case o16 =>
    intro ptrs w' hw hE
    obtain ⟨⟨ao13, cap13, h13, o13⟩, _⟩ := hE
    exact opE_call (rowE B (trailL d.tr)) rfl _ 40 Try.call40 rfl rfl _ rfl [.slice tro d.tr.length trc] rfl (trail_E B _ _ d.tr _ (Nat.le_trans hB (GG.drew.trans hw).size) (Htr.gro (GG.drew.trans hw)) htr hltr)
  case o17 =>
    intro ptrs w' hw hE
    obtain ⟨⟨ao7, cap7, h7, o7⟩, ⟨ao10, cap10, h10, o10⟩, ⟨ao13, cap13, h13, o13⟩, ⟨ao16, cap16, h16, o16⟩, _⟩ := hE
    exact opE_new (textsE [(idL f.a), (idL f.b), (List.flatMap nI [f.op]), (pathL f.pw f.pn), (flagL f.toA), (trailL d.tr)]) rfl (run_bsl 100 6 _ rfl [(0, .slice (some ⟨g1, 0, none⟩) 16 16), (1, .slice (some ⟨g1, 16, none⟩) 16 16), (2, .slice ao7 (List.flatMap nI [f.op]).length cap7), (3, .slice ao10 (pathL f.pw f.pn).length cap10), (4, .slice ao13 (flagL f.toA).length cap13), (5, .slice ao16 (trailL d.tr).length cap16)] (by show [(0, .slice (some ⟨g1, 0, none⟩) 16 16), (1, .slice (some ⟨g1, 16, none⟩) 16 16), (2, ptrs 7), (3, ptrs 10), (4, ptrs 13), (5, ptrs 16)] = _; rw [h7, h10, h13, h16]) (by kernel_rfl)) (gro_alloc _ _) (texts_new [.slice (some ⟨g1, 0, none⟩) 16 16, .slice (some ⟨g1, 16, none⟩) 16 16, .slice ao7 (List.flatMap nI [f.op]).length cap7, .slice ao10 (pathL f.pw f.pn).length cap10, .slice ao13 (flagL f.toA).length cap13, .slice ao16 (trailL d.tr).length cap16] [(idL f.a), (idL f.b), (List.flatMap nI [f.op]), (pathL f.pw f.pn), (flagL f.toA), (trailL d.tr)] _ ⟨⟨_, _, rfl, (nc_id (hw.has kg1) f.a ha (by kernel_rfl))⟩, ⟨_, _, rfl, (nc_id (hw.has kg1) f.b hb (by kernel_rfl))⟩, ⟨_, _, rfl, o7.nc⟩, ⟨_, _, rfl, o10.nc⟩, ⟨_, _, rfl, o13.nc⟩, ⟨_, _, rfl, o16.nc⟩, trivial⟩)
  case o18 =>
    intro ptrs w' hw hE
    obtain ⟨⟨ge17, h17, o17⟩, ⟨ao16, cap16, h16, o16⟩, _⟩ := hE
    exact (by have z0 := idL_len f.a; have z1 := idL_len f.b; have z2 := n1_len f.op; have z3 := pathL_len f.pw f.pn; have z4 := flagL_len f.toA; have z5 := trailL_len d.tr; exact opE_call (rowE B ((List.flatten [(idL f.a), (idL f.b), (List.flatMap nI [f.op]), (pathL f.pw f.pn), (flagL f.toA), (trailL d.tr)]))) rfl _ 22 Try.call22 rfl rfl _ rfl [.slice (some ⟨ge17, 0, none⟩) ([(idL f.a), (idL f.b), (List.flatMap nI [f.op]), (pathL f.pw f.pn), (flagL f.toA), (trailL d.tr)]).length ([(idL f.a), (idL f.b), (List.flatMap nI [f.op]), (pathL f.pw f.pn), (flagL f.toA), (trailL d.tr)]).length] (congrArg (fun v => [v]) h17) (concat_E B ge17 [(idL f.a), (idL f.b), (List.flatMap nI [f.op]), (pathL f.pw f.pn), (flagL f.toA), (trailL d.tr)] _ (Nat.le_trans hB (GG.drew.trans hw).size) o17 (Nat.le_of_ble_eq_true rfl) (by simp only [List.flatten_cons, List.flatten_nil, List.length_append, List.length_nil]; omega)))
  intro ptrs w4 GD hx
  simp only [List.drop_succ_cons, List.drop_zero]
  replace kg1 := GD.has kg1
  replace GG := GG.drew.trans GD
  obtain ⟨_, _, _, _, _, _, ⟨ao18x, cap18x, h18, o18x⟩, _⟩ := hx
  simp only [h18]
  clear GD
  refine mv 2 (.slice ao18x ((List.flatten [(idL f.a), (idL f.b), (List.flatMap nI [f.op]), (pathL f.pw f.pn), (flagL f.toA), (trailL d.tr)])).length cap18x) (wpList_nil (then_n (wp_ret (blk_r (then_r ?_)))))
  refine bodyPost_ret (results_tmp Try.results24 _ _ _) rfl ?_
  exact ⟨_, rfl, GG, _, _, rfl, o18x⟩
set_option maxRecDepth 100000 in
set_option maxHeartbeats 4000000 in
theorem bytesOf_9 (B : Nat) (f : Fr) (_d : FD) (w : World) (hB : B ≤ w.heap.size) (ha : okI f.a) (hn : okN f.n) : Calls Try.prog 24 #[.iface 83 (.agg (c95 f.a f.n))] w (RetE (rowE B (List.flatten [(idL f.a), (List.flatMap nI [f.n])])) w) := by
  refine s_enterR Try.func24 rfl Try.ntmps24 [.iface 83 (.agg (c95 f.a f.n))] ?_
  intro U h; simp only [List.length_cons, List.length_nil, List.cons_append, List.nil_append, Nat.reduceAdd, Nat.reduceSub, List.reduceReplicate] at h; subst h
  have GG := Gro.refl w
  refine wp_seq (wp_region_lit (mv 2 (.slice none 0 0) (wpList_nil (then_n (wp_seq (wp_seq (wp_region_lit (mv 15 (.iface 83 (.agg (c95 f.a f.n))) (wpList_nil (then_n (wp_block (wp_seq (wp_region_lit (sv 16 (.tuple #[.agg (c79 0 0 0 0 zF), .bool false]) (run_ta _ 23 67 true rfl _ _ rfl) ?_))))))))))))))
  simp only [z0, z1]
  refine mv 17 (.bool false) (mv 18 (.agg (c79 0 0 0 0 zF)) (wpList_nil (then_n (wp_cond_false rfl (wp_seq (wp_region_lit (sv 29 (.tuple #[.agg (c81 0 0 0 0 0 Sl.nil), .bool false]) (run_ta _ 23 69 true rfl _ _ rfl) ?_)))))))
  simp only [z0, z1]
  refine mv 30 (.bool false) (mv 31 (.agg (c81 0 0 0 0 0 Sl.nil)) (wpList_nil (then_n (wp_cond_false rfl (wp_seq (wp_region_lit (sv 48 (.tuple #[.agg (c83 0 0 0 0 0), .bool false]) (run_ta _ 23 71 true rfl _ _ rfl) ?_)))))))
  simp only [z0, z1]
  refine mv 49 (.bool false) (mv 50 (.agg (c83 0 0 0 0 0)) (wpList_nil (then_n (wp_cond_false rfl (wp_seq (wp_region_lit (sv 63 (.tuple #[.agg (c85 zF 0 zF zF Sl.nil), .bool false]) (run_ta _ 23 73 true rfl _ _ rfl) ?_)))))))
  simp only [z0, z1]
  refine mv 64 (.bool false) (mv 65 (.agg (c85 zF 0 zF zF Sl.nil)) (wpList_nil (then_n (wp_cond_false rfl (wp_seq (wp_region_lit (sv 78 (.tuple #[.agg (c87 zF 0), .bool false]) (run_ta _ 23 75 true rfl _ _ rfl) ?_)))))))
  simp only [z0, z1]
  refine mv 79 (.bool false) (mv 80 (.agg (c87 zF 0)) (wpList_nil (then_n (wp_cond_false rfl (wp_seq (wp_region_lit (sv 84 (.tuple #[.agg (c89 zF 0 false), .bool false]) (run_ta _ 23 77 true rfl _ _ rfl) ?_)))))))
  simp only [z0, z1]
  refine mv 85 (.bool false) (mv 86 (.agg (c89 zF 0 false)) (wpList_nil (then_n (wp_cond_false rfl (wp_seq (wp_region_lit (sv 95 (.tuple #[.agg (c91 zF 0 false Sl.nil), .bool false]) (run_ta _ 23 79 true rfl _ _ rfl) ?_)))))))
  simp only [z0, z1]
  refine mv 96 (.bool false) (mv 97 (.agg (c91 zF 0 false Sl.nil)) (wpList_nil (then_n (wp_cond_false rfl (wp_seq (wp_region_lit (sv 109 (.tuple #[.agg (c93 zF zF 0 zF 0 false Sl.nil), .bool false]) (run_ta _ 23 81 true rfl _ _ rfl) ?_)))))))
  simp only [z0, z1]
  refine mv 110 (.bool false) (mv 111 (.agg (c93 zF zF 0 zF 0 false Sl.nil)) (wpList_nil (then_n (wp_cond_false rfl (wp_seq (wp_region_lit (sv 131 (.tuple #[.agg (c95 f.a f.n), .bool true]) (run_ta _ 23 83 true rfl _ _ rfl) ?_)))))))
  simp only [z0, z1]
  refine mv 132 (.bool true) (mv 133 (.agg (c95 f.a f.n)) (wpList_nil (then_n (wp_cond_true rfl (wp_seq (wp_region_lit ?_))))))
  refine s_alloc 11 rfl rfl 83 rfl _ zv95 _ rfl ?_
  intro w1 g1 G eg1 kg1
  have bg1 := size_base GG eg1
  replace GG := GG.trans G
  clear G eg1
  simp only [z0, z1]
  refine s_store rfl rfl 83 _ _ rfl g1 0 rfl (.agg (c95 f.a f.n)) rfl 83 _ kg1 (c95 f.a f.n) rfl (by kernel_rfl) (Nat.le_of_ble_eq_true rfl) (by kernel_rfl) (c95 f.a f.n) (by kernel_rfl) ?_
  intro w3 S
  replace GG := GG.store S bg1
  replace kg1 := S.new
  clear S
  refine wpList_nil (then_n (wp_seq ?_))
  refine wp_region_exA (A := ?A) 8 [(0, 134), (1, 135), (2, 136), (3, 137), (4, 138), (5, 139), (6, 140), (7, 141)] [.val (.pointer (some ⟨g1, 0, none⟩)), .val (.slice (some ⟨g1, 0, none⟩) 16 16), .val (.pointer (some ⟨g1, 16, none⟩)), .val (.int .i64 f.n), (intsE [f.n]), (rowE B (List.flatMap nI [f.n])), (textsE [(idL f.a), (List.flatMap nI [f.n])]), (rowE B ((List.flatten [(idL f.a), (List.flatMap nI [f.n])])))] follows (by kernel_rfl) rfl ?hA (opsA_cons ?o0 (opsA_cons ?o1 (opsA_cons ?o2 (opsA_cons ?o3 (opsA_cons ?o4 (opsA_cons ?o5 (opsA_cons ?o6 (opsA_cons ?o7 opsA_nil)))))))) ?rest
  case hA =>
    intro ptrs
    simp only [full, foldSlots, filledE, postE, List.foldl_cons, List.foldl_nil, List.getD_cons_zero, List.getD_cons_succ, fill_val, fill_row, fill_ints, fill_texts, List.set_cons_zero, List.set_cons_succ]
    exact rfl
  case o0 => exact fun _ _ hw _ => opE_value (v := .pointer (some ⟨g1, 0, none⟩)) rfl (run_fld 83 _ 0 rfl _ _ rfl _)
  case o1 => exact fun _ _ hw _ => opE_value (v := .slice (some ⟨g1, 0, none⟩) 16 16) rfl (run_arr_at _ rfl _ _ rfl _)
  case o2 => exact fun _ _ hw _ => opE_value (v := .pointer (some ⟨g1, 16, none⟩)) rfl (run_fld 83 _ 1 rfl _ _ rfl _)
  case o3 => exact fun _ _ hw _ => opE_value (v := .int .i64 f.n) rfl (run_ldc 2 _ rfl g1 16 rfl 83 _ (hw.has kg1) (na2 _) _ rfl)
  case o4 =>
    intro ptrs w' hw hE
    exact opE_new (intsE [f.n]) rfl (run_bsl 121 1 _ rfl [(0, .int .i64 f.n)] rfl (by kernel_rfl)) (gro_alloc _ _) (ints_new [f.n] _)
  case o5 =>
    intro ptrs w' hw hE
    obtain ⟨⟨ge4, h4, o4⟩, _⟩ := hE
    exact opE_call (rowE B (List.flatMap nI [f.n])) rfl _ 37 Try.call37 rfl rfl _ rfl [.slice (some ⟨ge4, 0, none⟩) ([f.n]).length ([f.n]).length] (congrArg (fun v => [v]) h4) (number_E B ge4 [f.n] _ (Nat.le_trans hB (GG.drew.trans hw).size) o4 (ok1 hn) (Nat.le_of_ble_eq_true rfl))
  case o6 =>
    intro ptrs w' hw hE
    obtain ⟨⟨ao5, cap5, h5, o5⟩, _⟩ := hE
    exact opE_new (textsE [(idL f.a), (List.flatMap nI [f.n])]) rfl (run_bsl 100 2 _ rfl [(0, .slice (some ⟨g1, 0, none⟩) 16 16), (1, .slice ao5 (List.flatMap nI [f.n]).length cap5)] (by show [(0, .slice (some ⟨g1, 0, none⟩) 16 16), (1, ptrs 5)] = _; rw [h5]) (by kernel_rfl)) (gro_alloc _ _) (texts_new [.slice (some ⟨g1, 0, none⟩) 16 16, .slice ao5 (List.flatMap nI [f.n]).length cap5] [(idL f.a), (List.flatMap nI [f.n])] _ ⟨⟨_, _, rfl, (nc_id (hw.has kg1) f.a ha (by kernel_rfl))⟩, ⟨_, _, rfl, o5.nc⟩, trivial⟩)
  case o7 =>
    intro ptrs w' hw hE
    obtain ⟨⟨ge6, h6, o6⟩, ⟨ao5, cap5, h5, o5⟩, _⟩ := hE
    exact (by have z0 := idL_len f.a; have z1 := n1_len f.n; exact opE_call (rowE B ((List.flatten [(idL f.a), (List.flatMap nI [f.n])]))) rfl _ 22 Try.call22 rfl rfl _ rfl [.slice (some ⟨ge6, 0, none⟩) ([(idL f.a), (List.flatMap nI [f.n])]).length ([(idL f.a), (List.flatMap nI [f.n])]).length] (congrArg (fun v => [v]) h6) (concat_E B ge6 [(idL f.a), (List.flatMap nI [f.n])] _ (Nat.le_trans hB (GG.drew.trans hw).size) o6 (Nat.le_of_ble_eq_true rfl) (by simp only [List.flatten_cons, List.flatten_nil, List.length_append, List.length_nil]; omega)))
  intro ptrs w4 GD hx
  simp only [List.drop_succ_cons, List.drop_zero]
  replace kg1 := GD.has kg1
  replace GG := GG.drew.trans GD
  obtain ⟨_, _, _, ⟨ao7x, cap7x, h7, o7x⟩, _⟩ := hx
  simp only [h7]
  clear GD
  refine mv 2 (.slice ao7x ((List.flatten [(idL f.a), (List.flatMap nI [f.n])])).length cap7x) (wpList_nil (then_n (wp_ret (blk_r (then_r ?_)))))
  refine bodyPost_ret (results_tmp Try.results24 _ _ _) rfl ?_
  exact ⟨_, rfl, GG, _, _, rfl, o7x⟩
set_option maxRecDepth 100000 in
set_option maxHeartbeats 4000000 in
theorem bytesOf_10 (B : Nat) (f : Fr) (d : FD) (w : World) (hB : B ≤ w.heap.size) (ha : okI f.a) (hb : okI f.b) (hn : okN f.n) (hop : okN f.op) (httl : okN f.ttl) (hkey : okI f.key) (hvn : okN f.vn) (hvw : okI f.vw) (vlo : Option Addr) (vlc : Nat) (Hval : NC w .u8 vlo vlc d.val) (hlval : d.val.length ≤ 5000) (txo : Option Addr) (txc : Nat) (Htx : NC w .u8 txo txc d.tx) (hltx : d.tx.length ≤ 5000) : Calls Try.prog 24 #[.iface 85 (.agg (c97 f.a f.b f.n f.op f.ttl f.key f.vn f.vw ⟨vlo, d.val.length, vlc⟩ ⟨txo, d.tx.length, txc⟩))] w (RetE (rowE B (List.flatten [(idL f.a), (idL f.b), (List.flatMap nI [f.n, f.op, f.ttl]), (itemL f.key f.vn f.vw d.val), (putT [d.tx])])) w) := by
  refine s_enterR Try.func24 rfl Try.ntmps24 [.iface 85 (.agg (c97 f.a f.b f.n f.op f.ttl f.key f.vn f.vw ⟨vlo, d.val.length, vlc⟩ ⟨txo, d.tx.length, txc⟩))] ?_
  intro U h; simp only [List.length_cons, List.length_nil, List.cons_append, List.nil_append, Nat.reduceAdd, Nat.reduceSub, List.reduceReplicate] at h; subst h
  have GG := Gro.refl w
  refine wp_seq (wp_region_lit (mv 2 (.slice none 0 0) (wpList_nil (then_n (wp_seq (wp_seq (wp_region_lit (mv 15 (.iface 85 (.agg (c97 f.a f.b f.n f.op f.ttl f.key f.vn f.vw ⟨vlo, d.val.length, vlc⟩ ⟨txo, d.tx.length, txc⟩))) (wpList_nil (then_n (wp_block (wp_seq (wp_region_lit (sv 16 (.tuple #[.agg (c79 0 0 0 0 zF), .bool false]) (run_ta _ 23 67 true rfl _ _ rfl) ?_))))))))))))))
  simp only [z0, z1]
  refine mv 17 (.bool false) (mv 18 (.agg (c79 0 0 0 0 zF)) (wpList_nil (then_n (wp_cond_false rfl (wp_seq (wp_region_lit (sv 29 (.tuple #[.agg (c81 0 0 0 0 0 Sl.nil), .bool false]) (run_ta _ 23 69 true rfl _ _ rfl) ?_)))))))
  simp only [z0, z1]
  refine mv 30 (.bool false) (mv 31 (.agg (c81 0 0 0 0 0 Sl.nil)) (wpList_nil (then_n (wp_cond_false rfl (wp_seq (wp_region_lit (sv 48 (.tuple #[.agg (c83 0 0 0 0 0), .bool false]) (run_ta _ 23 71 true rfl _ _ rfl) ?_)))))))
  simp only [z0, z1]
  refine mv 49 (.bool false) (mv 50 (.agg (c83 0 0 0 0 0)) (wpList_nil (then_n (wp_cond_false rfl (wp_seq (wp_region_lit (sv 63 (.tuple #[.agg (c85 zF 0 zF zF Sl.nil), .bool false]) (run_ta _ 23 73 true rfl _ _ rfl) ?_)))))))
  simp only [z0, z1]
  refine mv 64 (.bool false) (mv 65 (.agg (c85 zF 0 zF zF Sl.nil)) (wpList_nil (then_n (wp_cond_false rfl (wp_seq (wp_region_lit (sv 78 (.tuple #[.agg (c87 zF 0), .bool false]) (run_ta _ 23 75 true rfl _ _ rfl) ?_)))))))
  simp only [z0, z1]
  refine mv 79 (.bool false) (mv 80 (.agg (c87 zF 0)) (wpList_nil (then_n (wp_cond_false rfl (wp_seq (wp_region_lit (sv 84 (.tuple #[.agg (c89 zF 0 false), .bool false]) (run_ta _ 23 77 true rfl _ _ rfl) ?_)))))))
  simp only [z0, z1]
  refine mv 85 (.bool false) (mv 86 (.agg (c89 zF 0 false)) (wpList_nil (then_n (wp_cond_false rfl (wp_seq (wp_region_lit (sv 95 (.tuple #[.agg (c91 zF 0 false Sl.nil), .bool false]) (run_ta _ 23 79 true rfl _ _ rfl) ?_)))))))
  simp only [z0, z1]
  refine mv 96 (.bool false) (mv 97 (.agg (c91 zF 0 false Sl.nil)) (wpList_nil (then_n (wp_cond_false rfl (wp_seq (wp_region_lit (sv 109 (.tuple #[.agg (c93 zF zF 0 zF 0 false Sl.nil), .bool false]) (run_ta _ 23 81 true rfl _ _ rfl) ?_)))))))
  simp only [z0, z1]
  refine mv 110 (.bool false) (mv 111 (.agg (c93 zF zF 0 zF 0 false Sl.nil)) (wpList_nil (then_n (wp_cond_false rfl (wp_seq (wp_region_lit (sv 131 (.tuple #[.agg (c95 zF 0), .bool false]) (run_ta _ 23 83 true rfl _ _ rfl) ?_)))))))
  simp only [z0, z1]
  refine mv 132 (.bool false) (mv 133 (.agg (c95 zF 0)) (wpList_nil (then_n (wp_cond_false rfl (wp_seq (wp_region_lit (sv 142 (.tuple #[.agg (c97 f.a f.b f.n f.op f.ttl f.key f.vn f.vw ⟨vlo, d.val.length, vlc⟩ ⟨txo, d.tx.length, txc⟩), .bool true]) (run_ta _ 23 85 true rfl _ _ rfl) ?_)))))))
  simp only [z0, z1]
  refine mv 143 (.bool true) (mv 144 (.agg (c97 f.a f.b f.n f.op f.ttl f.key f.vn f.vw ⟨vlo, d.val.length, vlc⟩ ⟨txo, d.tx.length, txc⟩)) (wpList_nil (then_n (wp_cond_true rfl (wp_seq (wp_region_lit ?_))))))
  refine s_alloc 12 rfl rfl 85 rfl _ zv97 _ rfl ?_
  intro w1 g1 G eg1 kg1
  have bg1 := size_base GG eg1
  replace GG := GG.trans G
  clear G eg1
  simp only [z0, z1]
  refine s_store rfl rfl 85 _ _ rfl g1 0 rfl (.agg (c97 f.a f.b f.n f.op f.ttl f.key f.vn f.vw ⟨vlo, d.val.length, vlc⟩ ⟨txo, d.tx.length, txc⟩)) rfl 85 _ kg1 (c97 f.a f.b f.n f.op f.ttl f.key f.vn f.vw ⟨vlo, d.val.length, vlc⟩ ⟨txo, d.tx.length, txc⟩) rfl (by kernel_rfl) (Nat.le_of_ble_eq_true rfl) (by kernel_rfl) (c97 f.a f.b f.n f.op f.ttl f.key f.vn f.vw ⟨vlo, d.val.length, vlc⟩ ⟨txo, d.tx.length, txc⟩) (by kernel_rfl) ?_
  intro w3 S
  replace GG := GG.store S bg1
  replace kg1 := S.new
  clear S
  refine wpList_nil (then_n (wp_seq ?_))
  refine wp_region_exA (A := ?A) 21 [(0, 145), (1, 146), (2, 147), (3, 148), (4, 149), (5, 150), (6, 151), (7, 152), (8, 153), (9, 154), (10, 155), (11, 156), (12, 157), (13, 158), (14, 159), (15, 160), (16, 161), (17, 162), (18, 163), (19, 164), (20, 165)] [.val (.pointer (some ⟨g1, 0, none⟩)), .val (.slice (some ⟨g1, 0, none⟩) 16 16), .val (.pointer (some ⟨g1, 16, none⟩)), .val (.slice (some ⟨g1, 16, none⟩) 16 16), .val (.pointer (some ⟨g1, 32, none⟩)), .val (.int .i64 f.n), .val (.pointer (some ⟨g1, 33, none⟩)), .val (.int .i64 f.op), .val (.pointer (some ⟨g1, 34, none⟩)), .val (.int .i64 f.ttl), (intsE [f.n, f.op, f.ttl]), (rowE B (List.flatMap nI [f.n, f.op, f.ttl])), .val (.pointer (some ⟨g1, 35, none⟩)), .val (.agg (c34 f.key f.vn f.vw ⟨vlo, d.val.length, vlc⟩)), (rowE B (itemL f.key f.vn f.vw d.val)), .val (.pointer (some ⟨g1, 69, none⟩)), .val (.slice txo d.tx.length txc), (textsE [d.tx]), (rowE B (putT [d.tx])), (textsE [(idL f.a), (idL f.b), (List.flatMap nI [f.n, f.op, f.ttl]), (itemL f.key f.vn f.vw d.val), (putT [d.tx])]), (rowE B ((List.flatten [(idL f.a), (idL f.b), (List.flatMap nI [f.n, f.op, f.ttl]), (itemL f.key f.vn f.vw d.val), (putT [d.tx])])))] follows (by kernel_rfl) rfl ?hA (opsA_cons ?o0 (opsA_cons ?o1 (opsA_cons ?o2 (opsA_cons ?o3 (opsA_cons ?o4 (opsA_cons ?o5 (opsA_cons ?o6 (opsA_cons ?o7 (opsA_cons ?o8 (opsA_cons ?o9 (opsA_cons ?o10 (opsA_cons ?o11 (opsA_cons ?o12 (opsA_cons ?o13 (opsA_cons ?o14 (opsA_cons ?o15 (opsA_cons ?o16 (opsA_cons ?o17 (opsA_cons ?o18 (opsA_cons ?o19 (opsA_cons ?o20 opsA_nil))))))))))))))))))))) ?rest
  case hA =>
    intro ptrs
    simp only [full, foldSlots, filledE, postE, List.foldl_cons, List.foldl_nil, List.getD_cons_zero, List.getD_cons_succ, fill_val, fill_row, fill_ints, fill_texts, List.set_cons_zero, List.set_cons_succ]
    exact rfl
  case o0 => exact fun _ _ hw _ => opE_value (v := .pointer (some ⟨g1, 0, none⟩)) rfl (run_fld 85 _ 0 rfl _ _ rfl _)
  case o1 => exact fun _ _ hw _ => opE_value (v := .slice (some ⟨g1, 0, none⟩) 16 16) rfl (run_arr_at _ rfl _ _ rfl _)
  case o2 => exact fun _ _ hw _ => opE_value (v := .pointer (some ⟨g1, 16, none⟩)) rfl (run_fld 85 _ 1 rfl _ _ rfl _)
  case o3 => exact fun _ _ hw _ => opE_value (v := .slice (some ⟨g1, 16, none⟩) 16 16) rfl (run_arr_at _ rfl _ _ rfl _)
  case o4 => exact fun _ _ hw _ => opE_value (v := .pointer (some ⟨g1, 32, none⟩)) rfl (run_fld 85 _ 2 rfl _ _ rfl _)
  case o5 => exact fun _ _ hw _ => opE_value (v := .int .i64 f.n) rfl (run_ldc 2 _ rfl g1 32 rfl 85 _ (hw.has kg1) (na2 _) _ rfl)
  case o6 => exact fun _ _ hw _ => opE_value (v := .pointer (some ⟨g1, 33, none⟩)) rfl (run_fld 85 _ 3 rfl _ _ rfl _)
  case o7 => exact fun _ _ hw _ => opE_value (v := .int .i64 f.op) rfl (run_ldc 3 _ rfl g1 33 rfl 85 _ (hw.has kg1) (na3 _) _ rfl)
  case o8 => exact fun _ _ hw _ => opE_value (v := .pointer (some ⟨g1, 34, none⟩)) rfl (run_fld 85 _ 4 rfl _ _ rfl _)
  case o9 => exact fun _ _ hw _ => opE_value (v := .int .i64 f.ttl) rfl (run_ldc 3 _ rfl g1 34 rfl 85 _ (hw.has kg1) (na3 _) _ rfl)
  case o10 =>
    intro ptrs w' hw hE
    exact opE_new (intsE [f.n, f.op, f.ttl]) rfl (run_bsl 121 3 _ rfl [(0, .int .i64 f.n), (1, .int .i64 f.op), (2, .int .i64 f.ttl)] rfl (by kernel_rfl)) (gro_alloc _ _) (ints_new [f.n, f.op, f.ttl] _)
  case o11 =>
    intro ptrs w' hw hE
    obtain ⟨⟨ge10, h10, o10⟩, _⟩ := hE
    exact opE_call (rowE B (List.flatMap nI [f.n, f.op, f.ttl])) rfl _ 37 Try.call37 rfl rfl _ rfl [.slice (some ⟨ge10, 0, none⟩) ([f.n, f.op, f.ttl]).length ([f.n, f.op, f.ttl]).length] (congrArg (fun v => [v]) h10) (number_E B ge10 [f.n, f.op, f.ttl] _ (Nat.le_trans hB (GG.drew.trans hw).size) o10 (ok3 hn hop httl) (Nat.le_of_ble_eq_true rfl))
  case o12 => exact fun _ _ hw _ => opE_value (v := .pointer (some ⟨g1, 35, none⟩)) rfl (run_fld 85 _ 5 rfl _ _ rfl _)
  case o13 => exact fun _ _ hw _ => opE_value (v := .agg (c34 f.key f.vn f.vw ⟨vlo, d.val.length, vlc⟩)) rfl (run_lda 38 _ rfl g1 35 34 rfl 85 _ (hw.has kg1) _ Try.underlying38 rfl si34 _)
  case o14 =>
    intro ptrs w' hw hE
    obtain ⟨⟨ao11, cap11, h11, o11⟩, _⟩ := hE
    exact opE_call (rowE B (itemL f.key f.vn f.vw d.val)) rfl _ 43 Try.call43 rfl rfl _ rfl [.agg (c34 f.key f.vn f.vw ⟨vlo, d.val.length, vlc⟩)] rfl (item_E B f.key f.vn f.vw _ _ d.val _ (Nat.le_trans hB (GG.drew.trans hw).size) hkey hvn hvw (Hval.gro (GG.drew.trans hw)) hlval)
  case o15 => exact fun _ _ hw _ => opE_value (v := .pointer (some ⟨g1, 69, none⟩)) rfl (run_fld 85 _ 6 rfl _ _ rfl _)
  case o16 => exact fun _ _ hw _ => opE_value (v := .slice txo d.tx.length txc) rfl (run_ldc 36 _ rfl g1 69 rfl 85 _ (hw.has kg1) (na32 _) _ rfl)
  case o17 =>
    intro ptrs w' hw hE
    exact opE_new (textsE [d.tx]) rfl (run_bsl 100 1 _ rfl [(0, .slice txo d.tx.length txc)] rfl (by kernel_rfl)) (gro_alloc _ _) (texts_new [.slice txo d.tx.length txc] [d.tx] _ ⟨⟨_, _, rfl, (Htx.gro (GG.drew.trans hw))⟩, trivial⟩)
  case o18 =>
    intro ptrs w' hw hE
    obtain ⟨⟨ge17, h17, o17⟩, ⟨ao14, cap14, h14, o14⟩, _⟩ := hE
    exact (by have z0 := hltx; exact opE_call (rowE B (putT [d.tx])) rfl _ 38 Try.call38 rfl rfl _ rfl [.slice (some ⟨ge17, 0, none⟩) ([d.tx]).length ([d.tx]).length] (congrArg (fun v => [v]) h17) (putText_E B ge17 [d.tx] _ (Nat.le_trans hB (GG.drew.trans hw).size) o17 (Nat.le_of_ble_eq_true rfl) (by have := t1_len d.tx; omega)))
  case o19 =>
    intro ptrs w' hw hE
    obtain ⟨⟨ao11, cap11, h11, o11⟩, ⟨ao14, cap14, h14, o14⟩, ⟨ao18, cap18, h18, o18⟩, _⟩ := hE
    exact opE_new (textsE [(idL f.a), (idL f.b), (List.flatMap nI [f.n, f.op, f.ttl]), (itemL f.key f.vn f.vw d.val), (putT [d.tx])]) rfl (run_bsl 100 5 _ rfl [(0, .slice (some ⟨g1, 0, none⟩) 16 16), (1, .slice (some ⟨g1, 16, none⟩) 16 16), (2, .slice ao11 (List.flatMap nI [f.n, f.op, f.ttl]).length cap11), (3, .slice ao14 (itemL f.key f.vn f.vw d.val).length cap14), (4, .slice ao18 (putT [d.tx]).length cap18)] (by show [(0, .slice (some ⟨g1, 0, none⟩) 16 16), (1, .slice (some ⟨g1, 16, none⟩) 16 16), (2, ptrs 11), (3, ptrs 14), (4, ptrs 18)] = _; rw [h11, h14, h18]) (by kernel_rfl)) (gro_alloc _ _) (texts_new [.slice (some ⟨g1, 0, none⟩) 16 16, .slice (some ⟨g1, 16, none⟩) 16 16, .slice ao11 (List.flatMap nI [f.n, f.op, f.ttl]).length cap11, .slice ao14 (itemL f.key f.vn f.vw d.val).length cap14, .slice ao18 (putT [d.tx]).length cap18] [(idL f.a), (idL f.b), (List.flatMap nI [f.n, f.op, f.ttl]), (itemL f.key f.vn f.vw d.val), (putT [d.tx])] _ ⟨⟨_, _, rfl, (nc_id (hw.has kg1) f.a ha (by kernel_rfl))⟩, ⟨_, _, rfl, (nc_id (hw.has kg1) f.b hb (by kernel_rfl))⟩, ⟨_, _, rfl, o11.nc⟩, ⟨_, _, rfl, o14.nc⟩, ⟨_, _, rfl, o18.nc⟩, trivial⟩)
  case o20 =>
    intro ptrs w' hw hE
    obtain ⟨⟨ge19, h19, o19⟩, ⟨ao18, cap18, h18, o18⟩, _⟩ := hE
    exact (by have z0 := idL_len f.a; have z1 := idL_len f.b; have z2 := n3_len f.n f.op f.ttl; have z3 := itemL_len f.key f.vn f.vw d.val; have z4 := t1_len d.tx; exact opE_call (rowE B ((List.flatten [(idL f.a), (idL f.b), (List.flatMap nI [f.n, f.op, f.ttl]), (itemL f.key f.vn f.vw d.val), (putT [d.tx])]))) rfl _ 22 Try.call22 rfl rfl _ rfl [.slice (some ⟨ge19, 0, none⟩) ([(idL f.a), (idL f.b), (List.flatMap nI [f.n, f.op, f.ttl]), (itemL f.key f.vn f.vw d.val), (putT [d.tx])]).length ([(idL f.a), (idL f.b), (List.flatMap nI [f.n, f.op, f.ttl]), (itemL f.key f.vn f.vw d.val), (putT [d.tx])]).length] (congrArg (fun v => [v]) h19) (concat_E B ge19 [(idL f.a), (idL f.b), (List.flatMap nI [f.n, f.op, f.ttl]), (itemL f.key f.vn f.vw d.val), (putT [d.tx])] _ (Nat.le_trans hB (GG.drew.trans hw).size) o19 (Nat.le_of_ble_eq_true rfl) (by simp only [List.flatten_cons, List.flatten_nil, List.length_append, List.length_nil]; omega)))
  intro ptrs w4 GD hx
  simp only [List.drop_succ_cons, List.drop_zero]
  replace kg1 := GD.has kg1
  replace GG := GG.drew.trans GD
  obtain ⟨_, _, _, _, _, _, ⟨ao20x, cap20x, h20, o20x⟩, _⟩ := hx
  simp only [h20]
  clear GD
  refine mv 2 (.slice ao20x ((List.flatten [(idL f.a), (idL f.b), (List.flatMap nI [f.n, f.op, f.ttl]), (itemL f.key f.vn f.vw d.val), (putT [d.tx])])).length cap20x) (wpList_nil (then_n (wp_ret (blk_r (then_r ?_)))))
  refine bodyPost_ret (results_tmp Try.results24 _ _ _) rfl ?_
  exact ⟨_, rfl, GG, _, _, rfl, o20x⟩
set_option maxRecDepth 100000 in
set_option maxHeartbeats 4000000 in
theorem bytesOf_11 (B : Nat) (f : Fr) (d : FD) (w : World) (hB : B ≤ w.heap.size) (hpw : okI f.pw) (hpn : okN f.pn) (hkey : okI f.key) (hvn : okN f.vn) (hvw : okI f.vw) (vlo : Option Addr) (vlc : Nat) (Hval : NC w .u8 vlo vlc d.val) (hlval : d.val.length ≤ 5000) : Calls Try.prog 24 #[.iface 87 (.agg (c99 f.pw f.pn f.toA f.key f.vn f.vw ⟨vlo, d.val.length, vlc⟩))] w (RetE (rowE B (List.flatten [(pathL f.pw f.pn), (flagL f.toA), (itemL f.key f.vn f.vw d.val)])) w) := by
  refine s_enterR Try.func24 rfl Try.ntmps24 [.iface 87 (.agg (c99 f.pw f.pn f.toA f.key f.vn f.vw ⟨vlo, d.val.length, vlc⟩))] ?_
  intro U h; simp only [List.length_cons, List.length_nil, List.cons_append, List.nil_append, Nat.reduceAdd, Nat.reduceSub, List.reduceReplicate] at h; subst h
  have GG := Gro.refl w
  refine wp_seq (wp_region_lit (mv 2 (.slice none 0 0) (wpList_nil (then_n (wp_seq (wp_seq (wp_region_lit (mv 15 (.iface 87 (.agg (c99 f.pw f.pn f.toA f.key f.vn f.vw ⟨vlo, d.val.length, vlc⟩))) (wpList_nil (then_n (wp_block (wp_seq (wp_region_lit (sv 16 (.tuple #[.agg (c79 0 0 0 0 zF), .bool false]) (run_ta _ 23 67 true rfl _ _ rfl) ?_))))))))))))))
  simp only [z0, z1]
  refine mv 17 (.bool false) (mv 18 (.agg (c79 0 0 0 0 zF)) (wpList_nil (then_n (wp_cond_false rfl (wp_seq (wp_region_lit (sv 29 (.tuple #[.agg (c81 0 0 0 0 0 Sl.nil), .bool false]) (run_ta _ 23 69 true rfl _ _ rfl) ?_)))))))
  simp only [z0, z1]
  refine mv 30 (.bool false) (mv 31 (.agg (c81 0 0 0 0 0 Sl.nil)) (wpList_nil (then_n (wp_cond_false rfl (wp_seq (wp_region_lit (sv 48 (.tuple #[.agg (c83 0 0 0 0 0), .bool false]) (run_ta _ 23 71 true rfl _ _ rfl) ?_)))))))
  simp only [z0, z1]
  refine mv 49 (.bool false) (mv 50 (.agg (c83 0 0 0 0 0)) (wpList_nil (then_n (wp_cond_false rfl (wp_seq (wp_region_lit (sv 63 (.tuple #[.agg (c85 zF 0 zF zF Sl.nil), .bool false]) (run_ta _ 23 73 true rfl _ _ rfl) ?_)))))))
  simp only [z0, z1]
  refine mv 64 (.bool false) (mv 65 (.agg (c85 zF 0 zF zF Sl.nil)) (wpList_nil (then_n (wp_cond_false rfl (wp_seq (wp_region_lit (sv 78 (.tuple #[.agg (c87 zF 0), .bool false]) (run_ta _ 23 75 true rfl _ _ rfl) ?_)))))))
  simp only [z0, z1]
  refine mv 79 (.bool false) (mv 80 (.agg (c87 zF 0)) (wpList_nil (then_n (wp_cond_false rfl (wp_seq (wp_region_lit (sv 84 (.tuple #[.agg (c89 zF 0 false), .bool false]) (run_ta _ 23 77 true rfl _ _ rfl) ?_)))))))
  simp only [z0, z1]
  refine mv 85 (.bool false) (mv 86 (.agg (c89 zF 0 false)) (wpList_nil (then_n (wp_cond_false rfl (wp_seq (wp_region_lit (sv 95 (.tuple #[.agg (c91 zF 0 false Sl.nil), .bool false]) (run_ta _ 23 79 true rfl _ _ rfl) ?_)))))))
  simp only [z0, z1]
  refine mv 96 (.bool false) (mv 97 (.agg (c91 zF 0 false Sl.nil)) (wpList_nil (then_n (wp_cond_false rfl (wp_seq (wp_region_lit (sv 109 (.tuple #[.agg (c93 zF zF 0 zF 0 false Sl.nil), .bool false]) (run_ta _ 23 81 true rfl _ _ rfl) ?_)))))))
  simp only [z0, z1]
  refine mv 110 (.bool false) (mv 111 (.agg (c93 zF zF 0 zF 0 false Sl.nil)) (wpList_nil (then_n (wp_cond_false rfl (wp_seq (wp_region_lit (sv 131 (.tuple #[.agg (c95 zF 0), .bool false]) (run_ta _ 23 83 true rfl _ _ rfl) ?_)))))))
  simp only [z0, z1]
  refine mv 132 (.bool false) (mv 133 (.agg (c95 zF 0)) (wpList_nil (then_n (wp_cond_false rfl (wp_seq (wp_region_lit (sv 142 (.tuple #[.agg (c97 zF zF 0 0 0 zF 0 zF Sl.nil Sl.nil), .bool false]) (run_ta _ 23 85 true rfl _ _ rfl) ?_)))))))
  simp only [z0, z1]
  refine mv 143 (.bool false) (mv 144 (.agg (c97 zF zF 0 0 0 zF 0 zF Sl.nil Sl.nil)) (wpList_nil (then_n (wp_cond_false rfl (wp_seq (wp_region_lit (sv 166 (.tuple #[.agg (c99 f.pw f.pn f.toA f.key f.vn f.vw ⟨vlo, d.val.length, vlc⟩), .bool true]) (run_ta _ 23 87 true rfl _ _ rfl) ?_)))))))
  simp only [z0, z1]
  refine mv 167 (.bool true) (mv 168 (.agg (c99 f.pw f.pn f.toA f.key f.vn f.vw ⟨vlo, d.val.length, vlc⟩)) (wpList_nil (then_n (wp_cond_true rfl (wp_seq (wp_region_lit ?_))))))
  refine s_alloc 13 rfl rfl 87 rfl _ zv99 _ rfl ?_
  intro w1 g1 G eg1 kg1
  have bg1 := size_base GG eg1
  replace GG := GG.trans G
  clear G eg1
  simp only [z0, z1]
  refine s_store rfl rfl 87 _ _ rfl g1 0 rfl (.agg (c99 f.pw f.pn f.toA f.key f.vn f.vw ⟨vlo, d.val.length, vlc⟩)) rfl 87 _ kg1 (c99 f.pw f.pn f.toA f.key f.vn f.vw ⟨vlo, d.val.length, vlc⟩) rfl (by kernel_rfl) (Nat.le_of_ble_eq_true rfl) (by kernel_rfl) (c99 f.pw f.pn f.toA f.key f.vn f.vw ⟨vlo, d.val.length, vlc⟩) (by kernel_rfl) ?_
  intro w3 S
  replace GG := GG.store S bg1
  replace kg1 := S.new
  clear S
  refine wpList_nil (then_n (wp_seq ?_))
  refine wp_region_exA (A := ?A) 11 [(0, 169), (1, 170), (2, 171), (3, 172), (4, 173), (5, 174), (6, 175), (7, 176), (8, 177), (9, 178), (10, 179)] [.val (.pointer (some ⟨g1, 0, none⟩)), .val (.agg (c25 f.pw f.pn)), (rowE B (pathL f.pw f.pn)), .val (.pointer (some ⟨g1, 17, none⟩)), .val (.bool f.toA), (rowE B (flagL f.toA)), .val (.pointer (some ⟨g1, 18, none⟩)), .val (.agg (c34 f.key f.vn f.vw ⟨vlo, d.val.length, vlc⟩)), (rowE B (itemL f.key f.vn f.vw d.val)), (textsE [(pathL f.pw f.pn), (flagL f.toA), (itemL f.key f.vn f.vw d.val)]), (rowE B ((List.flatten [(pathL f.pw f.pn), (flagL f.toA), (itemL f.key f.vn f.vw d.val)])))] follows (by kernel_rfl) rfl ?hA (opsA_cons ?o0 (opsA_cons ?o1 (opsA_cons ?o2 (opsA_cons ?o3 (opsA_cons ?o4 (opsA_cons ?o5 (opsA_cons ?o6 (opsA_cons ?o7 (opsA_cons ?o8 (opsA_cons ?o9 (opsA_cons ?o10 opsA_nil))))))))))) ?rest
  case hA =>
    intro ptrs
    simp only [full, foldSlots, filledE, postE, List.foldl_cons, List.foldl_nil, List.getD_cons_zero, List.getD_cons_succ, fill_val, fill_row, fill_texts, List.set_cons_zero, List.set_cons_succ]
    exact rfl
  case o0 => exact fun _ _ hw _ => opE_value (v := .pointer (some ⟨g1, 0, none⟩)) rfl (run_fld 87 _ 0 rfl _ _ rfl _)
  case o1 => exact fun _ _ hw _ => opE_value (v := .agg (c25 f.pw f.pn)) rfl (run_lda 29 _ rfl g1 0 17 rfl 87 _ (hw.has kg1) _ Try.underlying29 rfl si25 _)
  case o2 =>
    intro ptrs w' hw hE
    exact opE_call (rowE B (pathL f.pw f.pn)) rfl _ 39 Try.call39 rfl rfl _ rfl [.agg (c25 f.pw f.pn)] rfl (path_E B f.pw f.pn _ (Nat.le_trans hB (GG.drew.trans hw).size) hpw hpn)
  case o3 => exact fun _ _ hw _ => opE_value (v := .pointer (some ⟨g1, 17, none⟩)) rfl (run_fld 87 _ 1 rfl _ _ rfl _)
  case o4 => exact fun _ _ hw _ => opE_value (v := .bool f.toA) rfl (run_ldc 4 _ rfl g1 17 rfl 87 _ (hw.has kg1) (na4 _) _ rfl)
  case o5 =>
    intro ptrs w' hw hE
    obtain ⟨⟨ao2, cap2, h2, o2⟩, _⟩ := hE
    exact opE_call (rowE B (flagL f.toA)) rfl _ 41 Try.call41 rfl rfl _ rfl [.bool f.toA] rfl (flag_E B f.toA _ (Nat.le_trans hB (GG.drew.trans hw).size))
  case o6 => exact fun _ _ hw _ => opE_value (v := .pointer (some ⟨g1, 18, none⟩)) rfl (run_fld 87 _ 2 rfl _ _ rfl _)
  case o7 => exact fun _ _ hw _ => opE_value (v := .agg (c34 f.key f.vn f.vw ⟨vlo, d.val.length, vlc⟩)) rfl (run_lda 38 _ rfl g1 18 34 rfl 87 _ (hw.has kg1) _ Try.underlying38 rfl si34 _)
  case o8 =>
    intro ptrs w' hw hE
    obtain ⟨⟨ao5, cap5, h5, o5⟩, _⟩ := hE
    exact opE_call (rowE B (itemL f.key f.vn f.vw d.val)) rfl _ 43 Try.call43 rfl rfl _ rfl [.agg (c34 f.key f.vn f.vw ⟨vlo, d.val.length, vlc⟩)] rfl (item_E B f.key f.vn f.vw _ _ d.val _ (Nat.le_trans hB (GG.drew.trans hw).size) hkey hvn hvw (Hval.gro (GG.drew.trans hw)) hlval)
  case o9 =>
    intro ptrs w' hw hE
    obtain ⟨⟨ao2, cap2, h2, o2⟩, ⟨ao5, cap5, h5, o5⟩, ⟨ao8, cap8, h8, o8⟩, _⟩ := hE
    exact opE_new (textsE [(pathL f.pw f.pn), (flagL f.toA), (itemL f.key f.vn f.vw d.val)]) rfl (run_bsl 100 3 _ rfl [(0, .slice ao2 (pathL f.pw f.pn).length cap2), (1, .slice ao5 (flagL f.toA).length cap5), (2, .slice ao8 (itemL f.key f.vn f.vw d.val).length cap8)] (by show [(0, ptrs 2), (1, ptrs 5), (2, ptrs 8)] = _; rw [h2, h5, h8]) (by kernel_rfl)) (gro_alloc _ _) (texts_new [.slice ao2 (pathL f.pw f.pn).length cap2, .slice ao5 (flagL f.toA).length cap5, .slice ao8 (itemL f.key f.vn f.vw d.val).length cap8] [(pathL f.pw f.pn), (flagL f.toA), (itemL f.key f.vn f.vw d.val)] _ ⟨⟨_, _, rfl, o2.nc⟩, ⟨_, _, rfl, o5.nc⟩, ⟨_, _, rfl, o8.nc⟩, trivial⟩)
  case o10 =>
    intro ptrs w' hw hE
    obtain ⟨⟨ge9, h9, o9⟩, ⟨ao8, cap8, h8, o8⟩, _⟩ := hE
    exact (by have z0 := pathL_len f.pw f.pn; have z1 := flagL_len f.toA; have z2 := itemL_len f.key f.vn f.vw d.val; exact opE_call (rowE B ((List.flatten [(pathL f.pw f.pn), (flagL f.toA), (itemL f.key f.vn f.vw d.val)]))) rfl _ 22 Try.call22 rfl rfl _ rfl [.slice (some ⟨ge9, 0, none⟩) ([(pathL f.pw f.pn), (flagL f.toA), (itemL f.key f.vn f.vw d.val)]).length ([(pathL f.pw f.pn), (flagL f.toA), (itemL f.key f.vn f.vw d.val)]).length] (congrArg (fun v => [v]) h9) (concat_E B ge9 [(pathL f.pw f.pn), (flagL f.toA), (itemL f.key f.vn f.vw d.val)] _ (Nat.le_trans hB (GG.drew.trans hw).size) o9 (Nat.le_of_ble_eq_true rfl) (by simp only [List.flatten_cons, List.flatten_nil, List.length_append, List.length_nil]; omega)))
  intro ptrs w4 GD hx
  simp only [List.drop_succ_cons, List.drop_zero]
  replace kg1 := GD.has kg1
  replace GG := GG.drew.trans GD
  obtain ⟨_, _, _, _, ⟨ao10x, cap10x, h10, o10x⟩, _⟩ := hx
  simp only [h10]
  clear GD
  refine mv 2 (.slice ao10x ((List.flatten [(pathL f.pw f.pn), (flagL f.toA), (itemL f.key f.vn f.vw d.val)])).length cap10x) (wpList_nil (then_n (wp_ret (blk_r (then_r ?_)))))
  refine bodyPost_ret (results_tmp Try.results24 _ _ _) rfl ?_
  exact ⟨_, rfl, GG, _, _, rfl, o10x⟩
set_option maxRecDepth 100000 in
set_option maxHeartbeats 4000000 in
theorem bytesOf_12 (B : Nat) (f : Fr) (_d : FD) (w : World) (hB : B ≤ w.heap.size) (hpw : okI f.pw) (hpn : okN f.pn) (hkey : okI f.key) (hvn : okN f.vn) (hvw : okI f.vw) : Calls Try.prog 24 #[.iface 89 (.agg (c101 f.pw f.pn f.toA f.key f.vn f.vw))] w (RetE (rowE B (List.flatten [(pathL f.pw f.pn), (flagL f.toA), (idL f.key), (verL f.vn f.vw)])) w) := by
  refine s_enterR Try.func24 rfl Try.ntmps24 [.iface 89 (.agg (c101 f.pw f.pn f.toA f.key f.vn f.vw))] ?_
  intro U h; simp only [List.length_cons, List.length_nil, List.cons_append, List.nil_append, Nat.reduceAdd, Nat.reduceSub, List.reduceReplicate] at h; subst h
  have GG := Gro.refl w
  refine wp_seq (wp_region_lit (mv 2 (.slice none 0 0) (wpList_nil (then_n (wp_seq (wp_seq (wp_region_lit (mv 15 (.iface 89 (.agg (c101 f.pw f.pn f.toA f.key f.vn f.vw))) (wpList_nil (then_n (wp_block (wp_seq (wp_region_lit (sv 16 (.tuple #[.agg (c79 0 0 0 0 zF), .bool false]) (run_ta _ 23 67 true rfl _ _ rfl) ?_))))))))))))))
  simp only [z0, z1]
  refine mv 17 (.bool false) (mv 18 (.agg (c79 0 0 0 0 zF)) (wpList_nil (then_n (wp_cond_false rfl (wp_seq (wp_region_lit (sv 29 (.tuple #[.agg (c81 0 0 0 0 0 Sl.nil), .bool false]) (run_ta _ 23 69 true rfl _ _ rfl) ?_)))))))
  simp only [z0, z1]
  refine mv 30 (.bool false) (mv 31 (.agg (c81 0 0 0 0 0 Sl.nil)) (wpList_nil (then_n (wp_cond_false rfl (wp_seq (wp_region_lit (sv 48 (.tuple #[.agg (c83 0 0 0 0 0), .bool false]) (run_ta _ 23 71 true rfl _ _ rfl) ?_)))))))
  simp only [z0, z1]
  refine mv 49 (.bool false) (mv 50 (.agg (c83 0 0 0 0 0)) (wpList_nil (then_n (wp_cond_false rfl (wp_seq (wp_region_lit (sv 63 (.tuple #[.agg (c85 zF 0 zF zF Sl.nil), .bool false]) (run_ta _ 23 73 true rfl _ _ rfl) ?_)))))))
  simp only [z0, z1]
  refine mv 64 (.bool false) (mv 65 (.agg (c85 zF 0 zF zF Sl.nil)) (wpList_nil (then_n (wp_cond_false rfl (wp_seq (wp_region_lit (sv 78 (.tuple #[.agg (c87 zF 0), .bool false]) (run_ta _ 23 75 true rfl _ _ rfl) ?_)))))))
  simp only [z0, z1]
  refine mv 79 (.bool false) (mv 80 (.agg (c87 zF 0)) (wpList_nil (then_n (wp_cond_false rfl (wp_seq (wp_region_lit (sv 84 (.tuple #[.agg (c89 zF 0 false), .bool false]) (run_ta _ 23 77 true rfl _ _ rfl) ?_)))))))
  simp only [z0, z1]
  refine mv 85 (.bool false) (mv 86 (.agg (c89 zF 0 false)) (wpList_nil (then_n (wp_cond_false rfl (wp_seq (wp_region_lit (sv 95 (.tuple #[.agg (c91 zF 0 false Sl.nil), .bool false]) (run_ta _ 23 79 true rfl _ _ rfl) ?_)))))))
  simp only [z0, z1]
  refine mv 96 (.bool false) (mv 97 (.agg (c91 zF 0 false Sl.nil)) (wpList_nil (then_n (wp_cond_false rfl (wp_seq (wp_region_lit (sv 109 (.tuple #[.agg (c93 zF zF 0 zF 0 false Sl.nil), .bool false]) (run_ta _ 23 81 true rfl _ _ rfl) ?_)))))))
  simp only [z0, z1]
  refine mv 110 (.bool false) (mv 111 (.agg (c93 zF zF 0 zF 0 false Sl.nil)) (wpList_nil (then_n (wp_cond_false rfl (wp_seq (wp_region_lit (sv 131 (.tuple #[.agg (c95 zF 0), .bool false]) (run_ta _ 23 83 true rfl _ _ rfl) ?_)))))))
  simp only [z0, z1]
  refine mv 132 (.bool false) (mv 133 (.agg (c95 zF 0)) (wpList_nil (then_n (wp_cond_false rfl (wp_seq (wp_region_lit (sv 142 (.tuple #[.agg (c97 zF zF 0 0 0 zF 0 zF Sl.nil Sl.nil), .bool false]) (run_ta _ 23 85 true rfl _ _ rfl) ?_)))))))
  simp only [z0, z1]
  refine mv 143 (.bool false) (mv 144 (.agg (c97 zF zF 0 0 0 zF 0 zF Sl.nil Sl.nil)) (wpList_nil (then_n (wp_cond_false rfl (wp_seq (wp_region_lit (sv 166 (.tuple #[.agg (c99 zF 0 false zF 0 zF Sl.nil), .bool false]) (run_ta _ 23 87 true rfl _ _ rfl) ?_)))))))
  simp only [z0, z1]
  refine mv 167 (.bool false) (mv 168 (.agg (c99 zF 0 false zF 0 zF Sl.nil)) (wpList_nil (then_n (wp_cond_false rfl (wp_seq (wp_region_lit (sv 180 (.tuple #[.agg (c101 f.pw f.pn f.toA f.key f.vn f.vw), .bool true]) (run_ta _ 23 89 true rfl _ _ rfl) ?_)))))))
  simp only [z0, z1]
  refine mv 181 (.bool true) (mv 182 (.agg (c101 f.pw f.pn f.toA f.key f.vn f.vw)) (wpList_nil (then_n (wp_cond_true rfl (wp_seq (wp_region_lit ?_))))))
  refine s_alloc 14 rfl rfl 89 rfl _ zv101 _ rfl ?_
  intro w1 g1 G eg1 kg1
  have bg1 := size_base GG eg1
  replace GG := GG.trans G
  clear G eg1
  simp only [z0, z1]
  refine s_store rfl rfl 89 _ _ rfl g1 0 rfl (.agg (c101 f.pw f.pn f.toA f.key f.vn f.vw)) rfl 89 _ kg1 (c101 f.pw f.pn f.toA f.key f.vn f.vw) rfl (by kernel_rfl) (Nat.le_of_ble_eq_true rfl) (by kernel_rfl) (c101 f.pw f.pn f.toA f.key f.vn f.vw) (by kernel_rfl) ?_
  intro w3 S
  replace GG := GG.store S bg1
  replace kg1 := S.new
  clear S
  refine wpList_nil (then_n (wp_seq ?_))
  refine wp_region_exA (A := ?A) 13 [(0, 183), (1, 184), (2, 185), (3, 186), (4, 187), (5, 188), (6, 189), (7, 190), (8, 191), (9, 192), (10, 193), (11, 194), (12, 195)] [.val (.pointer (some ⟨g1, 0, none⟩)), .val (.agg (c25 f.pw f.pn)), (rowE B (pathL f.pw f.pn)), .val (.pointer (some ⟨g1, 17, none⟩)), .val (.bool f.toA), (rowE B (flagL f.toA)), .val (.pointer (some ⟨g1, 18, none⟩)), .val (.slice (some ⟨g1, 18, none⟩) 16 16), .val (.pointer (some ⟨g1, 34, none⟩)), .val (.agg (c31 f.vn f.vw)), (rowE B (verL f.vn f.vw)), (textsE [(pathL f.pw f.pn), (flagL f.toA), (idL f.key), (verL f.vn f.vw)]), (rowE B ((List.flatten [(pathL f.pw f.pn), (flagL f.toA), (idL f.key), (verL f.vn f.vw)])))] follows (by kernel_rfl) rfl ?hA (opsA_cons ?o0 (opsA_cons ?o1 (opsA_cons ?o2 (opsA_cons ?o3 (opsA_cons ?o4 (opsA_cons ?o5 (opsA_cons ?o6 (opsA_cons ?o7 (opsA_cons ?o8 (opsA_cons ?o9 (opsA_cons ?o10 (opsA_cons ?o11 (opsA_cons ?o12 opsA_nil))))))))))))) ?rest
  case hA =>
    intro ptrs
    simp only [full, foldSlots, filledE, postE, List.foldl_cons, List.foldl_nil, List.getD_cons_zero, List.getD_cons_succ, fill_val, fill_row, fill_texts, List.set_cons_zero, List.set_cons_succ]
    exact rfl
  case o0 => exact fun _ _ hw _ => opE_value (v := .pointer (some ⟨g1, 0, none⟩)) rfl (run_fld 89 _ 0 rfl _ _ rfl _)
  case o1 => exact fun _ _ hw _ => opE_value (v := .agg (c25 f.pw f.pn)) rfl (run_lda 29 _ rfl g1 0 17 rfl 89 _ (hw.has kg1) _ Try.underlying29 rfl si25 _)
  case o2 =>
    intro ptrs w' hw hE
    exact opE_call (rowE B (pathL f.pw f.pn)) rfl _ 39 Try.call39 rfl rfl _ rfl [.agg (c25 f.pw f.pn)] rfl (path_E B f.pw f.pn _ (Nat.le_trans hB (GG.drew.trans hw).size) hpw hpn)
  case o3 => exact fun _ _ hw _ => opE_value (v := .pointer (some ⟨g1, 17, none⟩)) rfl (run_fld 89 _ 1 rfl _ _ rfl _)
  case o4 => exact fun _ _ hw _ => opE_value (v := .bool f.toA) rfl (run_ldc 4 _ rfl g1 17 rfl 89 _ (hw.has kg1) (na4 _) _ rfl)
  case o5 =>
    intro ptrs w' hw hE
    obtain ⟨⟨ao2, cap2, h2, o2⟩, _⟩ := hE
    exact opE_call (rowE B (flagL f.toA)) rfl _ 41 Try.call41 rfl rfl _ rfl [.bool f.toA] rfl (flag_E B f.toA _ (Nat.le_trans hB (GG.drew.trans hw).size))
  case o6 => exact fun _ _ hw _ => opE_value (v := .pointer (some ⟨g1, 18, none⟩)) rfl (run_fld 89 _ 2 rfl _ _ rfl _)
  case o7 => exact fun _ _ hw _ => opE_value (v := .slice (some ⟨g1, 18, none⟩) 16 16) rfl (run_arr_at _ rfl _ _ rfl _)
  case o8 => exact fun _ _ hw _ => opE_value (v := .pointer (some ⟨g1, 34, none⟩)) rfl (run_fld 89 _ 3 rfl _ _ rfl _)
  case o9 => exact fun _ _ hw _ => opE_value (v := .agg (c31 f.vn f.vw)) rfl (run_lda 35 _ rfl g1 34 17 rfl 89 _ (hw.has kg1) _ Try.underlying35 rfl si31 _)
  case o10 =>
    intro ptrs w' hw hE
    obtain ⟨⟨ao5, cap5, h5, o5⟩, _⟩ := hE
    exact opE_call (rowE B (verL f.vn f.vw)) rfl _ 44 Try.call44 rfl rfl _ rfl [.agg (c31 f.vn f.vw)] rfl (ver_E B f.vn f.vw _ (Nat.le_trans hB (GG.drew.trans hw).size) hvn hvw)
  case o11 =>
    intro ptrs w' hw hE
    obtain ⟨⟨ao2, cap2, h2, o2⟩, ⟨ao5, cap5, h5, o5⟩, ⟨ao10, cap10, h10, o10⟩, _⟩ := hE
    exact opE_new (textsE [(pathL f.pw f.pn), (flagL f.toA), (idL f.key), (verL f.vn f.vw)]) rfl (run_bsl 100 4 _ rfl [(0, .slice ao2 (pathL f.pw f.pn).length cap2), (1, .slice ao5 (flagL f.toA).length cap5), (2, .slice (some ⟨g1, 18, none⟩) 16 16), (3, .slice ao10 (verL f.vn f.vw).length cap10)] (by show [(0, ptrs 2), (1, ptrs 5), (2, .slice (some ⟨g1, 18, none⟩) 16 16), (3, ptrs 10)] = _; rw [h2, h5, h10]) (by kernel_rfl)) (gro_alloc _ _) (texts_new [.slice ao2 (pathL f.pw f.pn).length cap2, .slice ao5 (flagL f.toA).length cap5, .slice (some ⟨g1, 18, none⟩) 16 16, .slice ao10 (verL f.vn f.vw).length cap10] [(pathL f.pw f.pn), (flagL f.toA), (idL f.key), (verL f.vn f.vw)] _ ⟨⟨_, _, rfl, o2.nc⟩, ⟨_, _, rfl, o5.nc⟩, ⟨_, _, rfl, (nc_id (hw.has kg1) f.key hkey (by kernel_rfl))⟩, ⟨_, _, rfl, o10.nc⟩, trivial⟩)
  case o12 =>
    intro ptrs w' hw hE
    obtain ⟨⟨ge11, h11, o11⟩, ⟨ao10, cap10, h10, o10⟩, _⟩ := hE
    exact (by have z0 := pathL_len f.pw f.pn; have z1 := flagL_len f.toA; have z2 := idL_len f.key; have z3 := verL_len f.vn f.vw; exact opE_call (rowE B ((List.flatten [(pathL f.pw f.pn), (flagL f.toA), (idL f.key), (verL f.vn f.vw)]))) rfl _ 22 Try.call22 rfl rfl _ rfl [.slice (some ⟨ge11, 0, none⟩) ([(pathL f.pw f.pn), (flagL f.toA), (idL f.key), (verL f.vn f.vw)]).length ([(pathL f.pw f.pn), (flagL f.toA), (idL f.key), (verL f.vn f.vw)]).length] (congrArg (fun v => [v]) h11) (concat_E B ge11 [(pathL f.pw f.pn), (flagL f.toA), (idL f.key), (verL f.vn f.vw)] _ (Nat.le_trans hB (GG.drew.trans hw).size) o11 (Nat.le_of_ble_eq_true rfl) (by simp only [List.flatten_cons, List.flatten_nil, List.length_append, List.length_nil]; omega)))
  intro ptrs w4 GD hx
  simp only [List.drop_succ_cons, List.drop_zero]
  replace kg1 := GD.has kg1
  replace GG := GG.drew.trans GD
  obtain ⟨_, _, _, _, ⟨ao12x, cap12x, h12, o12x⟩, _⟩ := hx
  simp only [h12]
  clear GD
  refine mv 2 (.slice ao12x ((List.flatten [(pathL f.pw f.pn), (flagL f.toA), (idL f.key), (verL f.vn f.vw)])).length cap12x) (wpList_nil (then_n (wp_ret (blk_r (then_r ?_)))))
  refine bodyPost_ret (results_tmp Try.results24 _ _ _) rfl ?_
  exact ⟨_, rfl, GG, _, _, rfl, o12x⟩
def bodyL (k : Nat) (f : Fr) (d : FD) : List Nat :=
  match k with
  | 1 => (List.flatten [(sessL f.fi f.fn), (sessL f.ti f.tn), (idL f.a)])
  | 2 => (List.flatten [(sessL f.fi f.fn), (sessL f.ti f.tn), (List.flatMap nI [f.n]), (putT [d.tx])])
  | 3 => (List.flatten [(sessL f.fi f.fn), (sessL f.ti f.tn), (List.flatMap nI [f.n])])
  | 4 => (List.flatten [(pathL f.pw f.pn), (idL f.a), (idL f.b), (trailL d.tr)])
  | 5 => (pathL f.pw f.pn)
  | 6 => (List.flatten [(pathL f.pw f.pn), (flagL f.toA)])
  | 7 => (List.flatten [(pathL f.pw f.pn), (flagL f.toA), (idsL d.ids)])
  | 8 => (List.flatten [(idL f.a), (idL f.b), (List.flatMap nI [f.op]), (pathL f.pw f.pn), (flagL f.toA), (trailL d.tr)])
  | 9 => (List.flatten [(idL f.a), (List.flatMap nI [f.n])])
  | 10 => (List.flatten [(idL f.a), (idL f.b), (List.flatMap nI [f.n, f.op, f.ttl]), (itemL f.key f.vn f.vw d.val), (putT [d.tx])])
  | 11 => (List.flatten [(pathL f.pw f.pn), (flagL f.toA), (itemL f.key f.vn f.vw d.val)])
  | 12 => (List.flatten [(pathL f.pw f.pn), (flagL f.toA), (idL f.key), (verL f.vn f.vw)])
  | _ => []
end Go.Proofs.Ythmcnlmphikicab
