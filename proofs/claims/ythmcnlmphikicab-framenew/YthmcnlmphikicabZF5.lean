/- The bytes of a session's number, a path, a version, an item, a flag. -/
import Derived.Test.YthmcnlmphikicabZF1
import Derived.Test.YthmcnlmphikicabZF4
namespace Go.Proofs.Ythmcnlmphikicab
open Go.RowKit
theorem fill_val (u v : Value) : (PostE.val u).fill v = u := rfl
theorem fill_row (B : Nat) (l : List Nat) (v : Value) : (rowE B l).fill v = v := rfl
theorem fill_ints (l : List Int) (v : Value) : (intsE l).fill v = v := rfl
theorem fill_texts (l : List (List Nat)) (v : Value) : (textsE l).fill v = v := rfl
theorem ints_one (l : List Int) : ∀ v ∈ l.map (Value.int .i64 ·), v.oneCell' = true := fun v hv => by obtain ⟨r, _, rfl⟩ := List.mem_map.1 hv; rfl
theorem ints_new (l : List Int) (w : World) : (intsE l).p (.slice (some ⟨w.heap.size, 0, none⟩) l.length l.length) (w.alloc (.cells (l.map (Value.int .i64 ·)).toArray 2)) :=
  ⟨_, rfl, xc_made (heap_alloc_new _ _) (by simp) (ints_one l)⟩
theorem texts_new (vs : List Value) (ls : List (List Nat)) (w : World) (h : SlAll w vs ls) : (textsE ls).p (.slice (some ⟨w.heap.size, 0, none⟩) ls.length ls.length) (w.alloc (.cells vs.toArray 36)) :=
  ⟨_, rfl, LC.made (heap_alloc_new _ _) (h.gro (gro_alloc _ _))⟩
def u64E (n : Nat) : PostE := .ex (fun v w => ∃ g, v = .slice (some ⟨g, 0, none⟩) [n].length [n].length ∧ NC w .u64 (some ⟨g, 0, none⟩) 1 [n]) fun _ _ _ hg ⟨g, h1, h2⟩ => ⟨g, h1, h2.gro hg⟩
theorem u64_new (n : Nat) (hn : n < lim) (w : World) : (u64E n).p (.slice (some ⟨w.heap.size, 0, none⟩) 1 1) (w.alloc (.cells #[.int .u64 (n : Int)] 62)) := ⟨_, rfl, nc_oneU w n hn⟩
theorem num_E (B g n : Nat) (w : World) (hB : B ≤ w.heap.size) (h : NC w .u64 (some ⟨g, 0, none⟩) 1 [n]) : Calls Try.prog 23 #[.slice (some ⟨g, 0, none⟩) [n].length [n].length] w (RetE (rowE B (numL n)) w) :=
  (putNum_one g n w h).mono fun _e _w' ⟨v, he, hg, ao, cap, hv, ho⟩ => ⟨v, he, hg, ao, cap, hv, ho.mono hB⟩
theorem ok1 {x : Int} (h : okN x) : ∀ y ∈ [x], okN y := by intro y hy; simp at hy; subst hy; exact h
theorem ok2 {x z : Int} (h : okN x) (h' : okN z) : ∀ y ∈ [x, z], okN y := by intro y hy; simp at hy; rcases hy with rfl | rfl; exact h; exact h'
theorem ok3 {x z u : Int} (h : okN x) (h' : okN z) (h'' : okN u) : ∀ y ∈ [x, z, u], okN y := by intro y hy; simp at hy; rcases hy with rfl | rfl | rfl; exact h; exact h'; exact h''
theorem lim0 : 0 < lim := by decide
theorem lim1 : 1 < lim := by decide
set_option maxRecDepth 100000 in
set_option maxHeartbeats 4000000 in
theorem session_E (B : Nat) (i n : Int) (w : World) (hB : B ≤ w.heap.size) (hi : okN i) (hn : okN n) : Calls Try.prog 36 #[.agg (c27 i n)] w (RetE (rowE B (sessL i n)) w) := by
  refine s_enter Try.func36 rfl Try.ntmps36 [.agg (c27 i n)] [.agg (c27 i n), undef, undef, undef, undef, undef, undef, undef, undef] rfl ?_
  have GG := Gro.refl w
  refine wp_seq (wp_region_lit ?_)
  refine s_box 1 rfl rfl 31 _ rfl _ rfl (c27 i n) rfl ?_
  intro w1 g1 G eg1 kg1
  have bg1 := size_base GG eg1
  replace GG := GG.trans G
  clear G eg1
  refine mv 2 (.slice none 0 0) (wpList_nil (then_n (wp_seq (wp_region_lit (sv 3 (.pointer (some ⟨g1, 0, none⟩)) (run_fld 31 _ 0 rfl _ _ rfl _) ?_)))))
  simp only [z0, z1]
  refine sv 4 (.int .i64 i) (run_ldc 2 _ rfl g1 0 rfl 31 _ kg1 (na2 _) _ rfl) (sv 5 (.pointer (some ⟨g1, 1, none⟩)) (run_fld 31 _ 1 rfl _ _ rfl _) (sv 6 (.int .i64 n) (run_ldc 2 _ rfl g1 1 rfl 31 _ kg1 (na2 _) _ rfl) ?_))
  simp only [z0, z1]
  refine s_ex 7 rfl (intsE [i, n]) rfl (opE_new (intsE [i, n]) rfl (run_bsl 121 2 _ rfl [(0, .int .i64 i), (1, .int .i64 n)] rfl (by kernel_rfl)) (gro_alloc _ _) (ints_new [i, n] _)) ?_
  rintro v w2 G ⟨ge1, rfl, o1⟩
  replace kg1 := G.has kg1
  replace GG := GG.trans G
  clear G
  simp only [z0, z1]
  refine s_ex 8 rfl (rowE B (List.flatMap nI [i, n])) rfl (opE_call (rowE B (List.flatMap nI [i, n])) rfl _ 37 Try.call37 rfl rfl _ rfl [.slice (some ⟨ge1, 0, none⟩) ([i, n]).length ([i, n]).length] rfl (number_E B ge1 [i, n] _ (Nat.le_trans hB GG.size) o1 (ok2 hi hn) (Nat.le_of_ble_eq_true rfl))) ?_
  rintro v w3 G ⟨ao2, cap2, rfl, o2⟩
  replace kg1 := G.has kg1
  replace o1 := o1.gro G
  replace GG := GG.trans G
  clear G
  refine mv 2 (.slice ao2 (List.flatMap nI [i, n]).length cap2) (wpList_nil (then_n (wp_ret ?_)))
  refine bodyPost_ret (results_tmp Try.results36 _ _ _) rfl ?_
  exact ⟨_, rfl, GG, _, _, rfl, o2⟩
set_option maxRecDepth 100000 in
set_option maxHeartbeats 4000000 in
theorem path_E (B : Nat) (p : Nat → Nat) (n : Int) (w : World) (hB : B ≤ w.heap.size) (hp : okI p) (hn : okN n) : Calls Try.prog 39 #[.agg (c25 p n)] w (RetE (rowE B (pathL p n)) w) := by
  refine s_enter Try.func39 rfl Try.ntmps39 [.agg (c25 p n)] [.agg (c25 p n), undef, undef, undef, undef, undef, undef, undef, undef, undef, undef] rfl ?_
  have GG := Gro.refl w
  refine wp_seq (wp_region_lit ?_)
  refine s_box 1 rfl rfl 29 _ rfl _ rfl (c25 p n) rfl ?_
  intro w1 g1 G eg1 kg1
  have bg1 := size_base GG eg1
  replace GG := GG.trans G
  clear G eg1
  refine mv 2 (.slice none 0 0) (wpList_nil (then_n (wp_seq ?_)))
  refine wp_region_exA (A := ?A) 8 [(0, 3), (1, 4), (2, 5), (3, 6), (4, 7), (5, 8), (6, 9), (7, 10)] [.val (.pointer (some ⟨g1, 0, none⟩)), .val (.slice (some ⟨g1, 0, none⟩) 16 16), .val (.pointer (some ⟨g1, 16, none⟩)), .val (.int .i64 n), (intsE [n]), (rowE B (List.flatMap nI [n])), (textsE [(idL p), (List.flatMap nI [n])]), (rowE B ((List.flatten [(idL p), (List.flatMap nI [n])])))] follows (by kernel_rfl) rfl ?hA (opsA_cons ?o0 (opsA_cons ?o1 (opsA_cons ?o2 (opsA_cons ?o3 (opsA_cons ?o4 (opsA_cons ?o5 (opsA_cons ?o6 (opsA_cons ?o7 opsA_nil)))))))) ?rest
  case hA =>
    intro ptrs
    simp only [full, foldSlots, filledE, postE, List.foldl_cons, List.foldl_nil, List.getD_cons_zero, List.getD_cons_succ, fill_val, fill_row, fill_ints, fill_texts, List.set_cons_zero, List.set_cons_succ]
    exact rfl
  case o0 => exact fun _ _ hw _ => opE_value (v := .pointer (some ⟨g1, 0, none⟩)) rfl (run_fld 29 _ 0 rfl _ _ rfl _)
  case o1 => exact fun _ _ hw _ => opE_value (v := .slice (some ⟨g1, 0, none⟩) 16 16) rfl (run_arr_at _ rfl _ _ rfl _)
  case o2 => exact fun _ _ hw _ => opE_value (v := .pointer (some ⟨g1, 16, none⟩)) rfl (run_fld 29 _ 1 rfl _ _ rfl _)
  case o3 => exact fun _ _ hw _ => opE_value (v := .int .i64 n) rfl (run_ldc 2 _ rfl g1 16 rfl 29 _ (hw.has kg1) (na2 _) _ rfl)
  case o4 =>
    intro ptrs w' hw hE
    exact opE_new (intsE [n]) rfl (run_bsl 121 1 _ rfl [(0, .int .i64 n)] rfl (by kernel_rfl)) (gro_alloc _ _) (ints_new [n] _)
  case o5 =>
    intro ptrs w' hw hE
    obtain ⟨⟨ge4, h4, o4⟩, _⟩ := hE
    exact opE_call (rowE B (List.flatMap nI [n])) rfl _ 37 Try.call37 rfl rfl _ rfl [.slice (some ⟨ge4, 0, none⟩) ([n]).length ([n]).length] (congrArg (fun v => [v]) h4) (number_E B ge4 [n] _ (Nat.le_trans hB (GG.drew.trans hw).size) o4 (ok1 hn) (Nat.le_of_ble_eq_true rfl))
  case o6 =>
    intro ptrs w' hw hE
    obtain ⟨⟨ao5, cap5, h5, o5⟩, _⟩ := hE
    exact opE_new (textsE [(idL p), (List.flatMap nI [n])]) rfl (run_bsl 100 2 _ rfl [(0, .slice (some ⟨g1, 0, none⟩) 16 16), (1, .slice ao5 (List.flatMap nI [n]).length cap5)] (by show [(0, .slice (some ⟨g1, 0, none⟩) 16 16), (1, ptrs 5)] = _; rw [h5]) (by kernel_rfl)) (gro_alloc _ _) (texts_new [.slice (some ⟨g1, 0, none⟩) 16 16, .slice ao5 (List.flatMap nI [n]).length cap5] [(idL p), (List.flatMap nI [n])] _ ⟨⟨_, _, rfl, (nc_id (hw.has kg1) p hp (by kernel_rfl))⟩, ⟨_, _, rfl, o5.nc⟩, trivial⟩)
  case o7 =>
    intro ptrs w' hw hE
    obtain ⟨⟨ge6, h6, o6⟩, ⟨ao5, cap5, h5, o5⟩, _⟩ := hE
    exact (by have z0 := idL_len p; have z1 := n1_len n; exact opE_call (rowE B ((List.flatten [(idL p), (List.flatMap nI [n])]))) rfl _ 22 Try.call22 rfl rfl _ rfl [.slice (some ⟨ge6, 0, none⟩) ([(idL p), (List.flatMap nI [n])]).length ([(idL p), (List.flatMap nI [n])]).length] (congrArg (fun v => [v]) h6) (concat_E B ge6 [(idL p), (List.flatMap nI [n])] _ (Nat.le_trans hB (GG.drew.trans hw).size) o6 (Nat.le_of_ble_eq_true rfl) (by simp only [List.flatten_cons, List.flatten_nil, List.length_append, List.length_nil]; omega)))
  intro ptrs w2 GD hx
  simp only [List.drop_succ_cons, List.drop_zero]
  replace kg1 := GD.has kg1
  replace GG := GG.drew.trans GD
  obtain ⟨_, _, _, ⟨ao7x, cap7x, h7, o7x⟩, _⟩ := hx
  simp only [h7]
  clear GD
  refine mv 2 (.slice ao7x ((List.flatten [(idL p), (List.flatMap nI [n])])).length cap7x) ?_
  simp only [z0, z1]
  refine wpList_nil (then_n (wp_ret ?_))
  refine bodyPost_ret (results_tmp Try.results39 _ _ _) rfl ?_
  exact ⟨_, rfl, GG, _, _, rfl, o7x⟩
set_option maxRecDepth 100000 in
set_option maxHeartbeats 4000000 in
theorem ver_E (B : Nat) (n : Int) (p : Nat → Nat) (w : World) (hB : B ≤ w.heap.size) (hn : okN n) (hp : okI p) : Calls Try.prog 44 #[.agg (c31 n p)] w (RetE (rowE B (verL n p)) w) := by
  refine s_enter Try.func44 rfl Try.ntmps44 [.agg (c31 n p)] [.agg (c31 n p), undef, undef, undef, undef, undef, undef, undef, undef, undef, undef] rfl ?_
  have GG := Gro.refl w
  refine wp_seq (wp_region_lit ?_)
  refine s_box 1 rfl rfl 35 _ rfl _ rfl (c31 n p) rfl ?_
  intro w1 g1 G eg1 kg1
  have bg1 := size_base GG eg1
  replace GG := GG.trans G
  clear G eg1
  refine mv 2 (.slice none 0 0) (wpList_nil (then_n (wp_seq ?_)))
  refine wp_region_exA (A := ?A) 8 [(0, 3), (1, 4), (2, 5), (3, 6), (4, 7), (5, 8), (6, 9), (7, 10)] [.val (.pointer (some ⟨g1, 0, none⟩)), .val (.int .i64 n), (intsE [n]), (rowE B (List.flatMap nI [n])), .val (.pointer (some ⟨g1, 1, none⟩)), .val (.slice (some ⟨g1, 1, none⟩) 16 16), (textsE [(List.flatMap nI [n]), (idL p)]), (rowE B ((List.flatten [(List.flatMap nI [n]), (idL p)])))] follows (by kernel_rfl) rfl ?hA (opsA_cons ?o0 (opsA_cons ?o1 (opsA_cons ?o2 (opsA_cons ?o3 (opsA_cons ?o4 (opsA_cons ?o5 (opsA_cons ?o6 (opsA_cons ?o7 opsA_nil)))))))) ?rest
  case hA =>
    intro ptrs
    simp only [full, foldSlots, filledE, postE, List.foldl_cons, List.foldl_nil, List.getD_cons_zero, List.getD_cons_succ, fill_val, fill_row, fill_ints, fill_texts, List.set_cons_zero, List.set_cons_succ]
    exact rfl
  case o0 => exact fun _ _ hw _ => opE_value (v := .pointer (some ⟨g1, 0, none⟩)) rfl (run_fld 35 _ 0 rfl _ _ rfl _)
  case o1 => exact fun _ _ hw _ => opE_value (v := .int .i64 n) rfl (run_ldc 2 _ rfl g1 0 rfl 35 _ (hw.has kg1) (na2 _) _ rfl)
  case o2 =>
    intro ptrs w' hw hE
    exact opE_new (intsE [n]) rfl (run_bsl 121 1 _ rfl [(0, .int .i64 n)] rfl (by kernel_rfl)) (gro_alloc _ _) (ints_new [n] _)
  case o3 =>
    intro ptrs w' hw hE
    obtain ⟨⟨ge2, h2, o2⟩, _⟩ := hE
    exact opE_call (rowE B (List.flatMap nI [n])) rfl _ 37 Try.call37 rfl rfl _ rfl [.slice (some ⟨ge2, 0, none⟩) ([n]).length ([n]).length] (congrArg (fun v => [v]) h2) (number_E B ge2 [n] _ (Nat.le_trans hB (GG.drew.trans hw).size) o2 (ok1 hn) (Nat.le_of_ble_eq_true rfl))
  case o4 => exact fun _ _ hw _ => opE_value (v := .pointer (some ⟨g1, 1, none⟩)) rfl (run_fld 35 _ 1 rfl _ _ rfl _)
  case o5 => exact fun _ _ hw _ => opE_value (v := .slice (some ⟨g1, 1, none⟩) 16 16) rfl (run_arr_at _ rfl _ _ rfl _)
  case o6 =>
    intro ptrs w' hw hE
    obtain ⟨⟨ao3, cap3, h3, o3⟩, _⟩ := hE
    exact opE_new (textsE [(List.flatMap nI [n]), (idL p)]) rfl (run_bsl 100 2 _ rfl [(0, .slice ao3 (List.flatMap nI [n]).length cap3), (1, .slice (some ⟨g1, 1, none⟩) 16 16)] (by show [(0, ptrs 3), (1, .slice (some ⟨g1, 1, none⟩) 16 16)] = _; rw [h3]) (by kernel_rfl)) (gro_alloc _ _) (texts_new [.slice ao3 (List.flatMap nI [n]).length cap3, .slice (some ⟨g1, 1, none⟩) 16 16] [(List.flatMap nI [n]), (idL p)] _ ⟨⟨_, _, rfl, o3.nc⟩, ⟨_, _, rfl, (nc_id (hw.has kg1) p hp (by kernel_rfl))⟩, trivial⟩)
  case o7 =>
    intro ptrs w' hw hE
    obtain ⟨⟨ge6, h6, o6⟩, ⟨ao3, cap3, h3, o3⟩, _⟩ := hE
    exact (by have z0 := n1_len n; have z1 := idL_len p; exact opE_call (rowE B ((List.flatten [(List.flatMap nI [n]), (idL p)]))) rfl _ 22 Try.call22 rfl rfl _ rfl [.slice (some ⟨ge6, 0, none⟩) ([(List.flatMap nI [n]), (idL p)]).length ([(List.flatMap nI [n]), (idL p)]).length] (congrArg (fun v => [v]) h6) (concat_E B ge6 [(List.flatMap nI [n]), (idL p)] _ (Nat.le_trans hB (GG.drew.trans hw).size) o6 (Nat.le_of_ble_eq_true rfl) (by simp only [List.flatten_cons, List.flatten_nil, List.length_append, List.length_nil]; omega)))
  intro ptrs w2 GD hx
  simp only [List.drop_succ_cons, List.drop_zero]
  replace kg1 := GD.has kg1
  replace GG := GG.drew.trans GD
  obtain ⟨_, _, _, ⟨ao7x, cap7x, h7, o7x⟩, _⟩ := hx
  simp only [h7]
  clear GD
  refine mv 2 (.slice ao7x ((List.flatten [(List.flatMap nI [n]), (idL p)])).length cap7x) ?_
  simp only [z0, z1]
  refine wpList_nil (then_n (wp_ret ?_))
  refine bodyPost_ret (results_tmp Try.results44 _ _ _) rfl ?_
  exact ⟨_, rfl, GG, _, _, rfl, o7x⟩
set_option maxRecDepth 100000 in
set_option maxHeartbeats 4000000 in
theorem item_E (B : Nat) (k : Nat → Nat) (n : Int) (p : Nat → Nat) (vo : Option Addr) (vc : Nat) (v : List Nat) (w : World) (hB : B ≤ w.heap.size) (hk : okI k) (hn : okN n) (hp : okI p) (Hv : NC w .u8 vo vc v) (hl : v.length ≤ 5000) : Calls Try.prog 43 #[.agg (c34 k n p ⟨vo, v.length, vc⟩)] w (RetE (rowE B (itemL k n p v)) w) := by
  refine s_enter Try.func43 rfl Try.ntmps43 [.agg (c34 k n p ⟨vo, v.length, vc⟩)] [.agg (c34 k n p ⟨vo, v.length, vc⟩), undef, undef, undef, undef, undef, undef, undef, undef, undef, undef, undef, undef, undef] rfl ?_
  have GG := Gro.refl w
  refine wp_seq (wp_region_lit ?_)
  refine s_box 1 rfl rfl 38 _ rfl _ rfl (c34 k n p ⟨vo, v.length, vc⟩) rfl ?_
  intro w1 g1 G eg1 kg1
  have bg1 := size_base GG eg1
  replace GG := GG.trans G
  clear G eg1
  refine mv 2 (.slice none 0 0) (wpList_nil (then_n (wp_seq ?_)))
  refine wp_region_exA (A := ?A) 11 [(0, 3), (1, 4), (2, 5), (3, 6), (4, 7), (5, 8), (6, 9), (7, 10), (8, 11), (9, 12), (10, 13)] [.val (.pointer (some ⟨g1, 0, none⟩)), .val (.slice (some ⟨g1, 0, none⟩) 16 16), .val (.pointer (some ⟨g1, 16, none⟩)), .val (.agg (c31 n p)), (rowE B (verL n p)), .val (.pointer (some ⟨g1, 33, none⟩)), .val (.slice vo v.length vc), (textsE [v]), (rowE B (putT [v])), (textsE [(idL k), (verL n p), (putT [v])]), (rowE B ((List.flatten [(idL k), (verL n p), (putT [v])])))] follows (by kernel_rfl) rfl ?hA (opsA_cons ?o0 (opsA_cons ?o1 (opsA_cons ?o2 (opsA_cons ?o3 (opsA_cons ?o4 (opsA_cons ?o5 (opsA_cons ?o6 (opsA_cons ?o7 (opsA_cons ?o8 (opsA_cons ?o9 (opsA_cons ?o10 opsA_nil))))))))))) ?rest
  case hA =>
    intro ptrs
    simp only [full, foldSlots, filledE, postE, List.foldl_cons, List.foldl_nil, List.getD_cons_zero, List.getD_cons_succ, fill_val, fill_row, fill_texts, List.set_cons_zero, List.set_cons_succ]
    exact rfl
  case o0 => exact fun _ _ hw _ => opE_value (v := .pointer (some ⟨g1, 0, none⟩)) rfl (run_fld 38 _ 0 rfl _ _ rfl _)
  case o1 => exact fun _ _ hw _ => opE_value (v := .slice (some ⟨g1, 0, none⟩) 16 16) rfl (run_arr_at _ rfl _ _ rfl _)
  case o2 => exact fun _ _ hw _ => opE_value (v := .pointer (some ⟨g1, 16, none⟩)) rfl (run_fld 38 _ 1 rfl _ _ rfl _)
  case o3 => exact fun _ _ hw _ => opE_value (v := .agg (c31 n p)) rfl (run_lda 35 _ rfl g1 16 17 rfl 38 _ (hw.has kg1) _ Try.underlying35 rfl si31 _)
  case o4 =>
    intro ptrs w' hw hE
    exact opE_call (rowE B (verL n p)) rfl _ 44 Try.call44 rfl rfl _ rfl [.agg (c31 n p)] rfl (ver_E B n p _ (Nat.le_trans hB (GG.drew.trans hw).size) hn hp)
  case o5 => exact fun _ _ hw _ => opE_value (v := .pointer (some ⟨g1, 33, none⟩)) rfl (run_fld 38 _ 2 rfl _ _ rfl _)
  case o6 => exact fun _ _ hw _ => opE_value (v := .slice vo v.length vc) rfl (run_ldc 36 _ rfl g1 33 rfl 38 _ (hw.has kg1) (na32 _) _ rfl)
  case o7 =>
    intro ptrs w' hw hE
    exact opE_new (textsE [v]) rfl (run_bsl 100 1 _ rfl [(0, .slice vo v.length vc)] rfl (by kernel_rfl)) (gro_alloc _ _) (texts_new [.slice vo v.length vc] [v] _ ⟨⟨_, _, rfl, (Hv.gro (GG.drew.trans hw))⟩, trivial⟩)
  case o8 =>
    intro ptrs w' hw hE
    obtain ⟨⟨ge7, h7, o7⟩, ⟨ao4, cap4, h4, o4⟩, _⟩ := hE
    exact (by have z0 := hl; exact opE_call (rowE B (putT [v])) rfl _ 38 Try.call38 rfl rfl _ rfl [.slice (some ⟨ge7, 0, none⟩) ([v]).length ([v]).length] (congrArg (fun v => [v]) h7) (putText_E B ge7 [v] _ (Nat.le_trans hB (GG.drew.trans hw).size) o7 (Nat.le_of_ble_eq_true rfl) (by have := t1_len v; omega)))
  case o9 =>
    intro ptrs w' hw hE
    obtain ⟨⟨ao4, cap4, h4, o4⟩, ⟨ao8, cap8, h8, o8⟩, _⟩ := hE
    exact opE_new (textsE [(idL k), (verL n p), (putT [v])]) rfl (run_bsl 100 3 _ rfl [(0, .slice (some ⟨g1, 0, none⟩) 16 16), (1, .slice ao4 (verL n p).length cap4), (2, .slice ao8 (putT [v]).length cap8)] (by show [(0, .slice (some ⟨g1, 0, none⟩) 16 16), (1, ptrs 4), (2, ptrs 8)] = _; rw [h4, h8]) (by kernel_rfl)) (gro_alloc _ _) (texts_new [.slice (some ⟨g1, 0, none⟩) 16 16, .slice ao4 (verL n p).length cap4, .slice ao8 (putT [v]).length cap8] [(idL k), (verL n p), (putT [v])] _ ⟨⟨_, _, rfl, (nc_id (hw.has kg1) k hk (by kernel_rfl))⟩, ⟨_, _, rfl, o4.nc⟩, ⟨_, _, rfl, o8.nc⟩, trivial⟩)
  case o10 =>
    intro ptrs w' hw hE
    obtain ⟨⟨ge9, h9, o9⟩, ⟨ao8, cap8, h8, o8⟩, _⟩ := hE
    exact (by have z0 := idL_len k; have z1 := verL_len n p; have z2 := t1_len v; exact opE_call (rowE B ((List.flatten [(idL k), (verL n p), (putT [v])]))) rfl _ 22 Try.call22 rfl rfl _ rfl [.slice (some ⟨ge9, 0, none⟩) ([(idL k), (verL n p), (putT [v])]).length ([(idL k), (verL n p), (putT [v])]).length] (congrArg (fun v => [v]) h9) (concat_E B ge9 [(idL k), (verL n p), (putT [v])] _ (Nat.le_trans hB (GG.drew.trans hw).size) o9 (Nat.le_of_ble_eq_true rfl) (by simp only [List.flatten_cons, List.flatten_nil, List.length_append, List.length_nil]; omega)))
  intro ptrs w2 GD hx
  simp only [List.drop_succ_cons, List.drop_zero]
  replace kg1 := GD.has kg1
  replace GG := GG.drew.trans GD
  obtain ⟨_, _, _, _, ⟨ao10x, cap10x, h10, o10x⟩, _⟩ := hx
  simp only [h10]
  clear GD
  refine mv 2 (.slice ao10x ((List.flatten [(idL k), (verL n p), (putT [v])])).length cap10x) ?_
  simp only [z0, z1]
  refine wpList_nil (then_n (wp_ret ?_))
  refine bodyPost_ret (results_tmp Try.results43 _ _ _) rfl ?_
  exact ⟨_, rfl, GG, _, _, rfl, o10x⟩
set_option maxRecDepth 100000 in
set_option maxHeartbeats 4000000 in
theorem flag_true (B : Nat) (w : World) (hB : B ≤ w.heap.size) : Calls Try.prog 41 #[.bool true] w (RetE (rowE B (flagL true)) w) := by
  refine s_enter Try.func41 rfl Try.ntmps41 [.bool true] [.bool true, undef, undef, undef, undef, undef, undef, undef] rfl ?_
  have GG := Gro.refl w
  refine wp_seq (wp_region_lit (mv 2 (.slice none 0 0) (wpList_nil (then_n (wp_seq (wp_seq (wp_region_lit (mv 3 (.bool true) (wpList_nil (then_n (wp_cond_true rfl (wp_seq (wp_region_lit ?_)))))))))))))
  refine s_ex 4 rfl (u64E 1) rfl (opE_new (u64E 1) rfl (run_oneU _ rfl _ rfl _) (gro_alloc _ _) (u64_new 1 lim1 _)) ?_
  rintro v w1 G ⟨ge1, rfl, o1⟩
  replace GG := GG.trans G
  clear G
  simp only [z0, z1]
  refine s_ex 5 rfl (rowE B (numL 1)) rfl (opE_call (rowE B (numL 1)) rfl _ 23 Try.call23 rfl rfl _ rfl [.slice (some ⟨ge1, 0, none⟩) ([1]).length ([1]).length] rfl (num_E B ge1 1 _ (Nat.le_trans hB GG.size) o1)) ?_
  rintro v w2 G ⟨ao2, cap2, rfl, o2⟩
  replace o1 := o1.gro G
  replace GG := GG.trans G
  clear G
  refine mv 2 (.slice ao2 (numL 1).length cap2) (wpList_nil (then_n (wp_ret (then_r ?_))))
  refine bodyPost_ret (results_tmp Try.results41 _ _ _) rfl ?_
  exact ⟨_, rfl, GG, _, _, rfl, o2⟩
set_option maxRecDepth 100000 in
set_option maxHeartbeats 4000000 in
theorem flag_false (B : Nat) (w : World) (hB : B ≤ w.heap.size) : Calls Try.prog 41 #[.bool false] w (RetE (rowE B (flagL false)) w) := by
  refine s_enter Try.func41 rfl Try.ntmps41 [.bool false] [.bool false, undef, undef, undef, undef, undef, undef, undef] rfl ?_
  have GG := Gro.refl w
  refine wp_seq (wp_region_lit (mv 2 (.slice none 0 0) (wpList_nil (then_n (wp_seq (wp_seq (wp_region_lit (mv 3 (.bool false) (wpList_nil (then_n (wp_cond_false rfl (wp_skip (then_n (wp_seq (wp_region_lit ?_)))))))))))))))
  refine s_ex 6 rfl (u64E 0) rfl (opE_new (u64E 0) rfl (run_oneU _ rfl _ rfl _) (gro_alloc _ _) (u64_new 0 lim0 _)) ?_
  rintro v w1 G ⟨ge1, rfl, o1⟩
  replace GG := GG.trans G
  clear G
  simp only [z0, z1]
  refine s_ex 7 rfl (rowE B (numL 0)) rfl (opE_call (rowE B (numL 0)) rfl _ 23 Try.call23 rfl rfl _ rfl [.slice (some ⟨ge1, 0, none⟩) ([0]).length ([0]).length] rfl (num_E B ge1 0 _ (Nat.le_trans hB GG.size) o1)) ?_
  rintro v w2 G ⟨ao2, cap2, rfl, o2⟩
  replace o1 := o1.gro G
  replace GG := GG.trans G
  clear G
  refine mv 2 (.slice ao2 (numL 0).length cap2) (wpList_nil (then_n (wp_ret ?_)))
  refine bodyPost_ret (results_tmp Try.results41 _ _ _) rfl ?_
  exact ⟨_, rfl, GG, _, _, rfl, o2⟩
theorem flag_E (B : Nat) (b : Bool) (w : World) (hB : B ≤ w.heap.size) : Calls Try.prog 41 #[.bool b] w (RetE (rowE B (flagL b)) w) := by
  cases b
  · exact flag_false B w hB
  · exact flag_true B w hB
end Go.Proofs.Ythmcnlmphikicab
