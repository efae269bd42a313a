/- Disk: all bytes; a disk of bytes. -/
import Derived.Test.YtgfnjekpafempaaGD3
namespace Go.Proofs.Ytgfnjekpafempaa
open Go.RowKit
theorem wr_next {L : List Nat} {n j : Nat} (h : L.length = n * 64) (hj : j < n) : wr (L.take (j * 64) ++ zs (n * 64 - j * 64)) (j * 64) (secL L j) = L.take ((j + 1) * 64) ++ zs (n * 64 - (j + 1) * 64) := by
  have h1 : (L.take (j * 64)).length = j * 64 := by rw [List.length_take]; omega
  have h2 := secL_len h hj
  rw [wr, h2, List.take_left' h1]
  have h3 : j * 64 + 64 = (L.take (j * 64)).length + 64 := by rw [h1]
  rw [h3, List.drop_length_add_append]
  have h4 : (zs (n * 64 - j * 64)).drop 64 = zs (n * 64 - (j + 1) * 64) := by
    simp only [zs, List.drop_replicate]
    congr 1
    omega
  rw [h4]
  congr 1
  rw [Nat.add_mul, Nat.one_mul, List.take_add, secL]
theorem wr_first (n : Nat) (L : List Nat) : zs (n * 64) = L.take (0 * 64) ++ zs (n * 64 - 0 * 64) := by simp
theorem wr_last {L : List Nat} {n : Nat} (h : L.length = n * 64) : L.take (n * 64) ++ zs (n * 64 - n * 64) = L := by
  rw [Nat.sub_self, List.take_of_length_le (by omega)]
  simp [zs]
theorem mix_len {L : List Nat} {n j : Nat} (h : L.length = n * 64) (hj : j ≤ n) : (L.take (j * 64) ++ zs (n * 64 - j * 64)).length = n * 64 := by
  rw [List.length_append, zs_len, List.length_take]
  omega
theorem wr_next_of {L : List Nat} {n j : Nat} (h : L.length = n * 64) (hj : j < n) : wr (L.take (j * 64) ++ zs (n * 64 - j * 64)) (j * 64) ((L.drop (j * 64)).take 64) = L.take ((j + 1) * 64) ++ zs (n * 64 - (j + 1) * 64) := wr_next h hj
theorem run_rem64 {P : Program} {o : Oper} {A : Act} (x y : Operand) (t2 : TypeId) (ho : o.op = .binOp .rem 3 x y t2) (a b r : Int) (hx : A.eval x = .int .i64 a) (hy : A.eval y = .int .i64 b) (hb : b ≠ 0) (hr : a.tmod b = r) (_h1 : -9223372036854775808 ≤ r) (_h2 : r < 9223372036854775808) (w : World) : (execOp A.eval o).run P w = .ok (.value (.int .i64 r)) w := by
  subst hr
  refine run_binop .rem 3 x y t2 ho _ _ _ hx hy (by simp [eqGuard]) ?_
  simp [binOp, Op.intDiv, hb]
theorem cut_at {o : Oper} {A : Act} (x y : Operand) (ho : o.op = .slice 30 x (some y) none none) (g n i : Nat) (hx : A.eval x = .slice (some ⟨g, 0, none⟩) n n) (hy : A.eval y = .int .i64 (i : Int)) (hi : i < n) (w : World) :
    (execOp A.eval o).run Try.prog w = .ok (.value (.slice (some ⟨g, i, none⟩) (n - i) (n - i))) w := by
  rw [run_cut bT x y ho (some ⟨g, 0, none⟩) n n i hx hy (by omega) w, if_neg (by omega), Option.map_some, add_at, Nat.zero_add]
set_option maxRecDepth 100000 in
set_option maxHeartbeats 4000000 in
theorem bytes_any (w : World) (p sg n : Nat) (L : List Nat) (pw dn : Int) (H : DK w p sg n L pw dn) : Calls Try.prog 15 #[.pointer (some ⟨p, 0, none⟩)] w fun e w' => ∃ g, e = .returned (.slice (some ⟨g, 0, none⟩) (n * 64) (n * 64)) ∧ Gro w w' ∧ w.heap.size ≤ g ∧ w'.heap[g]? = some (.cells (bv L) 5 (0, 0)) := by
  refine s_enter Try.func15 rfl Try.ntmps15 [.pointer (some ⟨p, 0, none⟩)] [.pointer (some ⟨p, 0, none⟩), undef, undef, undef, undef, undef, undef, undef, undef, undef, undef, undef, undef, undef, undef, undef, undef, undef, undef, undef, undef, undef, undef, undef, undef, undef, undef, undef] rfl ?_
  have GG := Gro.refl w
  have kp := H.box
  have ksg := H.sec
  have hne := H.ne
  refine wp_seq ?_
  refine wp_region_lit ?_
  refine s_val 2 rfl rfl (.slice none 0 0) (rfl) ?_
  refine nr ?_; intro U h; simp only [z0, z1] at h; subst h
  refine wpList_nil ?_
  refine then_n ?_
  refine wp_seq ?_
  refine wp_region_lit ?_
  refine s_val 5 rfl rfl (.pointer (some ⟨p, 0, none⟩)) (rfl) ?_
  refine nr ?_; intro U h; simp only [z0, z1] at h; subst h
  refine s_callv 6 rfl rfl _ 43 Try.call43 rfl rfl _ rfl [.pointer (some ⟨p, 0, none⟩)] rfl (size_any w p sg n L pw dn (H.gro GG)) ?_
  intro w1 G
  replace kp := G.has kp
  replace ksg := G.has ksg
  replace GG := GG.trans G
  clear G
  refine nr ?_; intro U h; simp only [z0, z1] at h; subst h
  refine s_val 7 rfl rfl (.int .i64 ((n * 64 : Nat) : Int)) (run_mul64 _ _ _ rfl ((n : Nat) : Int) 64 _ rfl rfl (by omega) (by have := H.le; omega) (by have := H.le; omega) _) ?_
  refine nr ?_; intro U h; simp only [z0, z1] at h; subst h
  refine s_make bT 8 rfl rfl _ _ rfl (n * 64) rfl rfl (by have := H.le; omega) (by have := H.le; simp only [maxLen]; omega) ?_
  intro w2 g G eg kg
  have bg := size_base GG eg
  have dpg := lt_new kp eg
  have dsgg := lt_new ksg eg
  replace kp := G.has kp
  replace ksg := G.has ksg
  replace GG := GG.trans G
  clear G eg
  refine nr ?_; intro U h; simp only [z0, z1] at h; subst h
  refine s_val 3 rfl rfl (.slice (some ⟨g, 0, none⟩) (n * 64) (n * 64)) (rfl) ?_
  refine nr ?_; intro U h; simp only [z0, z1] at h; subst h
  refine wpList_nil ?_
  refine then_n ?_
  refine wp_seq ?_
  refine wp_seq ?_
  refine wp_region_lit ?_
  refine s_val 9 rfl rfl (.pointer (some ⟨p, 0, none⟩)) (rfl) ?_
  refine nr ?_; intro U h; simp only [z0, z1] at h; subst h
  refine s_callv 10 rfl rfl _ 43 Try.call43 rfl rfl _ rfl [.pointer (some ⟨p, 0, none⟩)] rfl (size_any w2 p sg n L pw dn (H.gro GG)) ?_
  intro w3 G
  replace kp := G.has kp
  replace ksg := G.has ksg
  replace kg := G.has kg
  replace GG := GG.trans G
  clear G
  refine nr ?_; intro U h; simp only [z0, z1] at h; subst h
  refine s_val 11 rfl rfl (.int .i64 0) (rfl) ?_
  refine nr ?_; intro U h; simp only [z0, z1] at h; subst h
  refine wpList_nil ?_
  refine then_n ?_
  refine wp_block ?_
  refine wp_loopN (fun m a wv => ∃ (j : Nat) (u4 u12 u13 u14 u15 u16 u17 u18 u19 u20 u21 u22 u23 u24 u25 u26 : Value), m = n - j ∧ a = ⟨[.pointer (some ⟨p, 0, none⟩), undef, .slice none 0 0, .slice (some ⟨g, 0, none⟩) (n * 64) (n * 64), u4, .pointer (some ⟨p, 0, none⟩), .int .i64 ((n : Nat) : Int), .int .i64 ((n * 64 : Nat) : Int), .slice (some ⟨g, 0, none⟩) (n * 64) (n * 64), .pointer (some ⟨p, 0, none⟩), .int .i64 ((n : Nat) : Int), .int .i64 ((j : Nat) : Int), u12, u13, u14, u15, u16, u17, u18, u19, u20, u21, u22, u23, u24, u25, u26, undef].toArray, []⟩ ∧ j ≤ n ∧ Gro w wv ∧ wv.heap[p]? = some (.cells (c101 ⟨some ⟨sg, 0, none⟩, n, n⟩ pw dn) 101 (0, 0)) ∧ wv.heap[sg]? = some (.cells (bv L) 98 (0, 0)) ∧ wv.heap[g]? = some (.cells (bv (L.take (j * 64) ++ zs (n * 64 - j * 64))) 5 (0, 0))) ?_ _ ⟨0, undef, undef, undef, undef, undef, undef, undef, undef, undef, undef, undef, undef, undef, undef, undef, undef, rfl, rfl, Nat.zero_le _, GG, kp, ksg, by rw [← wr_first]; exact kg⟩
  clear kp ksg kg GG
  rintro m a wv ⟨j, u4, u12, u13, u14, u15, u16, u17, u18, u19, u20, u21, u22, u23, u24, u25, u26, rfl, rfl, hj, GG, kp, ksg, kg⟩
  refine wp_seq ?_
  refine wp_region_lit ?_
  obtain ⟨p1, hp1⟩ : ∃ p, decide (((j : Nat) : Int) < ((n : Nat) : Int)) = p := ⟨_, rfl⟩
  refine s_val 12 rfl rfl (.bool p1) (run_lssT 3 _ _ _ rfl ((j : Nat) : Int) ((n : Nat) : Int) rfl rfl p1 hp1 _) ?_
  refine nr ?_; intro U h; simp only [z0, z1] at h; subst h
  cases p1
  · have hjn : j = n := by have := of_decide_eq_false hp1; omega
    refine wpList_nil ?_
    refine then_n ?_
    refine wp_seq ?_
    refine wp_cond_false rfl ?_
    refine wp_exit ?_
    refine then_x ?_
    refine then_x ?_
    refine blk_x ?_
    refine then_n ?_
    refine wp_seq ?_
    refine wp_region_lit ?_
    refine s_val 27 rfl rfl (.slice (some ⟨g, 0, none⟩) (n * 64) (n * 64)) (rfl) ?_
    refine nr ?_; intro U h; simp only [z0, z1] at h; subst h
    refine s_val 2 rfl rfl (.slice (some ⟨g, 0, none⟩) (n * 64) (n * 64)) (rfl) ?_
    refine nr ?_; intro U h; simp only [z0, z1] at h; subst h
    refine wpList_nil ?_
    refine then_n ?_
    refine wp_ret ?_
    refine bodyPost_ret (results_tmp Try.results15 _ _ _) rfl ?_
    subst hjn
    rw [wr_last H.len] at kg
    exact ⟨g, rfl, GG, bg, kg⟩
  have hjn : j < n := by have := of_decide_eq_true hp1; omega
  refine wpList_nil ?_
  refine then_n ?_
  refine wp_seq ?_
  refine wp_cond_true rfl ?_
  refine wp_skip ?_
  refine then_n ?_
  refine wp_seq ?_
  refine wp_block ?_
  refine wp_seq ?_
  refine wp_region_lit ?_
  refine s_val 13 rfl rfl (.int .i64 ((j : Nat) : Int)) (rfl) ?_
  refine nr ?_; intro U h; simp only [z0, z1] at h; subst h
  refine s_val 4 rfl rfl (.int .i64 ((j : Nat) : Int)) (rfl) ?_
  refine nr ?_; intro U h; simp only [z0, z1] at h; subst h
  refine wpList_nil ?_
  refine then_n ?_
  refine wp_region_exA (A := ?A) 11 [(0, 14), (1, 15), (2, 16), (3, 17), (4, 18), (5, 19), (6, 20), (7, 21), (8, 22), (9, 23), (10, 24)] [.val (.slice (some ⟨g, 0, none⟩) (n * 64) (n * 64)), .val (.int .i64 ((j : Nat) : Int)), .val (.int .i64 ((j * 64 : Nat) : Int)), .val (.slice (some ⟨g, j * 64, none⟩) (n * 64 - j * 64) (n * 64 - j * 64)), .val (.pointer (some ⟨p, 0, none⟩)), .val (.pointer (some ⟨p, 0, none⟩)), .val (.pointer (some ⟨p, 0, none⟩)), .val (.slice (some ⟨sg, 0, none⟩) n n), .val (.int .i64 ((j : Nat) : Int)), .val (.pointer (some ⟨sg, j * 64, none⟩)), .val (.slice (some ⟨sg, j * 64, none⟩) 64 64)] follows (by kernel_rfl) rfl ?hA (opsA_cons ?o0 (opsA_cons ?o1 (opsA_cons ?o2 (opsA_cons ?o3 (opsA_cons ?o4 (opsA_cons ?o5 (opsA_cons ?o6 (opsA_cons ?o7 (opsA_cons ?o8 (opsA_cons ?o9 (opsA_cons ?o10 opsA_nil))))))))))) ?rest
  case hA =>
    intro ptrs
    simp only [full, foldSlots, filledE, postE, List.foldl_cons, List.foldl_nil, List.getD_cons_zero, List.getD_cons_succ, fill_val, List.set_cons_zero, List.set_cons_succ]
    exact rfl
  case o0 => exact fun _ _ _ _ => opE_move (v := .slice (some ⟨g, 0, none⟩) (n * 64) (n * 64)) _ rfl rfl rfl
  case o1 => exact fun _ _ _ _ => opE_move (v := .int .i64 ((j : Nat) : Int)) _ rfl rfl rfl
  case o2 => exact fun _ _ hw _ => opE_value (v := .int .i64 ((j * 64 : Nat) : Int)) rfl (run_mul64 _ _ _ rfl ((j : Nat) : Int) 64 _ rfl rfl (by omega) (by have := H.le; omega) (by have := H.le; omega) _)
  case o3 => exact fun _ _ hw _ => opE_value (v := .slice (some ⟨g, j * 64, none⟩) (n * 64 - j * 64) (n * 64 - j * 64)) rfl (cut_at _ _ rfl g (n * 64) (j * 64) rfl rfl (by omega) _)
  case o4 => exact fun _ _ _ _ => opE_move (v := .pointer (some ⟨p, 0, none⟩)) _ rfl rfl rfl
  case o5 => exact fun _ _ hw _ => opE_value (v := .pointer (some ⟨p, 0, none⟩)) rfl (run_nc _ rfl _ rfl)
  case o6 => exact fun _ _ hw _ => opE_value (v := .pointer (some ⟨p, 0, none⟩)) rfl (run_fld 101 _ 0 rfl _ _ rfl _ (by kernel_rfl))
  case o7 => exact fun _ _ hw _ => opE_value (v := .slice (some ⟨sg, 0, none⟩) n n) rfl (run_ldc 99 _ rfl p 0 rfl 101 _ (hw.has kp) (na99 _) _ rfl)
  case o8 => exact fun _ _ _ _ => opE_move (v := .int .i64 ((j : Nat) : Int)) _ rfl rfl rfl
  case o9 => exact fun _ _ hw _ => opE_value (v := .pointer (some ⟨sg, j * 64, none⟩)) rfl (run_idx64 _ _ rfl sg n n j rfl rfl hjn _)
  case o10 => exact fun _ _ hw _ => opE_value (v := .slice (some ⟨sg, j * 64, none⟩) 64 64) rfl (run_arr64 _ rfl _ _ rfl _)
  intro ptrs w4 GD hxE
  simp only [List.drop_succ_cons, List.drop_zero]
  replace kp := GD.has kp
  replace ksg := GD.has ksg
  replace kg := GD.has kg
  replace GG := GG.drew.trans GD
  clear GD
  refine s_copy bT 25 rfl rfl _ _ rfl g (j * 64) (n * 64 - j * 64) (n * 64 - j * 64) rfl kg rfl (secL_len H.len hjn) (nc_blk ksg (sec_fit H.len hjn) (Nat.le_refl _) H.byte) (List.take_of_length_le (by rw [secL_len H.len hjn]; omega)) (by rw [mix_len H.len hj]; omega) ?_
  intro w5 St
  replace kp := St.has (by omega) kp
  replace ksg := St.has (by omega) ksg
  replace GG := GG.store St bg
  replace kg := St.new
  clear St
  rw [wr_next H.len hjn] at kg
  refine nr ?_; intro U h; simp only [z0, z1] at h; subst h
  refine wpList_nil ?_
  refine blk_n ?_
  refine then_n ?_
  refine wp_region_lit ?_
  refine s_val 26 rfl rfl (.int .i64 ((j + 1 : Nat) : Int)) (run_add64 _ _ _ rfl ((j : Nat) : Int) 1 _ rfl rfl (by omega) (by have := H.le; omega) (by have := H.le; omega) _) ?_
  refine nr ?_; intro U h; simp only [z0, z1] at h; subst h
  refine s_val 11 rfl rfl (.int .i64 ((j + 1 : Nat) : Int)) (rfl) ?_
  refine nr ?_; intro U h; simp only [z0, z1] at h; subst h
  refine wpList_nil ?_
  refine then_n ?_
  exact ⟨_, (by omega : n - (j + 1) < n - j), j + 1, .int .i64 ((j : Nat) : Int), .bool true, .int .i64 ((j : Nat) : Int), .slice (some ⟨g, 0, none⟩) (n * 64) (n * 64), .int .i64 ((j : Nat) : Int), .int .i64 ((j * 64 : Nat) : Int), .slice (some ⟨g, j * 64, none⟩) (n * 64 - j * 64) (n * 64 - j * 64), .pointer (some ⟨p, 0, none⟩), .pointer (some ⟨p, 0, none⟩), .pointer (some ⟨p, 0, none⟩), .slice (some ⟨sg, 0, none⟩) n n, .int .i64 ((j : Nat) : Int), .pointer (some ⟨sg, j * 64, none⟩), .slice (some ⟨sg, j * 64, none⟩) 64 64, .int .i64 (((secL L j).length : Nat) : Int), .int .i64 ((j + 1 : Nat) : Int), rfl, rfl, hjn, GG, kp, ksg, kg⟩
set_option maxRecDepth 100000 in
set_option maxHeartbeats 4000000 in
theorem of_ok (w : World) (ao : Option Addr) (cap : Nat) (l : List Nat) (HB : NC w .u8 ao cap l) (n : Nat) (hln : l.length = n * 64) (hn : n ≤ 4096) : Calls Try.prog 36 #[.slice ao l.length cap] w fun e w' => ∃ p sg, e = .returned (.tuple #[.pointer (some ⟨p, 0, none⟩), .int .i64 0]) ∧ Gro w w' ∧ w.heap.size ≤ p ∧ w.heap.size ≤ sg ∧ DK w' p sg n l (-1) 0 := by
  refine s_enter Try.func36 rfl Try.ntmps36 [.slice ao l.length cap] [.slice ao l.length cap, undef, undef, undef, undef, undef, undef, undef, undef, undef, undef, undef, undef, undef, undef, undef, undef, undef, undef, undef, undef, undef, undef, undef, undef, undef, undef, undef, undef, undef, undef, undef, undef, undef, undef, undef, undef, undef, undef, undef, undef, undef] rfl ?_
  have GG := Gro.refl w
  have HN := HB
  have hl : l.length < 9223372036854775808 := by omega
  refine wp_seq ?_
  refine wp_region_lit ?_
  refine s_val 2 rfl rfl (.pointer none) (rfl) ?_
  refine nr ?_; intro U h; simp only [z0, z1] at h; subst h
  refine s_val 3 rfl rfl (.int .i64 0) (rfl) ?_
  refine nr ?_; intro U h; simp only [z0, z1] at h; subst h
  refine wpList_nil ?_
  refine then_n ?_
  refine wp_seq ?_
  refine wp_region_lit ?_
  refine s_val 7 rfl rfl (.slice ao l.length cap) (rfl) ?_
  refine nr ?_; intro U h; simp only [z0, z1] at h; subst h
  refine s_val 8 rfl rfl (.int .i64 ((l.length : Nat) : Int)) (run_len Try.underlying30 _ rfl _ _ _ rfl _) ?_
  refine nr ?_; intro U h; simp only [z0, z1] at h; subst h
  refine s_val 9 rfl rfl (.int .i64 ((n : Nat) : Int)) (run_quo64 _ _ _ rfl ((l.length : Nat) : Int) 64 _ rfl rfl (by decide) ((tdivN _ 64).trans (by omega)) (by omega) (by omega) _) ?_
  refine nr ?_; intro U h; simp only [z0, z1] at h; subst h
  refine s_val 4 rfl rfl (.int .i64 ((n : Nat) : Int)) (rfl) ?_
  refine nr ?_; intro U h; simp only [z0, z1] at h; subst h
  refine wpList_nil ?_
  refine then_n ?_
  refine wp_seq ?_
  refine wp_seq ?_
  refine wp_region_opq ?_
  intro OPS hY
  have y4 := hY 4 14 rfl
  clear hY
  refine s_val 10 rfl rfl (.slice ao l.length cap) (rfl) ?_
  refine nr ?_; intro U h; simp only [z0, z1] at h; subst h
  refine s_val 11 rfl rfl (.int .i64 ((l.length : Nat) : Int)) (run_len Try.underlying30 _ rfl _ _ _ rfl _) ?_
  refine nr ?_; intro U h; simp only [z0, z1] at h; subst h
  refine s_val 12 rfl rfl (.int .i64 ((l.length % 64 : Nat) : Int)) (run_rem64 _ _ _ rfl ((l.length : Nat) : Int) 64 _ rfl rfl (by decide) (tmodN _ 64) (by omega) (by omega) _) ?_
  refine nr ?_; intro U h; simp only [z0, z1] at h; subst h
  refine s_val 13 rfl rfl (.bool false) (run_neq_k 3 .i64 _ _ _ rfl Try.underlying3 ((l.length % 64 : Nat) : Int) 0 rfl rfl false (by first | exact decide_eq_true (by omega) | exact decide_eq_false (by omega)) _) ?_
  refine nr ?_; intro U h; simp only [z0, z1] at h; subst h
  refine s_val 14 rfl rfl (.bool false) (rfl) ?_
  refine nr ?_; intro U h; simp only [z0, z1] at h; subst h
  refine s_gvalY 15 rfl rfl y4 rfl (.int .i64 ((n : Nat) : Int)) (rfl) ?_
  refine nr ?_; intro U h; simp only [z0, z1] at h; subst h
  refine s_gvalY 16 rfl rfl y4 rfl (.bool false) (run_gtrT 3 _ _ _ rfl ((n : Nat) : Int) 4096 rfl rfl false (decide_eq_false (by omega)) _) ?_
  refine nr ?_; intro U h; simp only [z0, z1] at h; subst h
  refine s_val 17 rfl rfl (.bool false) (rfl) ?_
  refine nr ?_; intro U h; simp only [z0, z1] at h; subst h
  refine wpList_nil ?_
  refine then_n ?_
  refine wp_cond_false rfl ?_
  refine wp_skip ?_
  refine then_n ?_
  refine wp_seq ?_
  refine wp_region_lit ?_
  refine s_val 18 rfl rfl (.int .i64 ((n : Nat) : Int)) (rfl) ?_
  refine nr ?_; intro U h; simp only [z0, z1] at h; subst h
  have HC := new_any w ((n : Nat) : Int)
  rw [clN_nat n hn] at HC
  refine s_callx 19 rfl rfl _ 23 Try.call23 rfl rfl _ rfl [.int .i64 ((n : Nat) : Int)] rfl HC (fun _ _ ⟨_, _, he, _⟩ => ⟨_, he⟩) ?_
  rintro v w1 ⟨p, sg, he, G, bp, bsg, HD⟩
  cases he
  clear HC
  replace bp := Nat.le_trans GG.size bp
  replace bsg := Nat.le_trans GG.size bsg
  replace HN := HN.gro G
  replace GG := GG.trans G
  clear G
  refine nr ?_; intro U h; simp only [z0, z1] at h; subst h
  have kp := HD.box
  have ksg := HD.sec
  have hne := HD.ne
  clear HD
  refine s_val 5 rfl rfl (.pointer (some ⟨p, 0, none⟩)) (rfl) ?_
  refine nr ?_; intro U h; simp only [z0, z1] at h; subst h
  refine wpList_nil ?_
  refine then_n ?_
  refine wp_seq ?_
  refine wp_seq ?_
  refine wp_region_lit ?_
  refine s_val 20 rfl rfl (.pointer (some ⟨p, 0, none⟩)) (rfl) ?_
  refine nr ?_; intro U h; simp only [z0, z1] at h; subst h
  refine s_val 21 rfl rfl (.pointer (some ⟨p, 0, none⟩)) (run_nc _ rfl _ rfl) ?_
  refine nr ?_; intro U h; simp only [z0, z1] at h; subst h
  refine s_val 22 rfl rfl (.pointer (some ⟨p, 0, none⟩)) (run_fld 101 _ 0 rfl _ _ rfl _ (by kernel_rfl)) ?_
  refine nr ?_; intro U h; simp only [z0, z1] at h; subst h
  refine s_val 23 rfl rfl (.slice (some ⟨sg, 0, none⟩) n n) (run_ldc 99 _ rfl p 0 rfl 101 _ kp (na99 _) _ rfl) ?_
  refine nr ?_; intro U h; simp only [z0, z1] at h; subst h
  refine s_val 24 rfl rfl (.int .i64 ((n : Nat) : Int)) (run_len Try.underlying99 _ rfl _ _ _ rfl _) ?_
  refine nr ?_; intro U h; simp only [z0, z1] at h; subst h
  refine s_val 25 rfl rfl (.int .i64 0) (rfl) ?_
  refine nr ?_; intro U h; simp only [z0, z1] at h; subst h
  refine wpList_nil ?_
  refine then_n ?_
  refine wp_block ?_
  refine wp_loopN (fun m a wv => ∃ (j : Nat) (u6 u26 u27 u28 u29 u30 u31 u32 u33 u34 u35 u36 u37 u38 u39 u40 : Value), m = n - j ∧ a = ⟨[.slice ao l.length cap, undef, .pointer none, .int .i64 0, .int .i64 ((n : Nat) : Int), .pointer (some ⟨p, 0, none⟩), u6, .slice ao l.length cap, .int .i64 ((l.length : Nat) : Int), .int .i64 ((n : Nat) : Int), .slice ao l.length cap, .int .i64 ((l.length : Nat) : Int), .int .i64 ((l.length % 64 : Nat) : Int), .bool false, .bool false, .int .i64 ((n : Nat) : Int), .bool false, .bool false, .int .i64 ((n : Nat) : Int), .pointer (some ⟨p, 0, none⟩), .pointer (some ⟨p, 0, none⟩), .pointer (some ⟨p, 0, none⟩), .pointer (some ⟨p, 0, none⟩), .slice (some ⟨sg, 0, none⟩) n n, .int .i64 ((n : Nat) : Int), .int .i64 ((j : Nat) : Int), u26, u27, u28, u29, u30, u31, u32, u33, u34, u35, u36, u37, u38, u39, u40, undef].toArray, []⟩ ∧ j ≤ n ∧ Gro w wv ∧ wv.heap[p]? = some (.cells (c101 ⟨some ⟨sg, 0, none⟩, n, n⟩ (-1) 0) 101 (0, 0)) ∧ wv.heap[sg]? = some (.cells (bv (l.take (j * 64) ++ zs (n * 64 - j * 64))) 98 (0, 0))) ?_ _ ⟨0, undef, undef, undef, undef, undef, undef, undef, undef, undef, undef, undef, undef, undef, undef, undef, undef, rfl, rfl, Nat.zero_le _, GG, kp, by rw [← wr_first]; exact ksg⟩
  clear kp ksg GG
  rintro m a wv ⟨j, u6, u26, u27, u28, u29, u30, u31, u32, u33, u34, u35, u36, u37, u38, u39, u40, rfl, rfl, hj, GG, kp, ksg⟩
  clear HN
  have HN := HB.gro GG
  refine wp_seq ?_
  refine wp_region_lit ?_
  obtain ⟨p1, hp1⟩ : ∃ p, decide (((j : Nat) : Int) < ((n : Nat) : Int)) = p := ⟨_, rfl⟩
  refine s_val 26 rfl rfl (.bool p1) (run_lssT 3 _ _ _ rfl ((j : Nat) : Int) ((n : Nat) : Int) rfl rfl p1 hp1 _) ?_
  refine nr ?_; intro U h; simp only [z0, z1] at h; subst h
  cases p1
  · have hjn : j = n := by have := of_decide_eq_false hp1; omega
    refine wpList_nil ?_
    refine then_n ?_
    refine wp_seq ?_
    refine wp_cond_false rfl ?_
    refine wp_exit ?_
    refine then_x ?_
    refine then_x ?_
    refine blk_x ?_
    refine then_n ?_
    refine wp_seq ?_
    refine wp_region_lit ?_
    refine s_val 41 rfl rfl (.pointer (some ⟨p, 0, none⟩)) (rfl) ?_
    refine nr ?_; intro U h; simp only [z0, z1] at h; subst h
    refine s_val 2 rfl rfl (.pointer (some ⟨p, 0, none⟩)) (rfl) ?_
    refine nr ?_; intro U h; simp only [z0, z1] at h; subst h
    refine s_val 3 rfl rfl (.int .i64 0) (rfl) ?_
    refine nr ?_; intro U h; simp only [z0, z1] at h; subst h
    refine wpList_nil ?_
    refine then_n ?_
    refine wp_ret ?_
    refine bodyPost_ret (results_tmp2 Try.results36 _ _ _) rfl ?_
    subst hjn
    rw [wr_last hln] at ksg
    exact ⟨p, sg, rfl, GG, bp, bsg, kp, ksg, hln, hn, HB.lt256, hne⟩
  have hjn : j < n := by have := of_decide_eq_true hp1; omega
  refine wpList_nil ?_
  refine then_n ?_
  refine wp_seq ?_
  refine wp_cond_true rfl ?_
  refine wp_skip ?_
  refine then_n ?_
  refine wp_seq ?_
  refine wp_block ?_
  refine wp_seq ?_
  refine wp_region_lit ?_
  refine s_val 27 rfl rfl (.int .i64 ((j : Nat) : Int)) (rfl) ?_
  refine nr ?_; intro U h; simp only [z0, z1] at h; subst h
  refine s_val 6 rfl rfl (.int .i64 ((j : Nat) : Int)) (rfl) ?_
  refine nr ?_; intro U h; simp only [z0, z1] at h; subst h
  refine wpList_nil ?_
  refine then_n ?_
  refine wp_region_exA (A := ?A) 11 [(0, 28), (1, 29), (2, 30), (3, 31), (4, 32), (5, 33), (6, 34), (7, 35), (8, 36), (9, 37), (10, 38)] [.val (.pointer (some ⟨p, 0, none⟩)), .val (.pointer (some ⟨p, 0, none⟩)), .val (.pointer (some ⟨p, 0, none⟩)), .val (.slice (some ⟨sg, 0, none⟩) n n), .val (.int .i64 ((j : Nat) : Int)), .val (.pointer (some ⟨sg, j * 64, none⟩)), .val (.slice (some ⟨sg, j * 64, none⟩) 64 64), .val (.slice ao l.length cap), .val (.int .i64 ((j : Nat) : Int)), .val (.int .i64 ((j * 64 : Nat) : Int)), .val (.slice (if cap = j * 64 then ao else ao.map (·.add (j * 64))) (l.length - j * 64) (cap - j * 64))] follows (by kernel_rfl) rfl ?hA (opsA_cons ?o0 (opsA_cons ?o1 (opsA_cons ?o2 (opsA_cons ?o3 (opsA_cons ?o4 (opsA_cons ?o5 (opsA_cons ?o6 (opsA_cons ?o7 (opsA_cons ?o8 (opsA_cons ?o9 (opsA_cons ?o10 opsA_nil))))))))))) ?rest
  case hA =>
    intro ptrs
    simp only [full, foldSlots, filledE, postE, List.foldl_cons, List.foldl_nil, List.getD_cons_zero, List.getD_cons_succ, fill_val, List.set_cons_zero, List.set_cons_succ]
    exact rfl
  case o0 => exact fun _ _ _ _ => opE_move (v := .pointer (some ⟨p, 0, none⟩)) _ rfl rfl rfl
  case o1 => exact fun _ _ hw _ => opE_value (v := .pointer (some ⟨p, 0, none⟩)) rfl (run_nc _ rfl _ rfl)
  case o2 => exact fun _ _ hw _ => opE_value (v := .pointer (some ⟨p, 0, none⟩)) rfl (run_fld 101 _ 0 rfl _ _ rfl _ (by kernel_rfl))
  case o3 => exact fun _ _ hw _ => opE_value (v := .slice (some ⟨sg, 0, none⟩) n n) rfl (run_ldc 99 _ rfl p 0 rfl 101 _ (hw.has kp) (na99 _) _ rfl)
  case o4 => exact fun _ _ _ _ => opE_move (v := .int .i64 ((j : Nat) : Int)) _ rfl rfl rfl
  case o5 => exact fun _ _ hw _ => opE_value (v := .pointer (some ⟨sg, j * 64, none⟩)) rfl (run_idx64 _ _ rfl sg n n j rfl rfl hjn _)
  case o6 => exact fun _ _ hw _ => opE_value (v := .slice (some ⟨sg, j * 64, none⟩) 64 64) rfl (run_arr64 _ rfl _ _ rfl _)
  case o7 => exact fun _ _ _ _ => opE_move (v := .slice ao l.length cap) _ rfl rfl rfl
  case o8 => exact fun _ _ _ _ => opE_move (v := .int .i64 ((j : Nat) : Int)) _ rfl rfl rfl
  case o9 => exact fun _ _ hw _ => opE_value (v := .int .i64 ((j * 64 : Nat) : Int)) rfl (run_mul64 _ _ _ rfl ((j : Nat) : Int) 64 _ rfl rfl (by omega) (by omega) (by omega) _)
  case o10 => exact fun _ _ hw _ => opE_value (v := .slice (if cap = j * 64 then ao else ao.map (·.add (j * 64))) (l.length - j * 64) (cap - j * 64)) rfl (run_cut bT _ _ rfl ao l.length cap (j * 64) rfl rfl (by omega) _)
  intro ptrs w2 GD hxE
  simp only [List.drop_succ_cons, List.drop_zero]
  replace kp := GD.has kp
  replace ksg := GD.has ksg
  replace HN := HN.gro ((Gro.refl _).drew.trans GD)
  replace GG := GG.drew.trans GD
  clear GD
  refine s_copy bT 39 rfl rfl _ _ rfl sg (j * 64) 64 64 rfl ksg rfl (List.length_drop) (HN.drop (j * 64) (by omega)) rfl (by rw [mix_len hln (Nat.le_of_lt hjn)]; omega) ?_
  intro w3 St
  replace kp := St.has (by omega) kp
  replace HN := HB.gro GG
  replace GG := GG.store St bsg
  replace ksg := St.new
  clear St
  rw [wr_next_of hln hjn] at ksg
  refine nr ?_; intro U h; simp only [z0, z1] at h; subst h
  refine wpList_nil ?_
  refine blk_n ?_
  refine then_n ?_
  refine wp_region_lit ?_
  refine s_val 40 rfl rfl (.int .i64 ((j + 1 : Nat) : Int)) (run_add64 _ _ _ rfl ((j : Nat) : Int) 1 _ rfl rfl (by omega) (by omega) (by omega) _) ?_
  refine nr ?_; intro U h; simp only [z0, z1] at h; subst h
  refine s_val 25 rfl rfl (.int .i64 ((j + 1 : Nat) : Int)) (rfl) ?_
  refine nr ?_; intro U h; simp only [z0, z1] at h; subst h
  refine wpList_nil ?_
  refine then_n ?_
  exact ⟨_, (by omega : n - (j + 1) < n - j), j + 1, .int .i64 ((j : Nat) : Int), .bool true, .int .i64 ((j : Nat) : Int), .pointer (some ⟨p, 0, none⟩), .pointer (some ⟨p, 0, none⟩), .pointer (some ⟨p, 0, none⟩), .slice (some ⟨sg, 0, none⟩) n n, .int .i64 ((j : Nat) : Int), .pointer (some ⟨sg, j * 64, none⟩), .slice (some ⟨sg, j * 64, none⟩) 64 64, .slice ao l.length cap, .int .i64 ((j : Nat) : Int), .int .i64 ((j * 64 : Nat) : Int), .slice (if cap = j * 64 then ao else ao.map (·.add (j * 64))) (l.length - j * 64) (cap - j * 64), .int .i64 (((secL l j).length : Nat) : Int), .int .i64 ((j + 1 : Nat) : Int), rfl, rfl, hjn, GG, kp, ksg⟩
end Go.Proofs.Ytgfnjekpafempaa
