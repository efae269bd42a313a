/- A log's heads: numbers of eight bytes, heads, the head that counts. -/
import Derived.Test.YtgfnjekpafempaaGE1
namespace Go.Proofs.Ytgfnjekpafempaa
open Go.RowKit
def c119 (x0 : Int) (x1 : Int) (x2 : Int) : Array Value := #[.int .u64 x0, .int .u64 x1, .int .u64 x2]
theorem si119 : (Try.prog.info? 119).map (·.size) = some 3 := by kernel_rfl
theorem zv119 (w : World) : (zeroValue 119).run Try.prog w = .ok (.agg (c119 0 0 0)) w := by kernel_rfl
def c124 (x0 : Option Addr) (x1 : Int) (x2 : Int) (x3 : Int) (x4 : Bool) : Array Value := #[.pointer x0, .int .u64 x1, .int .u64 x2, .int .u64 x3, .bool x4]
theorem na32 (w : World) : (isAgg 32).run Try.prog w = .ok false w := by kernel_rfl
theorem na75 (w : World) : (isAgg 75).run Try.prog w = .ok false w := by kernel_rfl
theorem bato {o : Oper} {A : Act} (x y : Operand) (ho : o.op = .indexAddr 30 x y) (g a n cap j : Nat) (hx : A.eval x = .slice (some ⟨g, a, none⟩) n cap) (hy : A.eval y = .int .i64 (j : Int)) (hj : j < n) (w : World) :
    (execOp A.eval o).run Try.prog w = .ok (.value (.pointer (some ⟨g, a + j, none⟩))) w := by
  rw [run_idx bT x y ho ⟨g, a, none⟩ n cap j hx hy hj w, add_at]
theorem cut_getD (l : List Nat) (a j : Nat) (hj : j < 8) : ((l.drop a).take 8).getD j 0 = l.getD (a + j) 0 := by
  rw [List.getD_eq_getElem?_getD, List.getElem?_take, if_pos hj, List.getElem?_drop, ← List.getD_eq_getElem?_getD]
def hdC (h : Hd) : Array Value := c119 (h.g : Int) (h.u : Int) (h.c : Int)
set_option maxRecDepth 100000 in
set_option maxHeartbeats 4000000 in
theorem sectorsOf_any (w : World) (m : Nat) (hm : m ≤ 140737488355328) : Calls Try.prog 64 #[.int .i64 ((m : Nat) : Int)] w fun e w' => e = .returned (.int .i64 ((secN m : Nat) : Int)) ∧ Gro w w' := by
  refine s_enter Try.func64 rfl Try.ntmps64 [.int .i64 ((m : Nat) : Int)] [.int .i64 ((m : Nat) : Int), undef, undef, undef, undef, undef, undef, undef] rfl ?_
  have GG := Gro.refl w
  refine wp_seq ?_
  refine wp_region_lit ?_
  refine s_val 2 rfl rfl (.int .i64 0) (rfl) ?_
  refine nr ?_; intro U h; simp only [z0, z1] at h; subst h
  refine wpList_nil ?_
  refine then_n ?_
  refine wp_seq ?_
  refine wp_region_lit ?_
  refine s_val 3 rfl rfl (.int .i64 ((m : Nat) : Int)) (rfl) ?_
  refine nr ?_; intro U h; simp only [z0, z1] at h; subst h
  refine s_val 4 rfl rfl (.int .i64 ((2 + m : Nat) : Int)) (run_add64 _ _ _ rfl 2 ((m : Nat) : Int) _ rfl rfl (by omega) (by omega) (by omega) _) ?_
  refine nr ?_; intro U h; simp only [z0, z1] at h; subst h
  refine s_val 5 rfl rfl (.int .i64 ((2 + m + 64 : Nat) : Int)) (run_add64 _ _ _ rfl ((2 + m : Nat) : Int) 64 _ rfl rfl (by omega) (by omega) (by omega) _) ?_
  refine nr ?_; intro U h; simp only [z0, z1] at h; subst h
  refine s_val 6 rfl rfl (.int .i64 ((m + 65 : Nat) : Int)) (run_sub64 _ _ _ rfl ((2 + m + 64 : Nat) : Int) 1 _ rfl rfl (by omega) (by omega) (by omega) _) ?_
  refine nr ?_; intro U h; simp only [z0, z1] at h; subst h
  refine s_val 7 rfl rfl (.int .i64 ((secN m : Nat) : Int)) (run_quo64 _ _ _ rfl ((m + 65 : Nat) : Int) 64 _ rfl rfl (by decide) (tdivN _ 64) (by omega) (by omega) _) ?_
  refine nr ?_; intro U h; simp only [z0, z1] at h; subst h
  refine s_val 2 rfl rfl (.int .i64 ((secN m : Nat) : Int)) (rfl) ?_
  refine nr ?_; intro U h; simp only [z0, z1] at h; subst h
  refine wpList_nil ?_
  refine then_n ?_
  refine wp_ret ?_
  refine bodyPost_ret (results_tmp Try.results64 _ _ _) rfl ?_
  exact ⟨rfl, GG⟩
set_option maxRecDepth 100000 in
set_option maxHeartbeats 4000000 in
theorem number_any (w : World) (g : Nat) (l : List Nat) (Hg : w.heap[g]? = some (.cells (bv l) 5 (0, 0))) (hl : l.length = 64) (hb : ∀ x ∈ l, x < 256) (k : Nat) (hk : k ≤ 2) : Calls Try.prog 95 #[.slice (some ⟨g, 0, none⟩) 64 64, .int .i64 ((k : Nat) : Int)] w fun e w' => e = .returned (.int .u64 ((nm l k : Nat) : Int)) ∧ Gro w w' := by
  refine s_enter Try.func95 rfl Try.ntmps95 [.slice (some ⟨g, 0, none⟩) 64 64, .int .i64 ((k : Nat) : Int)] [.slice (some ⟨g, 0, none⟩) 64 64, .int .i64 ((k : Nat) : Int), undef, undef, undef, undef, undef, undef, undef, undef, undef, undef, undef, undef, undef, undef, undef, undef, undef, undef, undef, undef, undef] rfl ?_
  have GG := Gro.refl w
  have kg := Hg
  have hcl : ((l.drop (k * 8)).take 8).length = 8 := by rw [List.length_take, List.length_drop]; omega
  have hcb : ∀ x ∈ ((l.drop (k * 8)).take 8), x < 256 := fun x hx => hb x (List.mem_of_mem_drop (List.mem_of_mem_take hx))
  refine wp_seq ?_
  refine wp_region_lit ?_
  refine s_val 4 rfl rfl (.int .u64 0) (rfl) ?_
  refine nr ?_; intro U h; simp only [z0, z1] at h; subst h
  refine wpList_nil ?_
  refine then_n ?_
  refine wp_seq ?_
  refine wp_region_lit ?_
  refine s_val 5 rfl rfl (.int .u64 0) (rfl) ?_
  refine nr ?_; intro U h; simp only [z0, z1] at h; subst h
  refine wpList_nil ?_
  refine then_n ?_
  refine wp_seq ?_
  refine wp_seq ?_
  refine wp_region_lit ?_
  refine s_val 7 rfl rfl (.int .i64 0) (rfl) ?_
  refine nr ?_; intro U h; simp only [z0, z1] at h; subst h
  refine wpList_nil ?_
  refine then_n ?_
  refine wp_block ?_
  refine wp_loopN (fun mz az wv => ∃ (j : Nat) (us1 : Nat → Value), mz = 8 - j ∧ az = ⟨[.slice (some ⟨g, 0, none⟩) 64 64, .int .i64 ((k : Nat) : Int), undef, undef, .int .u64 0, .int .u64 ((valL (((l.drop (k * 8)).take 8).take j) : Nat) : Int), us1 0, .int .i64 ((j : Nat) : Int), us1 1, us1 2, us1 3, us1 4, us1 5, us1 6, us1 7, us1 8, us1 9, us1 10, us1 11, us1 12, us1 13, us1 14, undef].toArray, []⟩ ∧ j ≤ 8 ∧ Gro w wv ∧ wv.heap[g]? = some (.cells (bv l) 5 (0, 0))) ?_ _ ⟨0, (fun kz => ([undef, undef, undef, undef, undef, undef, undef, undef, undef, undef, undef, undef, undef, undef, undef] : List Value).getD kz undef), rfl, rfl, Nat.zero_le _, GG, kg⟩
  clear kg GG
  rintro mz az wv ⟨j, us1, rfl, rfl, hj, GG, kg⟩
  refine wp_seq ?_
  refine wp_region_lit ?_
  obtain ⟨p1, hp1⟩ : ∃ p, decide (((j : Nat) : Int) < 8) = p := ⟨_, rfl⟩
  refine s_val 8 rfl rfl (.bool p1) (run_lssT 3 _ _ _ rfl ((j : Nat) : Int) 8 rfl rfl p1 hp1 _) ?_
  refine nr ?_; intro U h; simp only [z0, z1] at h; subst h
  cases p1
  · have hjn : j = 8 := by have := of_decide_eq_false hp1; omega
    refine wpList_nil ?_
    refine then_n ?_
    refine wp_seq ?_
    refine wp_cond_false rfl ?_
    refine wp_exit ?_
    refine then_x ?_
    refine then_x ?_
    refine blk_x ?_
    refine then_n ?_
    refine wp_seq ?_
    refine wp_region_lit ?_
    refine s_val 22 rfl rfl (.int .u64 ((valL (((l.drop (k * 8)).take 8).take j) : Nat) : Int)) (rfl) ?_
    refine nr ?_; intro U h; simp only [z0, z1] at h; subst h
    refine s_val 4 rfl rfl (.int .u64 ((valL (((l.drop (k * 8)).take 8).take j) : Nat) : Int)) (rfl) ?_
    refine nr ?_; intro U h; simp only [z0, z1] at h; subst h
    refine wpList_nil ?_
    refine then_n ?_
    refine wp_ret ?_
    refine bodyPost_ret (results_tmp Try.results95 _ _ _) rfl ?_
    subst hjn
    have h8 : valL (((l.drop (k * 8)).take 8).take 8) = nm l k := by rw [nm, List.take_of_length_le (by omega)]
    rw [← h8]
    exact ⟨rfl, GG⟩
  have hjn : j < 8 := by have := of_decide_eq_true hp1; omega
  refine wpList_nil ?_
  refine then_n ?_
  refine wp_seq ?_
  refine wp_cond_true rfl ?_
  refine wp_skip ?_
  refine then_n ?_
  refine wp_seq ?_
  refine wp_block ?_
  refine wp_seq ?_
  refine wp_region_lit ?_
  refine s_val 9 rfl rfl (.int .i64 ((j : Nat) : Int)) (rfl) ?_
  refine nr ?_; intro U h; simp only [z0, z1] at h; subst h
  refine s_val 6 rfl rfl (.int .i64 ((j : Nat) : Int)) (rfl) ?_
  refine nr ?_; intro U h; simp only [z0, z1] at h; subst h
  refine wpList_nil ?_
  refine then_n ?_
  refine wp_region_lit ?_
  refine s_val 10 rfl rfl (.int .u64 ((valL (((l.drop (k * 8)).take 8).take j) : Nat) : Int)) (rfl) ?_
  refine nr ?_; intro U h; simp only [z0, z1] at h; subst h
  refine s_val 11 rfl rfl (.int .u64 ((valL (((l.drop (k * 8)).take 8).take j) * 256 : Nat) : Int)) (run_shl8 75 64 _ _ rfl (valL (((l.drop (k * 8)).take 8).take j)) (valL_small _ hcb j (by omega) hjn) .u64 rfl rfl _) ?_
  refine nr ?_; intro U h; simp only [z0, z1] at h; subst h
  refine s_val 12 rfl rfl (.slice (some ⟨g, 0, none⟩) 64 64) (rfl) ?_
  refine nr ?_; intro U h; simp only [z0, z1] at h; subst h
  refine s_val 13 rfl rfl (.int .i64 ((k : Nat) : Int)) (rfl) ?_
  refine nr ?_; intro U h; simp only [z0, z1] at h; subst h
  refine s_val 14 rfl rfl (.int .i64 ((k * 8 : Nat) : Int)) (run_mul64 _ _ _ rfl ((k : Nat) : Int) 8 _ rfl rfl (by omega) (by omega) (by omega) _) ?_
  refine nr ?_; intro U h; simp only [z0, z1] at h; subst h
  refine s_val 15 rfl rfl (.int .i64 ((j : Nat) : Int)) (rfl) ?_
  refine nr ?_; intro U h; simp only [z0, z1] at h; subst h
  refine s_val 16 rfl rfl (.int .i64 ((k * 8 + j : Nat) : Int)) (run_add64 _ _ _ rfl ((k * 8 : Nat) : Int) ((j : Nat) : Int) _ rfl rfl (by omega) (by omega) (by omega) _) ?_
  refine nr ?_; intro U h; simp only [z0, z1] at h; subst h
  refine s_val 17 rfl rfl (.pointer (some ⟨g, k * 8 + j, none⟩)) (bat _ _ rfl g 64 64 (k * 8 + j) rfl rfl (by omega) _) ?_
  refine nr ?_; intro U h; simp only [z0, z1] at h; subst h
  refine s_val 18 rfl rfl (.int .u8 ((l.getD (k * 8 + j) 0 : Nat) : Int)) (run_ld bT _ rfl ⟨g, k * 8 + j, none⟩ rfl _ _ (bvc kg (by omega))) ?_
  refine nr ?_; intro U h; simp only [z0, z1] at h; subst h
  refine s_val 19 rfl rfl (.int .u64 ((l.getD (k * 8 + j) 0 : Nat) : Int)) (conv525 _ rfl (l.getD (k * 8 + j) 0) (getD_lt hb _) rfl _) ?_
  refine nr ?_; intro U h; simp only [z0, z1] at h; subst h
  refine s_val 20 rfl rfl (.int .u64 (((valL (((l.drop (k * 8)).take 8).take (j + 1)) : Nat) : Int))) (run_or8 75 75 _ _ rfl (valL (((l.drop (k * 8)).take 8).take j)) (l.getD (k * 8 + j) 0) (valL_small _ hcb j (by omega) hjn) (getD_lt hb _) rfl rfl _ (by rw [valL_step _ j (by omega), cut_getD _ _ _ hjn]) _) ?_
  refine nr ?_; intro U h; simp only [z0, z1] at h; subst h
  refine s_val 5 rfl rfl (.int .u64 (((valL (((l.drop (k * 8)).take 8).take (j + 1)) : Nat) : Int))) (rfl) ?_
  refine nr ?_; intro U h; simp only [z0, z1] at h; subst h
  refine wpList_nil ?_
  refine blk_n ?_
  refine then_n ?_
  refine wp_region_lit ?_
  refine s_val 21 rfl rfl (.int .i64 ((j + 1 : Nat) : Int)) (run_add64 _ _ _ rfl ((j : Nat) : Int) 1 _ rfl rfl (by omega) (by omega) (by omega) _) ?_
  refine nr ?_; intro U h; simp only [z0, z1] at h; subst h
  refine s_val 7 rfl rfl (.int .i64 ((j + 1 : Nat) : Int)) (rfl) ?_
  refine nr ?_; intro U h; simp only [z0, z1] at h; subst h
  refine wpList_nil ?_
  refine then_n ?_
  exact ⟨_, (by omega : 8 - (j + 1) < 8 - j), j + 1, (fun kz => ([.int .i64 ((j : Nat) : Int), .bool true, .int .i64 ((j : Nat) : Int), .int .u64 ((valL (((l.drop (k * 8)).take 8).take j) : Nat) : Int), .int .u64 ((valL (((l.drop (k * 8)).take 8).take j) * 256 : Nat) : Int), .slice (some ⟨g, 0, none⟩) 64 64, .int .i64 ((k : Nat) : Int), .int .i64 ((k * 8 : Nat) : Int), .int .i64 ((j : Nat) : Int), .int .i64 ((k * 8 + j : Nat) : Int), .pointer (some ⟨g, k * 8 + j, none⟩), .int .u8 ((l.getD (k * 8 + j) 0 : Nat) : Int), .int .u64 ((l.getD (k * 8 + j) 0 : Nat) : Int), .int .u64 (((valL (((l.drop (k * 8)).take 8).take (j + 1)) : Nat) : Int)), .int .i64 ((j + 1 : Nat) : Int)] : List Value).getD kz undef), rfl, rfl, hjn, GG, kg⟩
set_option maxRecDepth 100000 in
set_option maxHeartbeats 4000000 in
theorem readHead_any (w : World) (p sg n : Nat) (L : List Nat) (pw dn : Int) (H : DK w p sg n L pw dn) (i : Nat) (hi : i < n) : Calls Try.prog 75 #[.pointer (some ⟨p, 0, none⟩), .int .i64 ((i : Nat) : Int)] w fun e w' => e = .returned (.agg (hdC (hdE (secL L i)))) ∧ Gro w w' := by
  refine s_enter Try.func75 rfl Try.ntmps75 [.pointer (some ⟨p, 0, none⟩), .int .i64 ((i : Nat) : Int)] [.pointer (some ⟨p, 0, none⟩), .int .i64 ((i : Nat) : Int), undef, undef, undef, undef, undef, undef, undef, undef, undef, undef, undef, undef, undef, undef, undef, undef, undef, undef, undef, undef, undef, undef, undef, undef, undef, undef, undef, undef, undef, undef, undef, undef, undef, undef, undef, undef, undef] rfl ?_
  have GG := Gro.refl w
  have kp := H.box
  have ksg := H.sec
  have hne := H.ne
  have hsl := secL_len H.len hi
  have hsb := secL_byte H.byte i
  refine wp_seq ?_
  refine wp_region_lit ?_
  refine s_alloc 4 rfl rfl 119 rfl _ zv119 _ rfl ?_
  intro w1 g1 G eg1 kg1
  have bg1 := size_base GG eg1
  have dpg1 := lt_new kp eg1
  have dsgg1 := lt_new ksg eg1
  replace kp := G.has kp
  replace ksg := G.has ksg
  replace GG := GG.trans G
  clear G eg1
  refine nr ?_; intro U h; simp only [z0, z1] at h; subst h
  refine wpList_nil ?_
  refine then_n ?_
  refine wp_seq ?_
  refine wp_region_lit ?_
  refine s_val 11 rfl rfl (.pointer (some ⟨p, 0, none⟩)) (rfl) ?_
  refine nr ?_; intro U h; simp only [z0, z1] at h; subst h
  refine s_val 12 rfl rfl (.int .i64 ((i : Nat) : Int)) (rfl) ?_
  refine nr ?_; intro U h; simp only [z0, z1] at h; subst h
  refine s_callx 13 rfl rfl _ 76 Try.call76 rfl rfl _ rfl [.pointer (some ⟨p, 0, none⟩), .int .i64 ((i : Nat) : Int)] rfl (read_ok _ p sg n L pw dn ⟨kp, ksg, H.len, H.le, H.byte, H.ne⟩ i hi) (fun _ _ ⟨_, he, _⟩ => ⟨_, he⟩) ?_
  rintro v w2 ⟨gr, he, G, bgr, kgr⟩
  cases he
  have dpgr : p < gr := Nat.lt_of_lt_of_le (lt_of_heap kp) bgr
  have dsggr : sg < gr := Nat.lt_of_lt_of_le (lt_of_heap ksg) bgr
  have dg1gr : g1 < gr := Nat.lt_of_lt_of_le (lt_of_heap kg1) bgr
  have bgr := Nat.le_trans GG.size bgr
  replace kp := G.has kp
  replace ksg := G.has ksg
  replace kg1 := G.has kg1
  replace GG := GG.trans G
  clear G
  refine nr ?_; intro U h; simp only [z0, z1] at h; subst h
  refine s_val 10 rfl rfl (.tuple #[.slice (some ⟨gr, 0, none⟩) 64 64, .int .i64 0]) (rfl) ?_
  refine nr ?_; intro U h; simp only [z0, z1] at h; subst h
  refine s_val 14 rfl rfl (.slice (some ⟨gr, 0, none⟩) 64 64) (rfl) ?_
  refine nr ?_; intro U h; simp only [z0, z1] at h; subst h
  refine s_val 15 rfl rfl (.int .i64 0) (rfl) ?_
  refine nr ?_; intro U h; simp only [z0, z1] at h; subst h
  refine s_val 5 rfl rfl (.slice (some ⟨gr, 0, none⟩) 64 64) (rfl) ?_
  refine nr ?_; intro U h; simp only [z0, z1] at h; subst h
  refine s_val 6 rfl rfl (.int .i64 0) (rfl) ?_
  refine nr ?_; intro U h; simp only [z0, z1] at h; subst h
  refine wpList_nil ?_
  refine then_n ?_
  refine wp_seq ?_
  refine wp_seq ?_
  refine wp_region_lit ?_
  refine s_val 16 rfl rfl (.slice (some ⟨gr, 0, none⟩) 64 64) (rfl) ?_
  refine nr ?_; intro U h; simp only [z0, z1] at h; subst h
  refine s_val 17 rfl rfl (.slice (some ⟨gr, 24, none⟩) 40 40) (cut_at _ _ rfl gr 64 24 rfl rfl (by decide) _) ?_
  refine nr ?_; intro U h; simp only [z0, z1] at h; subst h
  refine s_val 18 rfl rfl (.int .i64 ((40 : Nat) : Int)) (run_len Try.underlying30 _ rfl _ _ _ rfl _) ?_
  refine nr ?_; intro U h; simp only [z0, z1] at h; subst h
  refine s_val 19 rfl rfl (.int .i64 0) (rfl) ?_
  refine nr ?_; intro U h; simp only [z0, z1] at h; subst h
  refine wpList_nil ?_
  refine then_n ?_
  refine wp_block ?_
  refine wp_loopN (fun mz az wv => ∃ (j : Nat) (us1 : Nat → Value), mz = 40 - j ∧ az = ⟨[.pointer (some ⟨p, 0, none⟩), .int .i64 ((i : Nat) : Int), undef, undef, .pointer (some ⟨g1, 0, none⟩), .slice (some ⟨gr, 0, none⟩) 64 64, .int .i64 0, undef, us1 0, undef, .tuple #[.slice (some ⟨gr, 0, none⟩) 64 64, .int .i64 0], .pointer (some ⟨p, 0, none⟩), .int .i64 ((i : Nat) : Int), .tuple #[.slice (some ⟨gr, 0, none⟩) 64 64, .int .i64 0], .slice (some ⟨gr, 0, none⟩) 64 64, .int .i64 0, .slice (some ⟨gr, 0, none⟩) 64 64, .slice (some ⟨gr, 24, none⟩) 40 40, .int .i64 ((40 : Nat) : Int), .int .i64 ((j : Nat) : Int), us1 1, us1 2, us1 3, us1 4, us1 5, us1 6, us1 7, undef, undef, undef, undef, undef, undef, undef, undef, undef, undef, undef, undef].toArray, []⟩ ∧ j ≤ 40 ∧ (∀ x, x < j → (secL L i).getD (24 + x) 0 = 0) ∧ Gro w wv ∧ wv.heap[p]? = some (.cells (c101 ⟨some ⟨sg, 0, none⟩, n, n⟩ pw dn) 101 (0, 0)) ∧ wv.heap[sg]? = some (.cells (bv L) 98 (0, 0)) ∧ wv.heap[g1]? = some (.cells (c119 0 0 0) 119 (0, 0)) ∧ wv.heap[gr]? = some (.cells (bv (secL L i)) 5 (0, 0))) ?_ _ ⟨0, (fun kz => ([undef, undef, undef, undef, undef, undef, undef, undef] : List Value).getD kz undef), rfl, rfl, Nat.zero_le _, (fun x hx => absurd hx (Nat.not_lt_zero _)), GG, kp, ksg, kg1, kgr⟩
  clear kp ksg kg1 kgr GG
  rintro mz az wv ⟨j, us1, rfl, rfl, hj, hz, GG, kp, ksg, kg1, kgr⟩
  refine wp_seq ?_
  refine wp_region_lit ?_
  obtain ⟨p1, hp1⟩ : ∃ p, decide (((j : Nat) : Int) < ((40 : Nat) : Int)) = p := ⟨_, rfl⟩
  refine s_val 20 rfl rfl (.bool p1) (run_lssT 3 _ _ _ rfl ((j : Nat) : Int) ((40 : Nat) : Int) rfl rfl p1 hp1 _) ?_
  refine nr ?_; intro U h; simp only [z0, z1] at h; subst h
  cases p1
  · have hjn : j = 40 := by have := of_decide_eq_false hp1; omega
    subst hjn
    have hZ : zerosB (secL L i) = true := (zerosB_iff hsl).2 hz
    refine wpList_nil ?_
    refine then_n ?_
    refine wp_seq ?_
    refine wp_cond_false rfl ?_
    refine wp_exit ?_
    refine then_x ?_
    refine then_x ?_
    refine blk_x ?_
    refine then_n ?_
    refine wp_seq ?_
    refine wp_region_lit ?_
    refine s_val 27 rfl rfl (.slice (some ⟨gr, 0, none⟩) 64 64) (rfl) ?_
    refine nr ?_; intro U h; simp only [z0, z1] at h; subst h
    refine s_callv 28 rfl rfl _ 95 Try.call95 rfl rfl _ rfl [.slice (some ⟨gr, 0, none⟩) 64 64, .int .i64 0] rfl (number_any _ gr (secL L i) kgr hsl hsb 0 (by decide)) ?_
    intro w3 G
    replace kp := G.has kp
    replace ksg := G.has ksg
    replace kg1 := G.has kg1
    replace kgr := G.has kgr
    replace GG := GG.trans G
    clear G
    refine nr ?_; intro U h; simp only [z0, z1] at h; subst h
    refine s_val 29 rfl rfl (.slice (some ⟨gr, 0, none⟩) 64 64) (rfl) ?_
    refine nr ?_; intro U h; simp only [z0, z1] at h; subst h
    refine s_callv 30 rfl rfl _ 95 Try.call95 rfl rfl _ rfl [.slice (some ⟨gr, 0, none⟩) 64 64, .int .i64 1] rfl (number_any _ gr (secL L i) kgr hsl hsb 1 (by decide)) ?_
    intro w4 G
    replace kp := G.has kp
    replace ksg := G.has ksg
    replace kg1 := G.has kg1
    replace kgr := G.has kgr
    replace GG := GG.trans G
    clear G
    refine nr ?_; intro U h; simp only [z0, z1] at h; subst h
    refine s_val 31 rfl rfl (.slice (some ⟨gr, 0, none⟩) 64 64) (rfl) ?_
    refine nr ?_; intro U h; simp only [z0, z1] at h; subst h
    refine s_callv 32 rfl rfl _ 95 Try.call95 rfl rfl _ rfl [.slice (some ⟨gr, 0, none⟩) 64 64, .int .i64 2] rfl (number_any _ gr (secL L i) kgr hsl hsb 2 (by decide)) ?_
    intro w5 G
    replace kp := G.has kp
    replace ksg := G.has ksg
    replace kg1 := G.has kg1
    replace kgr := G.has kgr
    replace GG := GG.trans G
    clear G
    refine nr ?_; intro U h; simp only [z0, z1] at h; subst h
    refine s_val 33 rfl rfl (.agg (c119 ((nm (secL L i) 0 : Nat) : Int) ((nm (secL L i) 1 : Nat) : Int) ((nm (secL L i) 2 : Nat) : Int))) (run_bd 119 _ rfl [(0, .int .u64 ((nm (secL L i) 0 : Nat) : Int)), (1, .int .u64 ((nm (secL L i) 1 : Nat) : Int)), (2, .int .u64 ((nm (secL L i) 2 : Nat) : Int))] rfl _ (by kernel_rfl)) ?_
    refine nr ?_; intro U h; simp only [z0, z1] at h; subst h
    refine s_alloc 9 rfl rfl 119 rfl _ zv119 _ rfl ?_
    intro w6 g2 G eg2 kg2
    have bg2 := size_base GG eg2
    have dpg2 := lt_new kp eg2
    have dsgg2 := lt_new ksg eg2
    have dg1g2 := lt_new kg1 eg2
    have dgrg2 := lt_new kgr eg2
    replace kp := G.has kp
    replace ksg := G.has ksg
    replace kg1 := G.has kg1
    replace kgr := G.has kgr
    replace GG := GG.trans G
    clear G eg2
    refine nr ?_; intro U h; simp only [z0, z1] at h; subst h
    refine s_store rfl rfl 119 _ _ rfl g2 0 rfl (.agg (c119 ((nm (secL L i) 0 : Nat) : Int) ((nm (secL L i) 1 : Nat) : Int) ((nm (secL L i) 2 : Nat) : Int))) rfl 119 _ kg2 (c119 ((nm (secL L i) 0 : Nat) : Int) ((nm (secL L i) 1 : Nat) : Int) ((nm (secL L i) 2 : Nat) : Int)) rfl (by kernel_rfl) (Nat.le_of_ble_eq_true rfl) (by kernel_rfl) (c119 ((nm (secL L i) 0 : Nat) : Int) ((nm (secL L i) 1 : Nat) : Int) ((nm (secL L i) 2 : Nat) : Int)) (by kernel_rfl) ?_
    intro w8 St
    replace kp := St.has (by omega) kp
    replace ksg := St.has (by omega) ksg
    replace kg1 := St.has (by omega) kg1
    replace kgr := St.has (by omega) kgr
    replace GG := GG.store St bg2
    replace kg2 := St.new
    clear St
    refine wpList_nil ?_
    refine then_n ?_
    refine wp_seq ?_
    refine wp_seq ?_
    refine wp_region_lit ?_
    refine s_val 34 rfl rfl (.pointer (some ⟨g2, 0, none⟩)) (run_fld 119 _ 0 rfl _ _ rfl _ (by kernel_rfl)) ?_
    refine nr ?_; intro U h; simp only [z0, z1] at h; subst h
    refine s_val 35 rfl rfl (.int .u64 ((nm (secL L i) 0 : Nat) : Int)) (run_ldc 75 _ rfl g2 0 rfl 119 _ kg2 (na75 _) _ rfl) ?_
    refine nr ?_; intro U h; simp only [z0, z1] at h; subst h
    obtain ⟨p2, hp2⟩ : ∃ p, decide (((nm (secL L i) 0 : Nat) : Int) = 0) = p := ⟨_, rfl⟩
    refine s_val 36 rfl rfl (.bool p2) (run_eq_k 75 .u64 _ _ _ rfl Try.underlying75 ((nm (secL L i) 0 : Nat) : Int) 0 rfl rfl p2 hp2 _) ?_
    refine nr ?_; intro U h; simp only [z0, z1] at h; subst h
    cases p2
    · have h0 : nm (secL L i) 0 ≠ 0 := by have := of_decide_eq_false hp2; omega
      refine wpList_nil ?_
      refine then_n ?_
      refine wp_cond_false rfl ?_
      refine wp_skip ?_
      refine then_n ?_
      refine wp_seq ?_
      refine wp_region_lit ?_
      refine s_val 38 rfl rfl (.agg (c119 ((nm (secL L i) 0 : Nat) : Int) ((nm (secL L i) 1 : Nat) : Int) ((nm (secL L i) 2 : Nat) : Int))) (run_lda 119 _ rfl g2 0 3 rfl 119 _ kg2 _ Try.underlying119 rfl si119 (Nat.le_of_ble_eq_true rfl) _ (by kernel_rfl)) ?_
      refine nr ?_; intro U h; simp only [z0, z1] at h; subst h
      refine s_store rfl rfl 119 _ _ rfl g1 0 rfl (.agg (c119 ((nm (secL L i) 0 : Nat) : Int) ((nm (secL L i) 1 : Nat) : Int) ((nm (secL L i) 2 : Nat) : Int))) rfl 119 _ kg1 (c119 ((nm (secL L i) 0 : Nat) : Int) ((nm (secL L i) 1 : Nat) : Int) ((nm (secL L i) 2 : Nat) : Int)) rfl (by kernel_rfl) (Nat.le_of_ble_eq_true rfl) (by kernel_rfl) (c119 ((nm (secL L i) 0 : Nat) : Int) ((nm (secL L i) 1 : Nat) : Int) ((nm (secL L i) 2 : Nat) : Int)) (by kernel_rfl) ?_
      intro w10 St
      replace kp := St.has (by omega) kp
      replace ksg := St.has (by omega) ksg
      replace kgr := St.has (by omega) kgr
      replace kg2 := St.has (by omega) kg2
      replace GG := GG.store St bg1
      replace kg1 := St.new
      clear St
      refine wpList_nil ?_
      refine then_n ?_
      refine wp_ret ?_
      refine bodyPost_ret (results_cell_row Try.results75 _ _ g1 119 _ (0, 0) _ rfl kg1 Try.underlying119 rfl (by kernel_rfl)) rfl ?_
      first | (rw [hdE_not hsl hjn hbx]; exact ⟨rfl, GG⟩) | (rw [hdE_z hZ h0]; exact ⟨rfl, GG⟩) | (rw [hdE_v hZ h0]; exact ⟨rfl, GG⟩)
    have h0 : nm (secL L i) 0 = 0 := by have := of_decide_eq_true hp2; omega
    refine wpList_nil ?_
    refine then_n ?_
    refine wp_cond_true rfl ?_
    refine wp_seq ?_
    refine wp_region_lit ?_
    refine s_val 37 rfl rfl (.agg (c119 0 0 0)) (run_bd 119 _ rfl [] rfl _ (by kernel_rfl)) ?_
    refine nr ?_; intro U h; simp only [z0, z1] at h; subst h
    refine s_store rfl rfl 119 _ _ rfl g1 0 rfl (.agg (c119 0 0 0)) rfl 119 _ kg1 (c119 0 0 0) rfl (by kernel_rfl) (Nat.le_of_ble_eq_true rfl) (by kernel_rfl) (c119 0 0 0) (by kernel_rfl) ?_
    intro w10 St
    replace kp := St.has (by omega) kp
    replace ksg := St.has (by omega) ksg
    replace kgr := St.has (by omega) kgr
    replace kg2 := St.has (by omega) kg2
    replace GG := GG.store St bg1
    replace kg1 := St.new
    clear St
    refine wpList_nil ?_
    refine then_n ?_
    refine wp_ret ?_
    refine then_r ?_
    refine bodyPost_ret (results_cell_row Try.results75 _ _ g1 119 _ (0, 0) _ rfl kg1 Try.underlying119 rfl (by kernel_rfl)) rfl ?_
    first | (rw [hdE_not hsl hjn hbx]; exact ⟨rfl, GG⟩) | (rw [hdE_z hZ h0]; exact ⟨rfl, GG⟩) | (rw [hdE_v hZ h0]; exact ⟨rfl, GG⟩)
  have hjn : j < 40 := by have := of_decide_eq_true hp1; omega
  refine wpList_nil ?_
  refine then_n ?_
  refine wp_seq ?_
  refine wp_cond_true rfl ?_
  refine wp_skip ?_
  refine then_n ?_
  refine wp_seq ?_
  refine wp_block ?_
  refine wp_seq ?_
  refine wp_region_lit ?_
  refine s_val 21 rfl rfl (.pointer (some ⟨gr, 24 + j, none⟩)) (bato _ _ rfl gr 24 40 40 j rfl rfl hjn _) ?_
  refine nr ?_; intro U h; simp only [z0, z1] at h; subst h
  refine s_val 22 rfl rfl (.int .u8 ((((secL L i).getD (24 + j) 0 : Nat) : Int))) (run_ld bT _ rfl ⟨gr, 24 + j, none⟩ rfl _ _ (bvc kgr (by omega))) ?_
  refine nr ?_; intro U h; simp only [z0, z1] at h; subst h
  refine s_val 8 rfl rfl (.int .u8 ((((secL L i).getD (24 + j) 0 : Nat) : Int))) (rfl) ?_
  refine nr ?_; intro U h; simp only [z0, z1] at h; subst h
  refine wpList_nil ?_
  refine then_n ?_
  refine wp_seq ?_
  refine wp_region_lit ?_
  refine s_val 23 rfl rfl (.int .u8 ((((secL L i).getD (24 + j) 0 : Nat) : Int))) (rfl) ?_
  refine nr ?_; intro U h; simp only [z0, z1] at h; subst h
  obtain ⟨p2, hp2⟩ : ∃ p, decide ((secL L i).getD (24 + j) 0 ≠ 0) = p := ⟨_, rfl⟩
  refine s_val 24 rfl rfl (.bool p2) (run_neq_k 5 .u8 _ _ _ rfl Try.underlying5 (((secL L i).getD (24 + j) 0 : Nat) : Int) 0 rfl rfl p2 (by rw [← hp2]; exact dec_ne _) _) ?_
  refine nr ?_; intro U h; simp only [z0, z1] at h; subst h
  cases p2
  · have hbx : (secL L i).getD (24 + j) 0 = 0 := Decidable.of_not_not (of_decide_eq_false hp2)
    refine wpList_nil ?_
    refine then_n ?_
    refine wp_cond_false rfl ?_
    refine wp_skip ?_
    refine blk_n ?_
    refine then_n ?_
    refine wp_region_lit ?_
    refine s_val 26 rfl rfl (.int .i64 ((j + 1 : Nat) : Int)) (run_add64 _ _ _ rfl ((j : Nat) : Int) 1 _ rfl rfl (by omega) (by omega) (by omega) _) ?_
    refine nr ?_; intro U h; simp only [z0, z1] at h; subst h
    refine s_val 19 rfl rfl (.int .i64 ((j + 1 : Nat) : Int)) (rfl) ?_
    refine nr ?_; intro U h; simp only [z0, z1] at h; subst h
    refine wpList_nil ?_
    refine then_n ?_
    exact ⟨_, (by omega : 40 - (j + 1) < 40 - j), j + 1, (fun kz => ([.int .u8 ((((secL L i).getD (24 + j) 0 : Nat) : Int)), .bool true, .pointer (some ⟨gr, 24 + j, none⟩), .int .u8 ((((secL L i).getD (24 + j) 0 : Nat) : Int)), .int .u8 ((((secL L i).getD (24 + j) 0 : Nat) : Int)), .bool false, us1 6, .int .i64 ((j + 1 : Nat) : Int)] : List Value).getD kz undef), rfl, rfl, hjn, (fun x hx => by by_cases hxe : x = j; (subst hxe; exact hbx); exact hz x (by omega)), GG, kp, ksg, kg1, kgr⟩
  have hbx := of_decide_eq_true hp2
  refine wpList_nil ?_
  refine then_n ?_
  refine wp_cond_true rfl ?_
  refine wp_seq ?_
  refine wp_region_lit ?_
  refine s_val 25 rfl rfl (.agg (c119 0 0 0)) (run_bd 119 _ rfl [] rfl _ (by kernel_rfl)) ?_
  refine nr ?_; intro U h; simp only [z0, z1] at h; subst h
  refine s_store rfl rfl 119 _ _ rfl g1 0 rfl (.agg (c119 0 0 0)) rfl 119 _ kg1 (c119 0 0 0) rfl (by kernel_rfl) (Nat.le_of_ble_eq_true rfl) (by kernel_rfl) (c119 0 0 0) (by kernel_rfl) ?_
  intro w4 St
  replace kp := St.has (by omega) kp
  replace ksg := St.has (by omega) ksg
  replace kgr := St.has (by omega) kgr
  replace GG := GG.store St bg1
  replace kg1 := St.new
  clear St
  refine wpList_nil ?_
  refine then_n ?_
  refine wp_ret ?_
  refine blk_r ?_
  refine then_r ?_
  refine then_r ?_
  refine blk_r ?_
  refine then_r ?_
  refine bodyPost_ret (results_cell_row Try.results75 _ _ g1 119 _ (0, 0) _ rfl kg1 Try.underlying119 rfl (by kernel_rfl)) rfl ?_
  first | (rw [hdE_not hsl hjn hbx]; exact ⟨rfl, GG⟩) | (rw [hdE_z hZ h0]; exact ⟨rfl, GG⟩) | (rw [hdE_v hZ h0]; exact ⟨rfl, GG⟩)
set_option maxRecDepth 100000 in
set_option maxHeartbeats 4000000 in
theorem counting_any (w : World) (p sg n : Nat) (L : List Nat) (pw dn : Int) (H : DK w p sg n L pw dn) (hn : 2 ≤ n) : Calls Try.prog 59 #[.pointer (some ⟨p, 0, none⟩)] w fun e w' => e = .returned (.agg (hdC (cntE L))) ∧ Gro w w' := by
  refine s_enter Try.func59 rfl Try.ntmps59 [.pointer (some ⟨p, 0, none⟩)] [.pointer (some ⟨p, 0, none⟩), undef, undef, undef, undef, undef, undef, undef, undef, undef, undef, undef, undef, undef, undef, undef] rfl ?_
  have GG := Gro.refl w
  have kp := H.box
  have ksg := H.sec
  have hne := H.ne
  refine wp_seq ?_
  refine wp_region_lit ?_
  refine s_alloc 2 rfl rfl 119 rfl _ zv119 _ rfl ?_
  intro w1 g1 G eg1 kg1
  have bg1 := size_base GG eg1
  have dpg1 := lt_new kp eg1
  have dsgg1 := lt_new ksg eg1
  replace kp := G.has kp
  replace ksg := G.has ksg
  replace GG := GG.trans G
  clear G eg1
  refine nr ?_; intro U h; simp only [z0, z1] at h; subst h
  refine wpList_nil ?_
  refine then_n ?_
  refine wp_seq ?_
  refine wp_region_lit ?_
  refine s_val 5 rfl rfl (.pointer (some ⟨p, 0, none⟩)) (rfl) ?_
  refine nr ?_; intro U h; simp only [z0, z1] at h; subst h
  refine s_callv 6 rfl rfl _ 75 Try.call75 rfl rfl _ rfl [.pointer (some ⟨p, 0, none⟩), .int .i64 0] rfl (readHead_any _ p sg n L pw dn ⟨kp, ksg, H.len, H.le, H.byte, H.ne⟩ 0 (by omega)) ?_
  intro w2 G
  replace kp := G.has kp
  replace ksg := G.has ksg
  replace kg1 := G.has kg1
  replace GG := GG.trans G
  clear G
  refine nr ?_; intro U h; simp only [z0, z1] at h; subst h
  refine s_val 7 rfl rfl (.pointer (some ⟨p, 0, none⟩)) (rfl) ?_
  refine nr ?_; intro U h; simp only [z0, z1] at h; subst h
  refine s_callv 8 rfl rfl _ 75 Try.call75 rfl rfl _ rfl [.pointer (some ⟨p, 0, none⟩), .int .i64 1] rfl (readHead_any _ p sg n L pw dn ⟨kp, ksg, H.len, H.le, H.byte, H.ne⟩ 1 (by omega)) ?_
  intro w3 G
  replace kp := G.has kp
  replace ksg := G.has ksg
  replace kg1 := G.has kg1
  replace GG := GG.trans G
  clear G
  refine nr ?_; intro U h; simp only [z0, z1] at h; subst h
  refine s_alloc 3 rfl rfl 119 rfl _ zv119 _ rfl ?_
  intro w4 g2 G eg2 kg2
  have bg2 := size_base GG eg2
  have dpg2 := lt_new kp eg2
  have dsgg2 := lt_new ksg eg2
  have dg1g2 := lt_new kg1 eg2
  replace kp := G.has kp
  replace ksg := G.has ksg
  replace kg1 := G.has kg1
  replace GG := GG.trans G
  clear G eg2
  refine nr ?_; intro U h; simp only [z0, z1] at h; subst h
  refine s_alloc 4 rfl rfl 119 rfl _ zv119 _ rfl ?_
  intro w5 g3 G eg3 kg3
  have bg3 := size_base GG eg3
  have dpg3 := lt_new kp eg3
  have dsgg3 := lt_new ksg eg3
  have dg1g3 := lt_new kg1 eg3
  have dg2g3 := lt_new kg2 eg3
  replace kp := G.has kp
  replace ksg := G.has ksg
  replace kg1 := G.has kg1
  replace kg2 := G.has kg2
  replace GG := GG.trans G
  clear G eg3
  refine nr ?_; intro U h; simp only [z0, z1] at h; subst h
  refine s_store rfl rfl 119 _ _ rfl g2 0 rfl (.agg (c119 (((hdE (secL L 0)).g : Nat) : Int) (((hdE (secL L 0)).u : Nat) : Int) (((hdE (secL L 0)).c : Nat) : Int))) rfl 119 _ kg2 (c119 (((hdE (secL L 0)).g : Nat) : Int) (((hdE (secL L 0)).u : Nat) : Int) (((hdE (secL L 0)).c : Nat) : Int)) rfl (by kernel_rfl) (Nat.le_of_ble_eq_true rfl) (by kernel_rfl) (c119 (((hdE (secL L 0)).g : Nat) : Int) (((hdE (secL L 0)).u : Nat) : Int) (((hdE (secL L 0)).c : Nat) : Int)) (by kernel_rfl) ?_
  intro w7 St
  replace kp := St.has (by omega) kp
  replace ksg := St.has (by omega) ksg
  replace kg1 := St.has (by omega) kg1
  replace kg3 := St.has (by omega) kg3
  replace GG := GG.store St bg2
  replace kg2 := St.new
  clear St
  refine s_store rfl rfl 119 _ _ rfl g3 0 rfl (.agg (c119 (((hdE (secL L 1)).g : Nat) : Int) (((hdE (secL L 1)).u : Nat) : Int) (((hdE (secL L 1)).c : Nat) : Int))) rfl 119 _ kg3 (c119 (((hdE (secL L 1)).g : Nat) : Int) (((hdE (secL L 1)).u : Nat) : Int) (((hdE (secL L 1)).c : Nat) : Int)) rfl (by kernel_rfl) (Nat.le_of_ble_eq_true rfl) (by kernel_rfl) (c119 (((hdE (secL L 1)).g : Nat) : Int) (((hdE (secL L 1)).u : Nat) : Int) (((hdE (secL L 1)).c : Nat) : Int)) (by kernel_rfl) ?_
  intro w9 St
  replace kp := St.has (by omega) kp
  replace ksg := St.has (by omega) ksg
  replace kg1 := St.has (by omega) kg1
  replace kg2 := St.has (by omega) kg2
  replace GG := GG.store St bg3
  replace kg3 := St.new
  clear St
  refine wpList_nil ?_
  refine then_n ?_
  refine wp_seq ?_
  refine wp_seq ?_
  refine wp_region_lit ?_
  refine s_val 9 rfl rfl (.pointer (some ⟨g3, 0, none⟩)) (run_fld 119 _ 0 rfl _ _ rfl _ (by kernel_rfl)) ?_
  refine nr ?_; intro U h; simp only [z0, z1] at h; subst h
  refine s_val 10 rfl rfl (.int .u64 (((hdE (secL L 1)).g : Nat) : Int)) (run_ldc 75 _ rfl g3 0 rfl 119 _ kg3 (na75 _) _ rfl) ?_
  refine nr ?_; intro U h; simp only [z0, z1] at h; subst h
  refine s_val 11 rfl rfl (.pointer (some ⟨g2, 0, none⟩)) (run_fld 119 _ 0 rfl _ _ rfl _ (by kernel_rfl)) ?_
  refine nr ?_; intro U h; simp only [z0, z1] at h; subst h
  refine s_val 12 rfl rfl (.int .u64 (((hdE (secL L 0)).g : Nat) : Int)) (run_ldc 75 _ rfl g2 0 rfl 119 _ kg2 (na75 _) _ rfl) ?_
  refine nr ?_; intro U h; simp only [z0, z1] at h; subst h
  obtain ⟨p1, hp1⟩ : ∃ p, decide ((hdE (secL L 0)).g < (hdE (secL L 1)).g) = p := ⟨_, rfl⟩
  refine s_val 13 rfl rfl (.bool p1) (run_gtrU 75 75 _ _ rfl (hdE (secL L 1)).g (hdE (secL L 0)).g rfl rfl p1 hp1 _) ?_
  refine nr ?_; intro U h; simp only [z0, z1] at h; subst h
  cases p1
  · have hc : cntE L = hdE (secL L 0) := if_neg (of_decide_eq_false hp1)
    refine wpList_nil ?_
    refine then_n ?_
    refine wp_cond_false rfl ?_
    refine wp_skip ?_
    refine then_n ?_
    refine wp_seq ?_
    refine wp_region_lit ?_
    refine s_val 15 rfl rfl (.agg (c119 (((hdE (secL L 0)).g : Nat) : Int) (((hdE (secL L 0)).u : Nat) : Int) (((hdE (secL L 0)).c : Nat) : Int))) (run_lda 119 _ rfl g2 0 3 rfl 119 _ kg2 _ Try.underlying119 rfl si119 (Nat.le_of_ble_eq_true rfl) _ (by kernel_rfl)) ?_
    refine nr ?_; intro U h; simp only [z0, z1] at h; subst h
    refine s_store rfl rfl 119 _ _ rfl g1 0 rfl (.agg (c119 (((hdE (secL L 0)).g : Nat) : Int) (((hdE (secL L 0)).u : Nat) : Int) (((hdE (secL L 0)).c : Nat) : Int))) rfl 119 _ kg1 (c119 (((hdE (secL L 0)).g : Nat) : Int) (((hdE (secL L 0)).u : Nat) : Int) (((hdE (secL L 0)).c : Nat) : Int)) rfl (by kernel_rfl) (Nat.le_of_ble_eq_true rfl) (by kernel_rfl) (c119 (((hdE (secL L 0)).g : Nat) : Int) (((hdE (secL L 0)).u : Nat) : Int) (((hdE (secL L 0)).c : Nat) : Int)) (by kernel_rfl) ?_
    intro w11 St
    replace kp := St.has (by omega) kp
    replace ksg := St.has (by omega) ksg
    replace kg2 := St.has (by omega) kg2
    replace kg3 := St.has (by omega) kg3
    replace GG := GG.store St bg1
    replace kg1 := St.new
    clear St
    refine wpList_nil ?_
    refine then_n ?_
    refine wp_ret ?_
    refine bodyPost_ret (results_cell_row Try.results59 _ _ g1 119 _ (0, 0) _ rfl kg1 Try.underlying119 rfl (by kernel_rfl)) rfl ?_
    rw [hc]
    exact ⟨rfl, GG⟩
  have hc : cntE L = hdE (secL L 1) := if_pos (of_decide_eq_true hp1)
  refine wpList_nil ?_
  refine then_n ?_
  refine wp_cond_true rfl ?_
  refine wp_seq ?_
  refine wp_region_lit ?_
  refine s_val 14 rfl rfl (.agg (c119 (((hdE (secL L 1)).g : Nat) : Int) (((hdE (secL L 1)).u : Nat) : Int) (((hdE (secL L 1)).c : Nat) : Int))) (run_lda 119 _ rfl g3 0 3 rfl 119 _ kg3 _ Try.underlying119 rfl si119 (Nat.le_of_ble_eq_true rfl) _ (by kernel_rfl)) ?_
  refine nr ?_; intro U h; simp only [z0, z1] at h; subst h
  refine s_store rfl rfl 119 _ _ rfl g1 0 rfl (.agg (c119 (((hdE (secL L 1)).g : Nat) : Int) (((hdE (secL L 1)).u : Nat) : Int) (((hdE (secL L 1)).c : Nat) : Int))) rfl 119 _ kg1 (c119 (((hdE (secL L 1)).g : Nat) : Int) (((hdE (secL L 1)).u : Nat) : Int) (((hdE (secL L 1)).c : Nat) : Int)) rfl (by kernel_rfl) (Nat.le_of_ble_eq_true rfl) (by kernel_rfl) (c119 (((hdE (secL L 1)).g : Nat) : Int) (((hdE (secL L 1)).u : Nat) : Int) (((hdE (secL L 1)).c : Nat) : Int)) (by kernel_rfl) ?_
  intro w11 St
  replace kp := St.has (by omega) kp
  replace ksg := St.has (by omega) ksg
  replace kg2 := St.has (by omega) kg2
  replace kg3 := St.has (by omega) kg3
  replace GG := GG.store St bg1
  replace kg1 := St.new
  clear St
  refine wpList_nil ?_
  refine then_n ?_
  refine wp_ret ?_
  refine then_r ?_
  refine bodyPost_ret (results_cell_row Try.results59 _ _ g1 119 _ (0, 0) _ rfl kg1 Try.underlying119 rfl (by kernel_rfl)) rfl ?_
  rw [hc]
  exact ⟨rfl, GG⟩
end Go.Proofs.Ytgfnjekpafempaa
