/- Disk: made anew, read, written. -/
import Derived.Test.YtgfnjekpafempaaGD2
namespace Go.Proofs.Ytgfnjekpafempaa
open Go.RowKit
theorem sT : RowT Try.prog 99 98 64 64 (.agg z64) := ⟨Try.underlying99, info_of (by kernel_rfl), rfl, by decide⟩
theorem zv98 (w : World) : (zeroValue 98).run Try.prog w = .ok (.agg z64) w := by kernel_rfl
theorem si98 : (Try.prog.info? 98).map (·.size) = some 64 := by kernel_rfl
theorem run_arr64 {o : Oper} {A : Act} (x : Operand) (ho : o.op = .slice 98 x none none none) (g off : Nat) (hx : A.eval x = .pointer (some ⟨g, off, none⟩)) (w : World) : (execOp A.eval o).run Try.prog w = .ok (.value (.slice (some ⟨g, off, none⟩) 64 64)) w := by
  have h : (Instr.sliceAt 98 (.pointer (some ⟨g, off, none⟩)) none none none).run Try.prog w = .ok (.slice (some ⟨g, off, none⟩) 64 64) w := by kernel_rfl
  unfold execOp
  simp only [ho, hx, Option.map_none, Sem.run_bind, h, Result.andThen_ok, Sem.run_pure]
theorem run_idx64 {o : Oper} {A : Act} (x y : Operand) (ho : o.op = .indexAddr 99 x y) (g n cap j : Nat) (hx : A.eval x = .slice (some ⟨g, 0, none⟩) n cap) (hy : A.eval y = .int .i64 (j : Int)) (hj : j < n) (w : World) :
    (execOp A.eval o).run Try.prog w = .ok (.value (.pointer (some ⟨g, j * 64, none⟩))) w := by
  rw [run_idxX sT x y ho ⟨g, 0, none⟩ n cap j hx hy hj w, add_at, Nat.zero_add]
def clN (x : Int) : Nat := (min (max x 0) 4096).toNat
theorem clN_eq (x : Int) : min (max x 0) 4096 = ((clN x : Nat) : Int) := by unfold clN; omega
theorem clN_le (x : Int) : clN x ≤ 4096 := by unfold clN; omega
theorem clN_nat (n : Nat) (h : n ≤ 4096) : clN (n : Int) = n := by unfold clN; omega
def secL (L : List Nat) (i : Nat) : List Nat := (L.drop (i * 64)).take 64
theorem sec_fit {n i : Nat} {L : List Nat} (h : L.length = n * 64) (hi : i < n) : i * 64 + 64 ≤ L.length := by omega
theorem secL_len {n i : Nat} {L : List Nat} (h : L.length = n * 64) (hi : i < n) : (secL L i).length = 64 := by
  rw [secL, List.length_take, List.length_drop]; omega
theorem secL_take (L : List Nat) (i : Nat) : (secL L i).take 64 = secL L i := by simp [secL, List.take_take]
theorem secL_byte {L : List Nat} (h : ∀ x ∈ L, x < 256) (i : Nat) : ∀ x ∈ secL L i, x < 256 := fun x hx => h x (List.mem_of_mem_drop (List.mem_of_mem_take hx))
def padS (l : List Nat) : List Nat := l ++ zs (64 - l.length)
theorem wr_padn (n : Nat) (l : List Nat) : wr (zs n) 0 l = l ++ zs (n - l.length) := by
  simp [wr, zs]
theorem wr_pad {l : List Nat} : wr (zs 64) 0 l = padS l := wr_padn 64 l
theorem padS_len {l : List Nat} (h : l.length ≤ 64) : (padS l).length = 64 := by rw [padS, List.length_append, zs_len]; omega
theorem padS_byte {l : List Nat} (h : ∀ x ∈ l, x < 256) : ∀ x ∈ padS l, x < 256 := fun x hx => by
  rcases List.mem_append.1 hx with hx | hx
  · exact h x hx
  · exact zs_byte _ x hx
theorem pad_extract {l : List Nat} (h : l.length ≤ 64) : (bv (padS l)).extract 0 (0 + 64) = bv (padS l) := by
  rw [bv_extract, List.drop_zero, List.take_of_length_le (by rw [padS_len h]; exact Nat.le_refl _)]
theorem hasB_t {n i : Nat} (h : i < n) : hasB n (i : Int) = true := by
  unfold hasB
  rw [decide_eq_true (by omega : (0 : Int) ≤ (i : Int))]
  exact decide_eq_true (by omega)
theorem hasB_nat {n : Nat} {i : Int} (h : hasB n i = true) : ∃ j : Nat, i = (j : Int) ∧ j < n := by
  unfold hasB at h
  cases h1 : decide (0 ≤ i)
  · rw [h1] at h; cases h
  · rw [h1] at h
    have h2 : i < (n : Int) := of_decide_eq_true h
    have h3 : 0 ≤ i := of_decide_eq_true h1
    exact ⟨i.toNat, by omega, by omega⟩
set_option maxRecDepth 100000 in
set_option maxHeartbeats 4000000 in
theorem new_any (w : World) (x : Int) : Calls Try.prog 23 #[.int .i64 x] w fun e w' => ∃ p sg, e = .returned (.pointer (some ⟨p, 0, none⟩)) ∧ Gro w w' ∧ w.heap.size ≤ p ∧ w.heap.size ≤ sg ∧ DK w' p sg (clN x) (zs (clN x * 64)) (-1) 0 := by
  refine s_enter Try.func23 rfl Try.ntmps23 [.int .i64 x] [.int .i64 x, undef, undef, undef, undef, undef, undef, undef, undef, undef, undef] rfl ?_
  have GG := Gro.refl w
  refine wp_seq ?_
  refine wp_region_lit ?_
  refine s_val 2 rfl rfl (.pointer none) (rfl) ?_
  refine nr ?_; intro U h; simp only [z0, z1] at h; subst h
  refine wpList_nil ?_
  refine then_n ?_
  refine wp_seq ?_
  refine wp_region_lit ?_
  refine s_val 4 rfl rfl (.int .i64 x) (rfl) ?_
  refine nr ?_; intro U h; simp only [z0, z1] at h; subst h
  refine s_val 5 rfl rfl (.int .i64 (max x 0)) (run_max64 _ _ _ rfl x 0 _ rfl rfl rfl _) ?_
  refine nr ?_; intro U h; simp only [z0, z1] at h; subst h
  refine s_val 6 rfl rfl (.int .i64 ((clN x : Nat) : Int)) (run_min64 _ _ _ rfl (max x 0) 4096 _ rfl rfl (clN_eq x) _) ?_
  refine nr ?_; intro U h; simp only [z0, z1] at h; subst h
  refine s_val 3 rfl rfl (.int .i64 ((clN x : Nat) : Int)) (rfl) ?_
  refine nr ?_; intro U h; simp only [z0, z1] at h; subst h
  refine wpList_nil ?_
  refine then_n ?_
  refine wp_seq ?_
  refine wp_region_lit ?_
  refine s_val 7 rfl rfl (.int .i64 ((clN x : Nat) : Int)) (rfl) ?_
  refine nr ?_; intro U h; simp only [z0, z1] at h; subst h
  refine s_make64 sT 8 rfl rfl _ _ rfl (clN x) rfl rfl (by have := clN_le x; omega) (by have := clN_le x; simp only [maxLen]; omega) ?_
  intro w1 sg G esg ksg
  have bsg := size_base GG esg
  replace GG := GG.trans G
  clear G esg
  refine nr ?_; intro U h; simp only [z0, z1] at h; subst h
  refine s_val 9 rfl rfl (.agg (c101 ⟨some ⟨sg, 0, none⟩, clN x, clN x⟩ (-1) 0)) (run_bd 101 _ rfl [(0, .slice (some ⟨sg, 0, none⟩) (clN x) (clN x)), (1, .int .i64 (-1))] rfl _ (by kernel_rfl)) ?_
  refine nr ?_; intro U h; simp only [z0, z1] at h; subst h
  refine s_box 10 rfl rfl 101 _ rfl _ rfl (c101 ⟨some ⟨sg, 0, none⟩, clN x, clN x⟩ (-1) 0) rfl ?_
  intro w2 g2 G eg2 kg2
  have bg2 := size_base GG eg2
  have dsgg2 := lt_new ksg eg2
  replace ksg := G.has ksg
  replace GG := GG.trans G
  clear G eg2
  refine nr ?_; intro U h; simp only [z0, z1] at h; subst h
  refine s_val 2 rfl rfl (.pointer (some ⟨g2, 0, none⟩)) (rfl) ?_
  refine nr ?_; intro U h; simp only [z0, z1] at h; subst h
  refine wpList_nil ?_
  refine then_n ?_
  refine wp_ret ?_
  refine bodyPost_ret (results_tmp Try.results23 _ _ _) rfl ?_
  exact ⟨g2, sg, rfl, GG, bg2, bsg, kg2, ksg, zs_len _, clN_le x, zs_byte _, by omega⟩
set_option maxRecDepth 100000 in
set_option maxHeartbeats 4000000 in
theorem read_ok (w : World) (p sg n : Nat) (L : List Nat) (pw dn : Int) (H : DK w p sg n L pw dn) (i : Nat) (hi : i < n) : Calls Try.prog 76 #[.pointer (some ⟨p, 0, none⟩), .int .i64 ((i : Nat) : Int)] w fun e w' => ∃ g, e = .returned (.tuple #[.slice (some ⟨g, 0, none⟩) 64 64, .int .i64 0]) ∧ Gro w w' ∧ w.heap.size ≤ g ∧ w'.heap[g]? = some (.cells (bv (secL L i)) 5 (0, 0)) := by
  refine s_enter Try.func76 rfl Try.ntmps76 [.pointer (some ⟨p, 0, none⟩), .int .i64 ((i : Nat) : Int)] [.pointer (some ⟨p, 0, none⟩), .int .i64 ((i : Nat) : Int), undef, undef, undef, undef, undef, undef, undef, undef, undef, undef, undef, undef, undef, undef, undef, undef, undef, undef, undef, undef] rfl ?_
  have GG := Gro.refl w
  have kp := H.box
  have ksg := H.sec
  have hne := H.ne
  refine wp_seq ?_
  refine wp_region_lit ?_
  refine s_val 4 rfl rfl (.slice none 0 0) (rfl) ?_
  refine nr ?_; intro U h; simp only [z0, z1] at h; subst h
  refine s_val 5 rfl rfl (.int .i64 0) (rfl) ?_
  refine nr ?_; intro U h; simp only [z0, z1] at h; subst h
  refine wpList_nil ?_
  refine then_n ?_
  refine wp_seq ?_
  refine wp_seq ?_
  refine wp_region_lit ?_
  refine s_val 7 rfl rfl (.pointer (some ⟨p, 0, none⟩)) (rfl) ?_
  refine nr ?_; intro U h; simp only [z0, z1] at h; subst h
  refine s_val 8 rfl rfl (.int .i64 ((i : Nat) : Int)) (rfl) ?_
  refine nr ?_; intro U h; simp only [z0, z1] at h; subst h
  have HC := has_any w p sg n L pw dn (H.gro GG) ((i : Nat) : Int)
  rw [hasB_t hi] at HC
  refine s_callv 9 rfl rfl _ 96 Try.call96 rfl rfl _ rfl [.pointer (some ⟨p, 0, none⟩), .int .i64 ((i : Nat) : Int)] rfl (HC) ?_
  intro w1 G
  replace kp := G.has kp
  replace ksg := G.has ksg
  replace GG := GG.trans G
  clear G
  refine nr ?_; intro U h; simp only [z0, z1] at h; subst h
  clear HC
  refine s_val 10 rfl rfl (.bool false) (run_nt _ _ rfl true rfl) ?_
  refine nr ?_; intro U h; simp only [z0, z1] at h; subst h
  refine wpList_nil ?_
  refine then_n ?_
  refine wp_cond_false rfl ?_
  refine wp_skip ?_
  refine then_n ?_
  refine wp_seq ?_
  refine wp_region_lit ?_
  refine s_make bT 11 rfl rfl _ _ rfl 64 rfl rfl (by omega) (by simp only [maxLen]; omega) ?_
  intro w2 g G eg kg
  have bg := size_base GG eg
  have dpg := lt_new kp eg
  have dsgg := lt_new ksg eg
  replace kp := G.has kp
  replace ksg := G.has ksg
  replace GG := GG.trans G
  clear G eg
  refine nr ?_; intro U h; simp only [z0, z1] at h; subst h
  refine s_val 6 rfl rfl (.slice (some ⟨g, 0, none⟩) 64 64) (rfl) ?_
  refine nr ?_; intro U h; simp only [z0, z1] at h; subst h
  refine wpList_nil ?_
  refine then_n ?_
  refine wp_seq ?_
  refine wp_region_lit ?_
  refine s_val 12 rfl rfl (.slice (some ⟨g, 0, none⟩) 64 64) (rfl) ?_
  refine nr ?_; intro U h; simp only [z0, z1] at h; subst h
  refine s_val 13 rfl rfl (.pointer (some ⟨p, 0, none⟩)) (rfl) ?_
  refine nr ?_; intro U h; simp only [z0, z1] at h; subst h
  refine s_val 14 rfl rfl (.pointer (some ⟨p, 0, none⟩)) (run_nc _ rfl _ rfl) ?_
  refine nr ?_; intro U h; simp only [z0, z1] at h; subst h
  refine s_val 15 rfl rfl (.pointer (some ⟨p, 0, none⟩)) (run_fld 101 _ 0 rfl _ _ rfl _ (by kernel_rfl)) ?_
  refine nr ?_; intro U h; simp only [z0, z1] at h; subst h
  refine s_val 16 rfl rfl (.slice (some ⟨sg, 0, none⟩) n n) (run_ldc 99 _ rfl p 0 rfl 101 _ kp (na99 _) _ rfl) ?_
  refine nr ?_; intro U h; simp only [z0, z1] at h; subst h
  refine s_val 17 rfl rfl (.int .i64 ((i : Nat) : Int)) (rfl) ?_
  refine nr ?_; intro U h; simp only [z0, z1] at h; subst h
  refine s_val 18 rfl rfl (.pointer (some ⟨sg, i * 64, none⟩)) (run_idx64 _ _ rfl sg n n i rfl rfl hi _) ?_
  refine nr ?_; intro U h; simp only [z0, z1] at h; subst h
  refine s_val 19 rfl rfl (.slice (some ⟨sg, i * 64, none⟩) 64 64) (run_arr64 _ rfl _ _ rfl _) ?_
  refine nr ?_; intro U h; simp only [z0, z1] at h; subst h
  refine s_copy bT 20 rfl rfl _ _ rfl g 0 64 64 rfl kg rfl (secL_len H.len hi) (nc_blk ksg (sec_fit H.len hi) (Nat.le_refl _) H.byte) (secL_take L i) (by rw [zs_len]; omega) ?_
  intro w3 St
  replace kp := St.has (by omega) kp
  replace ksg := St.has (by omega) ksg
  replace GG := GG.store St bg
  replace kg := St.new
  clear St
  rw [wr_all (by rw [secL_len H.len hi, zs_len])] at kg
  refine nr ?_; intro U h; simp only [z0, z1] at h; subst h
  refine wpList_nil ?_
  refine then_n ?_
  refine wp_seq ?_
  refine wp_region_lit ?_
  refine s_val 21 rfl rfl (.slice (some ⟨g, 0, none⟩) 64 64) (rfl) ?_
  refine nr ?_; intro U h; simp only [z0, z1] at h; subst h
  refine s_val 4 rfl rfl (.slice (some ⟨g, 0, none⟩) 64 64) (rfl) ?_
  refine nr ?_; intro U h; simp only [z0, z1] at h; subst h
  refine s_val 5 rfl rfl (.int .i64 0) (rfl) ?_
  refine nr ?_; intro U h; simp only [z0, z1] at h; subst h
  refine wpList_nil ?_
  refine then_n ?_
  refine wp_ret ?_
  refine bodyPost_ret (results_tmp2 Try.results76 _ _ _) rfl ?_
  exact ⟨g, rfl, GG, bg, kg⟩
set_option maxRecDepth 100000 in
set_option maxHeartbeats 4000000 in
theorem write_down (w : World) (p sg n : Nat) (L : List Nat) (pw dn : Int) (H : DK w p sg n L pw dn) (h0 : pw = 0) (ao : Option Addr) (cap : Nat) (l : List Nat) (i : Nat) (hi : i < n) (hl : l.length ≤ 64) : Calls Try.prog 81 #[.pointer (some ⟨p, 0, none⟩), .int .i64 ((i : Nat) : Int), .slice ao l.length cap] w fun e w' => e = .returned (.int .i64 8) ∧ Gro w w' := by
  refine s_enter Try.func81 rfl Try.ntmps81 [.pointer (some ⟨p, 0, none⟩), .int .i64 ((i : Nat) : Int), .slice ao l.length cap] [.pointer (some ⟨p, 0, none⟩), .int .i64 ((i : Nat) : Int), .slice ao l.length cap, undef, undef, undef, undef, undef, undef, undef, undef, undef, undef, undef, undef, undef, undef, undef, undef, undef, undef, undef, undef, undef, undef, undef, undef, undef, undef, undef, undef, undef, undef, undef, undef, undef, undef, undef, undef, undef, undef, undef, undef, undef, undef, undef, undef, undef, undef, undef, undef, undef] rfl ?_
  have GG := Gro.refl w
  have kp := H.box
  have ksg := H.sec
  have hne := H.ne
  refine wp_seq ?_
  refine wp_region_lit ?_
  refine s_val 6 rfl rfl (.int .i64 0) (rfl) ?_
  refine nr ?_; intro U h; simp only [z0, z1] at h; subst h
  refine wpList_nil ?_
  refine then_n ?_
  refine wp_seq ?_
  refine wp_block ?_
  refine wp_seq ?_
  refine wp_region_lit ?_
  refine s_val 9 rfl rfl (.pointer (some ⟨p, 0, none⟩)) (rfl) ?_
  refine nr ?_; intro U h; simp only [z0, z1] at h; subst h
  refine s_val 10 rfl rfl (.int .i64 ((i : Nat) : Int)) (rfl) ?_
  refine nr ?_; intro U h; simp only [z0, z1] at h; subst h
  have HC := has_any w p sg n L pw dn (H.gro GG) ((i : Nat) : Int)
  rw [hasB_t hi] at HC
  refine s_callv 11 rfl rfl _ 96 Try.call96 rfl rfl _ rfl [.pointer (some ⟨p, 0, none⟩), .int .i64 ((i : Nat) : Int)] rfl (HC) ?_
  intro w1 G
  replace kp := G.has kp
  replace ksg := G.has ksg
  replace GG := GG.trans G
  clear G
  refine nr ?_; intro U h; simp only [z0, z1] at h; subst h
  clear HC
  refine s_val 12 rfl rfl (.bool false) (run_nt _ _ rfl true rfl) ?_
  refine nr ?_; intro U h; simp only [z0, z1] at h; subst h
  refine s_val 8 rfl rfl (.bool false) (rfl) ?_
  refine nr ?_; intro U h; simp only [z0, z1] at h; subst h
  refine wpList_nil ?_
  refine then_n ?_
  refine wp_cond_false rfl ?_
  refine wp_seq ?_
  refine wp_region_lit ?_
  refine s_val 14 rfl rfl (.slice ao l.length cap) (rfl) ?_
  refine nr ?_; intro U h; simp only [z0, z1] at h; subst h
  refine s_val 15 rfl rfl (.int .i64 ((l.length : Nat) : Int)) (run_len Try.underlying30 _ rfl _ _ _ rfl _) ?_
  refine nr ?_; intro U h; simp only [z0, z1] at h; subst h
  refine s_val 16 rfl rfl (.bool false) (run_gtrT 3 _ _ _ rfl ((l.length : Nat) : Int) 64 rfl rfl false (decide_eq_false (by omega)) _) ?_
  refine nr ?_; intro U h; simp only [z0, z1] at h; subst h
  refine s_val 13 rfl rfl (.bool false) (rfl) ?_
  refine nr ?_; intro U h; simp only [z0, z1] at h; subst h
  refine wpList_nil ?_
  refine then_n ?_
  refine wp_cond_false rfl ?_
  refine wp_seq ?_
  refine wp_region_lit ?_
  refine s_val 18 rfl rfl (.pointer (some ⟨p, 0, none⟩)) (rfl) ?_
  refine nr ?_; intro U h; simp only [z0, z1] at h; subst h
  refine s_val 19 rfl rfl (.pointer (some ⟨p, 0, none⟩)) (run_nc _ rfl _ rfl) ?_
  refine nr ?_; intro U h; simp only [z0, z1] at h; subst h
  refine s_val 20 rfl rfl (.pointer (some ⟨p, 1, none⟩)) (run_fld 101 _ 1 rfl _ _ rfl _ (by kernel_rfl)) ?_
  refine nr ?_; intro U h; simp only [z0, z1] at h; subst h
  refine s_val 21 rfl rfl (.int .i64 pw) (run_ldc 3 _ rfl p 1 rfl 101 _ kp (na3 _) _ rfl) ?_
  refine nr ?_; intro U h; simp only [z0, z1] at h; subst h
  refine s_val 22 rfl rfl (.bool true) (run_eq_k 3 .i64 _ _ _ rfl Try.underlying3 pw 0 rfl rfl true (decide_eq_true h0) _) ?_
  refine nr ?_; intro U h; simp only [z0, z1] at h; subst h
  refine s_val 17 rfl rfl (.bool true) (rfl) ?_
  refine nr ?_; intro U h; simp only [z0, z1] at h; subst h
  refine wpList_nil ?_
  refine then_n ?_
  refine wp_cond_true rfl ?_
  refine wp_seq ?_
  refine wp_region_lit ?_
  refine s_val 6 rfl rfl (.int .i64 8) (rfl) ?_
  refine nr ?_; intro U h; simp only [z0, z1] at h; subst h
  refine wpList_nil ?_
  refine then_n ?_
  refine wp_ret ?_
  refine blk_r ?_
  refine then_r ?_
  refine bodyPost_ret (results_tmp Try.results81 _ _ _) rfl ?_
  exact ⟨rfl, GG⟩
set_option maxRecDepth 100000 in
set_option maxHeartbeats 4000000 in
theorem write_end (w : World) (p sg n : Nat) (L : List Nat) (pw dn : Int) (H : DK w p sg n L pw dn) (ao : Option Addr) (cap : Nat) (l : List Nat) (HB : BS [p, sg] w ao cap l) (i : Nat) (hi : i < n) (hl : l.length ≤ 64) (h1 : pw = -1) (hd : 0 ≤ dn) (hd2 : dn < 9223372036854775807) : Calls Try.prog 81 #[.pointer (some ⟨p, 0, none⟩), .int .i64 ((i : Nat) : Int), .slice ao l.length cap] w fun e w' => e = .returned (.int .i64 0) ∧ GroS [p, sg] w w' ∧ DK w' p sg n (wr L (i * 64) (padS l)) pw (dn + 1) := by
  refine s_enter Try.func81 rfl Try.ntmps81 [.pointer (some ⟨p, 0, none⟩), .int .i64 ((i : Nat) : Int), .slice ao l.length cap] [.pointer (some ⟨p, 0, none⟩), .int .i64 ((i : Nat) : Int), .slice ao l.length cap, undef, undef, undef, undef, undef, undef, undef, undef, undef, undef, undef, undef, undef, undef, undef, undef, undef, undef, undef, undef, undef, undef, undef, undef, undef, undef, undef, undef, undef, undef, undef, undef, undef, undef, undef, undef, undef, undef, undef, undef, undef, undef, undef, undef, undef, undef, undef, undef, undef] rfl ?_
  have GG := GroS.refl [p, sg] w
  have kp := H.box
  have ksg := H.sec
  have hne := H.ne
  have HN := HB
  refine wp_seq ?_
  refine wp_region_lit ?_
  refine s_val 6 rfl rfl (.int .i64 0) (rfl) ?_
  refine nr ?_; intro U h; simp only [z0, z1] at h; subst h
  refine wpList_nil ?_
  refine then_n ?_
  refine wp_seq ?_
  refine wp_block ?_
  refine wp_seq ?_
  refine wp_region_lit ?_
  refine s_val 9 rfl rfl (.pointer (some ⟨p, 0, none⟩)) (rfl) ?_
  refine nr ?_; intro U h; simp only [z0, z1] at h; subst h
  refine s_val 10 rfl rfl (.int .i64 ((i : Nat) : Int)) (rfl) ?_
  refine nr ?_; intro U h; simp only [z0, z1] at h; subst h
  have HC := has_any w p sg n L pw dn ⟨kp, ksg, H.len, H.le, H.byte, H.ne⟩ ((i : Nat) : Int)
  rw [hasB_t hi] at HC
  refine s_callv 11 rfl rfl _ 96 Try.call96 rfl rfl _ rfl [.pointer (some ⟨p, 0, none⟩), .int .i64 ((i : Nat) : Int)] rfl (HC) ?_
  intro w1 G
  replace kp := G.has kp
  replace ksg := G.has ksg
  replace HN := HN.gro G
  replace GG := GG.tg G
  clear G
  refine nr ?_; intro U h; simp only [z0, z1] at h; subst h
  clear HC
  refine s_val 12 rfl rfl (.bool false) (run_nt _ _ rfl true rfl) ?_
  refine nr ?_; intro U h; simp only [z0, z1] at h; subst h
  refine s_val 8 rfl rfl (.bool false) (rfl) ?_
  refine nr ?_; intro U h; simp only [z0, z1] at h; subst h
  refine wpList_nil ?_
  refine then_n ?_
  refine wp_cond_false rfl ?_
  refine wp_seq ?_
  refine wp_region_lit ?_
  refine s_val 14 rfl rfl (.slice ao l.length cap) (rfl) ?_
  refine nr ?_; intro U h; simp only [z0, z1] at h; subst h
  refine s_val 15 rfl rfl (.int .i64 ((l.length : Nat) : Int)) (run_len Try.underlying30 _ rfl _ _ _ rfl _) ?_
  refine nr ?_; intro U h; simp only [z0, z1] at h; subst h
  refine s_val 16 rfl rfl (.bool false) (run_gtrT 3 _ _ _ rfl ((l.length : Nat) : Int) 64 rfl rfl false (decide_eq_false (by omega)) _) ?_
  refine nr ?_; intro U h; simp only [z0, z1] at h; subst h
  refine s_val 13 rfl rfl (.bool false) (rfl) ?_
  refine nr ?_; intro U h; simp only [z0, z1] at h; subst h
  refine wpList_nil ?_
  refine then_n ?_
  refine wp_cond_false rfl ?_
  refine wp_seq ?_
  refine wp_region_lit ?_
  refine s_val 18 rfl rfl (.pointer (some ⟨p, 0, none⟩)) (rfl) ?_
  refine nr ?_; intro U h; simp only [z0, z1] at h; subst h
  refine s_val 19 rfl rfl (.pointer (some ⟨p, 0, none⟩)) (run_nc _ rfl _ rfl) ?_
  refine nr ?_; intro U h; simp only [z0, z1] at h; subst h
  refine s_val 20 rfl rfl (.pointer (some ⟨p, 1, none⟩)) (run_fld 101 _ 1 rfl _ _ rfl _ (by kernel_rfl)) ?_
  refine nr ?_; intro U h; simp only [z0, z1] at h; subst h
  refine s_val 21 rfl rfl (.int .i64 pw) (run_ldc 3 _ rfl p 1 rfl 101 _ kp (na3 _) _ rfl) ?_
  refine nr ?_; intro U h; simp only [z0, z1] at h; subst h
  refine s_val 22 rfl rfl (.bool false) (run_eq_k 3 .i64 _ _ _ rfl Try.underlying3 pw 0 rfl rfl false (decide_eq_false (by omega)) _) ?_
  refine nr ?_; intro U h; simp only [z0, z1] at h; subst h
  refine s_val 17 rfl rfl (.bool false) (rfl) ?_
  refine nr ?_; intro U h; simp only [z0, z1] at h; subst h
  refine wpList_nil ?_
  refine then_n ?_
  refine wp_cond_false rfl ?_
  refine wp_skip ?_
  refine blk_n ?_
  refine then_n ?_
  refine wp_seq ?_
  refine wp_region_lit ?_
  refine s_alloc 7 rfl rfl 98 rfl _ zv98 (bv (zs 64)) rfl ?_
  intro w2 g G eg kg
  have bg := size_basS GG eg
  have dpg := lt_new kp eg
  have dsgg := lt_new ksg eg
  replace kp := G.has kp
  replace ksg := G.has ksg
  replace HN := HN.gro G
  replace GG := GG.tg G
  clear G eg
  refine nr ?_; intro U h; simp only [z0, z1] at h; subst h
  refine wpList_nil ?_
  refine then_n ?_
  refine wp_seq ?_
  refine wp_region_lit ?_
  refine s_val 23 rfl rfl (.slice (some ⟨g, 0, none⟩) 64 64) (run_arr64 _ rfl _ _ rfl _) ?_
  refine nr ?_; intro U h; simp only [z0, z1] at h; subst h
  refine s_val 24 rfl rfl (.slice ao l.length cap) (rfl) ?_
  refine nr ?_; intro U h; simp only [z0, z1] at h; subst h
  refine s_copy bT 25 rfl rfl _ _ rfl g 0 64 64 rfl kg rfl (rfl) (HN.nc) (List.take_of_length_le hl) (by rw [zs_len]; omega) ?_
  intro w3 St
  replace kp := St.has (by omega) kp
  replace ksg := St.has (by omega) ksg
  replace HN := HN.st St (fun ad ha h0 => by have := HB.nc.lt ad ha h0; omega)
  replace GG := GG.st St (.inl bg)
  replace kg := St.new
  clear St
  rw [wr_pad] at kg
  refine nr ?_; intro U h; simp only [z0, z1] at h; subst h
  refine wpList_nil ?_
  refine then_n ?_
  refine wp_seq ?_
  refine wp_region_exA (A := ?A) 6 [(0, 26), (1, 27), (2, 28), (3, 29), (4, 30), (5, 31)] [.val (.pointer (some ⟨p, 0, none⟩)), .val (.pointer (some ⟨p, 0, none⟩)), .val (.pointer (some ⟨p, 0, none⟩)), .val (.slice (some ⟨sg, 0, none⟩) n n), .val (.int .i64 ((i : Nat) : Int)), .val (.agg (bv (padS l)))] follows (by kernel_rfl) rfl ?hA (opsA_cons ?o0 (opsA_cons ?o1 (opsA_cons ?o2 (opsA_cons ?o3 (opsA_cons ?o4 (opsA_cons ?o5 opsA_nil)))))) ?rest
  case hA =>
    intro ptrs
    simp only [full, foldSlots, filledE, postE, List.foldl_cons, List.foldl_nil, List.getD_cons_zero, List.getD_cons_succ, fill_val, List.set_cons_zero, List.set_cons_succ]
    exact rfl
  case o0 => exact fun _ _ _ _ => opE_move (v := .pointer (some ⟨p, 0, none⟩)) _ rfl rfl rfl
  case o1 => exact fun _ _ hw _ => opE_value (v := .pointer (some ⟨p, 0, none⟩)) rfl (run_nc _ rfl _ rfl)
  case o2 => exact fun _ _ hw _ => opE_value (v := .pointer (some ⟨p, 0, none⟩)) rfl (run_fld 101 _ 0 rfl _ _ rfl _ (by kernel_rfl))
  case o3 => exact fun _ _ hw _ => opE_value (v := .slice (some ⟨sg, 0, none⟩) n n) rfl (run_ldc 99 _ rfl p 0 rfl 101 _ (hw.has kp) (na99 _) _ rfl)
  case o4 => exact fun _ _ _ _ => opE_move (v := .int .i64 ((i : Nat) : Int)) _ rfl rfl rfl
  case o5 => exact fun _ _ hw _ => opE_value (v := .agg (bv (padS l))) rfl (run_lda 98 _ rfl g 0 64 rfl 98 _ (hw.has kg) _ Try.underlying98 rfl si98 (by rw [bv_size, padS_len hl]; omega) _ (pad_extract hl))
  intro ptrs w4 GD hxE
  simp only [List.drop_succ_cons, List.drop_zero]
  replace kp := GD.has kp
  replace ksg := GD.has ksg
  replace kg := GD.has kg
  replace HN := HN.gro ((Gro.refl _).drew.trans GD)
  replace GG := GG.drew.tg GD
  clear GD
  refine s_val 32 rfl rfl (.pointer (some ⟨sg, i * 64, none⟩)) (run_idx64 _ _ rfl sg n n i rfl rfl hi _) ?_
  refine nr ?_; intro U h; simp only [z0, z1] at h; subst h
  refine s_store rfl rfl 98 _ _ rfl sg (i * 64) rfl (.agg (bv (padS l))) rfl 98 _ ksg (bv (padS l)) rfl (by rw [bv_size, padS_len hl]; exact si98) (by rw [bv_size, bv_size, padS_len hl]; exact sec_fit H.len hi) (bv_one _) _ (splice_bv L (padS l) (i * 64)) ?_
  intro w5 St
  replace kp := St.has (by omega) kp
  replace kg := St.has (by omega) kg
  replace HN := HN.gros ((GroS.refl [p, sg] _).st St (.inr (by simp)))
  replace GG := GG.st St (.inr (by simp))
  replace ksg := St.new
  clear St
  refine wpList_nil ?_
  refine then_n ?_
  refine wp_seq ?_
  refine wp_region_lit ?_
  refine s_val 33 rfl rfl (.pointer (some ⟨p, 0, none⟩)) (rfl) ?_
  refine nr ?_; intro U h; simp only [z0, z1] at h; subst h
  refine s_val 34 rfl rfl (.pointer (some ⟨p, 0, none⟩)) (run_nc _ rfl _ rfl) ?_
  refine nr ?_; intro U h; simp only [z0, z1] at h; subst h
  refine s_val 35 rfl rfl (.pointer (some ⟨p, 2, none⟩)) (run_fld 101 _ 2 rfl _ _ rfl _ (by kernel_rfl)) ?_
  refine nr ?_; intro U h; simp only [z0, z1] at h; subst h
  refine s_val 36 rfl rfl (.int .i64 dn) (run_ldc 3 _ rfl p 2 rfl 101 _ kp (na3 _) _ rfl) ?_
  refine nr ?_; intro U h; simp only [z0, z1] at h; subst h
  refine s_val 37 rfl rfl (.int .i64 (dn + 1)) (run_add64 _ _ _ rfl dn 1 _ rfl rfl rfl (by omega) (by omega) _) ?_
  refine nr ?_; intro U h; simp only [z0, z1] at h; subst h
  refine s_val 38 rfl rfl (.pointer (some ⟨p, 0, none⟩)) (run_nc _ rfl _ rfl) ?_
  refine nr ?_; intro U h; simp only [z0, z1] at h; subst h
  refine s_val 39 rfl rfl (.pointer (some ⟨p, 2, none⟩)) (run_fld 101 _ 2 rfl _ _ rfl _ (by kernel_rfl)) ?_
  refine nr ?_; intro U h; simp only [z0, z1] at h; subst h
  refine s_store rfl rfl 3 _ _ rfl p 2 rfl (.int .i64 (dn + 1)) rfl 101 _ kp #[.int .i64 (dn + 1)] rfl (by kernel_rfl) (Nat.le_of_ble_eq_true rfl) (by kernel_rfl) (c101 ⟨some ⟨sg, 0, none⟩, n, n⟩ pw (dn + 1)) (by kernel_rfl) ?_
  intro w7 St
  replace ksg := St.has (by omega) ksg
  replace kg := St.has (by omega) kg
  replace HN := HN.gros ((GroS.refl [p, sg] _).st St (.inr (by simp)))
  replace GG := GG.st St (.inr (by simp))
  replace kp := St.new
  clear St
  refine wpList_nil ?_
  refine then_n ?_
  refine wp_seq ?_
  refine wp_seq ?_
  refine wp_region_lit ?_
  refine s_val 40 rfl rfl (.pointer (some ⟨p, 0, none⟩)) (rfl) ?_
  refine nr ?_; intro U h; simp only [z0, z1] at h; subst h
  refine s_val 41 rfl rfl (.pointer (some ⟨p, 0, none⟩)) (run_nc _ rfl _ rfl) ?_
  refine nr ?_; intro U h; simp only [z0, z1] at h; subst h
  refine s_val 42 rfl rfl (.pointer (some ⟨p, 1, none⟩)) (run_fld 101 _ 1 rfl _ _ rfl _ (by kernel_rfl)) ?_
  refine nr ?_; intro U h; simp only [z0, z1] at h; subst h
  refine s_val 43 rfl rfl (.int .i64 pw) (run_ldc 3 _ rfl p 1 rfl 101 _ kp (na3 _) _ rfl) ?_
  refine nr ?_; intro U h; simp only [z0, z1] at h; subst h
  refine s_val 44 rfl rfl (.bool false) (run_neq_k 3 .i64 _ _ _ rfl Try.underlying3 pw (-1) rfl rfl false (by first | exact decide_eq_true (by omega) | exact decide_eq_false (by omega)) _) ?_
  refine nr ?_; intro U h; simp only [z0, z1] at h; subst h
  refine wpList_nil ?_
  refine then_n ?_
  refine wp_cond_false rfl ?_
  refine wp_skip ?_
  refine then_n ?_
  refine wp_seq ?_
  refine wp_region_lit ?_
  refine s_val 6 rfl rfl (.int .i64 0) (rfl) ?_
  refine nr ?_; intro U h; simp only [z0, z1] at h; subst h
  refine wpList_nil ?_
  refine then_n ?_
  refine wp_ret ?_
  refine bodyPost_ret (results_tmp Try.results81 _ _ _) rfl ?_
  exact ⟨rfl, GG, kp, ksg, by rw [wr_len (by rw [padS_len hl]; exact sec_fit H.len hi)]; exact H.len, H.le, wr_byte H.byte (padS_byte HB.nc.lt256), H.ne⟩
set_option maxRecDepth 100000 in
set_option maxHeartbeats 4000000 in
theorem write_ok (w : World) (p sg n : Nat) (L : List Nat) (pw dn : Int) (H : DK w p sg n L pw dn) (ao : Option Addr) (cap : Nat) (l : List Nat) (HB : BS [p, sg] w ao cap l) (i : Nat) (hi : i < n) (hl : l.length ≤ 64) (h1 : 0 < pw) (h2 : pw < 9223372036854775808) (hd : 0 ≤ dn) (hd2 : dn < 9223372036854775807) : Calls Try.prog 81 #[.pointer (some ⟨p, 0, none⟩), .int .i64 ((i : Nat) : Int), .slice ao l.length cap] w fun e w' => e = .returned (.int .i64 0) ∧ GroS [p, sg] w w' ∧ DK w' p sg n (wr L (i * 64) (padS l)) (pw - 1) (dn + 1) := by
  refine s_enter Try.func81 rfl Try.ntmps81 [.pointer (some ⟨p, 0, none⟩), .int .i64 ((i : Nat) : Int), .slice ao l.length cap] [.pointer (some ⟨p, 0, none⟩), .int .i64 ((i : Nat) : Int), .slice ao l.length cap, undef, undef, undef, undef, undef, undef, undef, undef, undef, undef, undef, undef, undef, undef, undef, undef, undef, undef, undef, undef, undef, undef, undef, undef, undef, undef, undef, undef, undef, undef, undef, undef, undef, undef, undef, undef, undef, undef, undef, undef, undef, undef, undef, undef, undef, undef, undef, undef, undef] rfl ?_
  have GG := GroS.refl [p, sg] w
  have kp := H.box
  have ksg := H.sec
  have hne := H.ne
  have HN := HB
  refine wp_seq ?_
  refine wp_region_lit ?_
  refine s_val 6 rfl rfl (.int .i64 0) (rfl) ?_
  refine nr ?_; intro U h; simp only [z0, z1] at h; subst h
  refine wpList_nil ?_
  refine then_n ?_
  refine wp_seq ?_
  refine wp_block ?_
  refine wp_seq ?_
  refine wp_region_lit ?_
  refine s_val 9 rfl rfl (.pointer (some ⟨p, 0, none⟩)) (rfl) ?_
  refine nr ?_; intro U h; simp only [z0, z1] at h; subst h
  refine s_val 10 rfl rfl (.int .i64 ((i : Nat) : Int)) (rfl) ?_
  refine nr ?_; intro U h; simp only [z0, z1] at h; subst h
  have HC := has_any w p sg n L pw dn ⟨kp, ksg, H.len, H.le, H.byte, H.ne⟩ ((i : Nat) : Int)
  rw [hasB_t hi] at HC
  refine s_callv 11 rfl rfl _ 96 Try.call96 rfl rfl _ rfl [.pointer (some ⟨p, 0, none⟩), .int .i64 ((i : Nat) : Int)] rfl (HC) ?_
  intro w1 G
  replace kp := G.has kp
  replace ksg := G.has ksg
  replace HN := HN.gro G
  replace GG := GG.tg G
  clear G
  refine nr ?_; intro U h; simp only [z0, z1] at h; subst h
  clear HC
  refine s_val 12 rfl rfl (.bool false) (run_nt _ _ rfl true rfl) ?_
  refine nr ?_; intro U h; simp only [z0, z1] at h; subst h
  refine s_val 8 rfl rfl (.bool false) (rfl) ?_
  refine nr ?_; intro U h; simp only [z0, z1] at h; subst h
  refine wpList_nil ?_
  refine then_n ?_
  refine wp_cond_false rfl ?_
  refine wp_seq ?_
  refine wp_region_lit ?_
  refine s_val 14 rfl rfl (.slice ao l.length cap) (rfl) ?_
  refine nr ?_; intro U h; simp only [z0, z1] at h; subst h
  refine s_val 15 rfl rfl (.int .i64 ((l.length : Nat) : Int)) (run_len Try.underlying30 _ rfl _ _ _ rfl _) ?_
  refine nr ?_; intro U h; simp only [z0, z1] at h; subst h
  refine s_val 16 rfl rfl (.bool false) (run_gtrT 3 _ _ _ rfl ((l.length : Nat) : Int) 64 rfl rfl false (decide_eq_false (by omega)) _) ?_
  refine nr ?_; intro U h; simp only [z0, z1] at h; subst h
  refine s_val 13 rfl rfl (.bool false) (rfl) ?_
  refine nr ?_; intro U h; simp only [z0, z1] at h; subst h
  refine wpList_nil ?_
  refine then_n ?_
  refine wp_cond_false rfl ?_
  refine wp_seq ?_
  refine wp_region_lit ?_
  refine s_val 18 rfl rfl (.pointer (some ⟨p, 0, none⟩)) (rfl) ?_
  refine nr ?_; intro U h; simp only [z0, z1] at h; subst h
  refine s_val 19 rfl rfl (.pointer (some ⟨p, 0, none⟩)) (run_nc _ rfl _ rfl) ?_
  refine nr ?_; intro U h; simp only [z0, z1] at h; subst h
  refine s_val 20 rfl rfl (.pointer (some ⟨p, 1, none⟩)) (run_fld 101 _ 1 rfl _ _ rfl _ (by kernel_rfl)) ?_
  refine nr ?_; intro U h; simp only [z0, z1] at h; subst h
  refine s_val 21 rfl rfl (.int .i64 pw) (run_ldc 3 _ rfl p 1 rfl 101 _ kp (na3 _) _ rfl) ?_
  refine nr ?_; intro U h; simp only [z0, z1] at h; subst h
  refine s_val 22 rfl rfl (.bool false) (run_eq_k 3 .i64 _ _ _ rfl Try.underlying3 pw 0 rfl rfl false (decide_eq_false (by omega)) _) ?_
  refine nr ?_; intro U h; simp only [z0, z1] at h; subst h
  refine s_val 17 rfl rfl (.bool false) (rfl) ?_
  refine nr ?_; intro U h; simp only [z0, z1] at h; subst h
  refine wpList_nil ?_
  refine then_n ?_
  refine wp_cond_false rfl ?_
  refine wp_skip ?_
  refine blk_n ?_
  refine then_n ?_
  refine wp_seq ?_
  refine wp_region_lit ?_
  refine s_alloc 7 rfl rfl 98 rfl _ zv98 (bv (zs 64)) rfl ?_
  intro w2 g G eg kg
  have bg := size_basS GG eg
  have dpg := lt_new kp eg
  have dsgg := lt_new ksg eg
  replace kp := G.has kp
  replace ksg := G.has ksg
  replace HN := HN.gro G
  replace GG := GG.tg G
  clear G eg
  refine nr ?_; intro U h; simp only [z0, z1] at h; subst h
  refine wpList_nil ?_
  refine then_n ?_
  refine wp_seq ?_
  refine wp_region_lit ?_
  refine s_val 23 rfl rfl (.slice (some ⟨g, 0, none⟩) 64 64) (run_arr64 _ rfl _ _ rfl _) ?_
  refine nr ?_; intro U h; simp only [z0, z1] at h; subst h
  refine s_val 24 rfl rfl (.slice ao l.length cap) (rfl) ?_
  refine nr ?_; intro U h; simp only [z0, z1] at h; subst h
  refine s_copy bT 25 rfl rfl _ _ rfl g 0 64 64 rfl kg rfl (rfl) (HN.nc) (List.take_of_length_le hl) (by rw [zs_len]; omega) ?_
  intro w3 St
  replace kp := St.has (by omega) kp
  replace ksg := St.has (by omega) ksg
  replace HN := HN.st St (fun ad ha h0 => by have := HB.nc.lt ad ha h0; omega)
  replace GG := GG.st St (.inl bg)
  replace kg := St.new
  clear St
  rw [wr_pad] at kg
  refine nr ?_; intro U h; simp only [z0, z1] at h; subst h
  refine wpList_nil ?_
  refine then_n ?_
  refine wp_seq ?_
  refine wp_region_exA (A := ?A) 6 [(0, 26), (1, 27), (2, 28), (3, 29), (4, 30), (5, 31)] [.val (.pointer (some ⟨p, 0, none⟩)), .val (.pointer (some ⟨p, 0, none⟩)), .val (.pointer (some ⟨p, 0, none⟩)), .val (.slice (some ⟨sg, 0, none⟩) n n), .val (.int .i64 ((i : Nat) : Int)), .val (.agg (bv (padS l)))] follows (by kernel_rfl) rfl ?hA (opsA_cons ?o0 (opsA_cons ?o1 (opsA_cons ?o2 (opsA_cons ?o3 (opsA_cons ?o4 (opsA_cons ?o5 opsA_nil)))))) ?rest
  case hA =>
    intro ptrs
    simp only [full, foldSlots, filledE, postE, List.foldl_cons, List.foldl_nil, List.getD_cons_zero, List.getD_cons_succ, fill_val, List.set_cons_zero, List.set_cons_succ]
    exact rfl
  case o0 => exact fun _ _ _ _ => opE_move (v := .pointer (some ⟨p, 0, none⟩)) _ rfl rfl rfl
  case o1 => exact fun _ _ hw _ => opE_value (v := .pointer (some ⟨p, 0, none⟩)) rfl (run_nc _ rfl _ rfl)
  case o2 => exact fun _ _ hw _ => opE_value (v := .pointer (some ⟨p, 0, none⟩)) rfl (run_fld 101 _ 0 rfl _ _ rfl _ (by kernel_rfl))
  case o3 => exact fun _ _ hw _ => opE_value (v := .slice (some ⟨sg, 0, none⟩) n n) rfl (run_ldc 99 _ rfl p 0 rfl 101 _ (hw.has kp) (na99 _) _ rfl)
  case o4 => exact fun _ _ _ _ => opE_move (v := .int .i64 ((i : Nat) : Int)) _ rfl rfl rfl
  case o5 => exact fun _ _ hw _ => opE_value (v := .agg (bv (padS l))) rfl (run_lda 98 _ rfl g 0 64 rfl 98 _ (hw.has kg) _ Try.underlying98 rfl si98 (by rw [bv_size, padS_len hl]; omega) _ (pad_extract hl))
  intro ptrs w4 GD hxE
  simp only [List.drop_succ_cons, List.drop_zero]
  replace kp := GD.has kp
  replace ksg := GD.has ksg
  replace kg := GD.has kg
  replace HN := HN.gro ((Gro.refl _).drew.trans GD)
  replace GG := GG.drew.tg GD
  clear GD
  refine s_val 32 rfl rfl (.pointer (some ⟨sg, i * 64, none⟩)) (run_idx64 _ _ rfl sg n n i rfl rfl hi _) ?_
  refine nr ?_; intro U h; simp only [z0, z1] at h; subst h
  refine s_store rfl rfl 98 _ _ rfl sg (i * 64) rfl (.agg (bv (padS l))) rfl 98 _ ksg (bv (padS l)) rfl (by rw [bv_size, padS_len hl]; exact si98) (by rw [bv_size, bv_size, padS_len hl]; exact sec_fit H.len hi) (bv_one _) _ (splice_bv L (padS l) (i * 64)) ?_
  intro w5 St
  replace kp := St.has (by omega) kp
  replace kg := St.has (by omega) kg
  replace HN := HN.gros ((GroS.refl [p, sg] _).st St (.inr (by simp)))
  replace GG := GG.st St (.inr (by simp))
  replace ksg := St.new
  clear St
  refine wpList_nil ?_
  refine then_n ?_
  refine wp_seq ?_
  refine wp_region_lit ?_
  refine s_val 33 rfl rfl (.pointer (some ⟨p, 0, none⟩)) (rfl) ?_
  refine nr ?_; intro U h; simp only [z0, z1] at h; subst h
  refine s_val 34 rfl rfl (.pointer (some ⟨p, 0, none⟩)) (run_nc _ rfl _ rfl) ?_
  refine nr ?_; intro U h; simp only [z0, z1] at h; subst h
  refine s_val 35 rfl rfl (.pointer (some ⟨p, 2, none⟩)) (run_fld 101 _ 2 rfl _ _ rfl _ (by kernel_rfl)) ?_
  refine nr ?_; intro U h; simp only [z0, z1] at h; subst h
  refine s_val 36 rfl rfl (.int .i64 dn) (run_ldc 3 _ rfl p 2 rfl 101 _ kp (na3 _) _ rfl) ?_
  refine nr ?_; intro U h; simp only [z0, z1] at h; subst h
  refine s_val 37 rfl rfl (.int .i64 (dn + 1)) (run_add64 _ _ _ rfl dn 1 _ rfl rfl rfl (by omega) (by omega) _) ?_
  refine nr ?_; intro U h; simp only [z0, z1] at h; subst h
  refine s_val 38 rfl rfl (.pointer (some ⟨p, 0, none⟩)) (run_nc _ rfl _ rfl) ?_
  refine nr ?_; intro U h; simp only [z0, z1] at h; subst h
  refine s_val 39 rfl rfl (.pointer (some ⟨p, 2, none⟩)) (run_fld 101 _ 2 rfl _ _ rfl _ (by kernel_rfl)) ?_
  refine nr ?_; intro U h; simp only [z0, z1] at h; subst h
  refine s_store rfl rfl 3 _ _ rfl p 2 rfl (.int .i64 (dn + 1)) rfl 101 _ kp #[.int .i64 (dn + 1)] rfl (by kernel_rfl) (Nat.le_of_ble_eq_true rfl) (by kernel_rfl) (c101 ⟨some ⟨sg, 0, none⟩, n, n⟩ pw (dn + 1)) (by kernel_rfl) ?_
  intro w7 St
  replace ksg := St.has (by omega) ksg
  replace kg := St.has (by omega) kg
  replace HN := HN.gros ((GroS.refl [p, sg] _).st St (.inr (by simp)))
  replace GG := GG.st St (.inr (by simp))
  replace kp := St.new
  clear St
  refine wpList_nil ?_
  refine then_n ?_
  refine wp_seq ?_
  refine wp_seq ?_
  refine wp_region_lit ?_
  refine s_val 40 rfl rfl (.pointer (some ⟨p, 0, none⟩)) (rfl) ?_
  refine nr ?_; intro U h; simp only [z0, z1] at h; subst h
  refine s_val 41 rfl rfl (.pointer (some ⟨p, 0, none⟩)) (run_nc _ rfl _ rfl) ?_
  refine nr ?_; intro U h; simp only [z0, z1] at h; subst h
  refine s_val 42 rfl rfl (.pointer (some ⟨p, 1, none⟩)) (run_fld 101 _ 1 rfl _ _ rfl _ (by kernel_rfl)) ?_
  refine nr ?_; intro U h; simp only [z0, z1] at h; subst h
  refine s_val 43 rfl rfl (.int .i64 pw) (run_ldc 3 _ rfl p 1 rfl 101 _ kp (na3 _) _ rfl) ?_
  refine nr ?_; intro U h; simp only [z0, z1] at h; subst h
  refine s_val 44 rfl rfl (.bool true) (run_neq_k 3 .i64 _ _ _ rfl Try.underlying3 pw (-1) rfl rfl true (by first | exact decide_eq_true (by omega) | exact decide_eq_false (by omega)) _) ?_
  refine nr ?_; intro U h; simp only [z0, z1] at h; subst h
  refine wpList_nil ?_
  refine then_n ?_
  refine wp_cond_true rfl ?_
  refine wp_region_lit ?_
  refine s_val 45 rfl rfl (.pointer (some ⟨p, 0, none⟩)) (rfl) ?_
  refine nr ?_; intro U h; simp only [z0, z1] at h; subst h
  refine s_val 46 rfl rfl (.pointer (some ⟨p, 0, none⟩)) (run_nc _ rfl _ rfl) ?_
  refine nr ?_; intro U h; simp only [z0, z1] at h; subst h
  refine s_val 47 rfl rfl (.pointer (some ⟨p, 1, none⟩)) (run_fld 101 _ 1 rfl _ _ rfl _ (by kernel_rfl)) ?_
  refine nr ?_; intro U h; simp only [z0, z1] at h; subst h
  refine s_val 48 rfl rfl (.int .i64 pw) (run_ldc 3 _ rfl p 1 rfl 101 _ kp (na3 _) _ rfl) ?_
  refine nr ?_; intro U h; simp only [z0, z1] at h; subst h
  refine s_val 49 rfl rfl (.int .i64 (pw - 1)) (run_sub64 _ _ _ rfl pw 1 _ rfl rfl rfl (by omega) (by omega) _) ?_
  refine nr ?_; intro U h; simp only [z0, z1] at h; subst h
  refine s_val 50 rfl rfl (.pointer (some ⟨p, 0, none⟩)) (run_nc _ rfl _ rfl) ?_
  refine nr ?_; intro U h; simp only [z0, z1] at h; subst h
  refine s_val 51 rfl rfl (.pointer (some ⟨p, 1, none⟩)) (run_fld 101 _ 1 rfl _ _ rfl _ (by kernel_rfl)) ?_
  refine nr ?_; intro U h; simp only [z0, z1] at h; subst h
  refine s_store rfl rfl 3 _ _ rfl p 1 rfl (.int .i64 (pw - 1)) rfl 101 _ kp #[.int .i64 (pw - 1)] rfl (by kernel_rfl) (Nat.le_of_ble_eq_true rfl) (by kernel_rfl) (c101 ⟨some ⟨sg, 0, none⟩, n, n⟩ (pw - 1) (dn + 1)) (by kernel_rfl) ?_
  intro w9 St
  replace ksg := St.has (by omega) ksg
  replace kg := St.has (by omega) kg
  replace HN := HN.gros ((GroS.refl [p, sg] _).st St (.inr (by simp)))
  replace GG := GG.st St (.inr (by simp))
  replace kp := St.new
  clear St
  refine wpList_nil ?_
  refine then_n ?_
  refine wp_seq ?_
  refine wp_region_lit ?_
  refine s_val 6 rfl rfl (.int .i64 0) (rfl) ?_
  refine nr ?_; intro U h; simp only [z0, z1] at h; subst h
  refine wpList_nil ?_
  refine then_n ?_
  refine wp_ret ?_
  refine bodyPost_ret (results_tmp Try.results81 _ _ _) rfl ?_
  exact ⟨rfl, GG, kp, ksg, by rw [wr_len (by rw [padS_len hl]; exact sec_fit H.len hi)]; exact H.len, H.le, wr_byte H.byte (padS_byte HB.nc.lt256), H.ne⟩
end Go.Proofs.Ytgfnjekpafempaa
