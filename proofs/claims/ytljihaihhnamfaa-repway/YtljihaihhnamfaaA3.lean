/- Notes of what is heard: the program's and the document's; the examples. -/
import Derived.Test.YtljihaihhnamfaaA2
namespace Go.Proofs.Ytljihaihhnamfaa
open Go.RowKit

theorem fil_yes {l : List Hd} {i : Nat} {q : Hd → Bool} (hi : i < l.length) (h : q (l.getD i zH) = true) : (l.take i).filter q ++ [l.getD i zH] = (l.take (i + 1)).filter q := by
  rw [take_at zH l i hi, List.filter_append, List.filter_cons, if_pos h, List.filter_nil]
theorem fil_no {l : List Hd} {i : Nat} {q : Hd → Bool} (hi : i < l.length) (h : q (l.getD i zH) = false) : (l.take i).filter q = (l.take (i + 1)).filter q := by
  rw [take_at zH l i hi, List.filter_append, List.filter_cons, if_neg (by rw [h]; decide), List.filter_nil, List.append_nil]
theorem fil_len (l : List Hd) (i : Nat) (q : Hd → Bool) : ((l.take i).filter q).length ≤ l.length := Nat.le_trans (List.length_filter_le _ _) (by rw [List.length_take]; exact Nat.min_le_right _ _)
theorem take_len_le (l : List Hd) (i : Nat) : (l.take i).length ≤ l.length := by rw [List.length_take]; exact Nat.min_le_right _ _
theorem hd_eta (x : Hd) : mkH x.n x.id x.far = x := rfl
section
variable {α β : Type} {K : Kd α} {J : Kd β} {e e' : TypeId} {w w' : World} {B B' : Nat} {ao bo : Option Addr} {cap bap : Nat} {l : List α} {m : List β}
/-- A row that was made later lies apart. -/
theorem OW.apart (h : OW K e w' w.heap.size ao cap l) (k : OW J e' w B' bo bap m) : ∀ j ∈ Go.Proofs.Ytljihaihhnamfaa.blk ao, j ∉ Go.Proofs.Ytljihaihhnamfaa.blk bo := fun j hj hm => by
  have h1 := h.own.base j hj
  have h2 := k.own.lt j hm
  omega
/-- What is written in one row leaves another one. -/
theorem OW.other (k : OW J e' w B' bo bap m) (G : GroS (Go.Proofs.Ytljihaihhnamfaa.blk ao) w w') (ha : ∀ j ∈ Go.Proofs.Ytljihaihhnamfaa.blk bo, j ∉ Go.Proofs.Ytljihaihhnamfaa.blk ao) : OW J e' w' B' bo bap m := k.gros G ha
theorem apart_kept {ao2 : Option Addr} (k : OW J e' w B' bo bap m) (ha : ∀ j ∈ Go.Proofs.Ytljihaihhnamfaa.blk bo, j ∉ Go.Proofs.Ytljihaihhnamfaa.blk ao) (hK : Kept w.heap.size ao ao2) : ∀ j ∈ Go.Proofs.Ytljihaihhnamfaa.blk bo, j ∉ Go.Proofs.Ytljihaihhnamfaa.blk ao2 := fun j hj hm => by
  rcases hK j hm with h | h
  · exact ha j hj h
  · have := k.own.lt j hj
    omega
theorem apart_kept2 {ao2 : Option Addr} (k : OW J e' w B' bo bap m) (ha : ∀ j ∈ Go.Proofs.Ytljihaihhnamfaa.blk ao, j ∉ Go.Proofs.Ytljihaihhnamfaa.blk bo) (hK : Kept w.heap.size ao ao2) : ∀ j ∈ Go.Proofs.Ytljihaihhnamfaa.blk ao2, j ∉ Go.Proofs.Ytljihaihhnamfaa.blk bo := fun j hj hm => by
  rcases hK j hj with h | h
  · exact ha j h hm
  · have := k.own.lt j hm
    omega
theorem apart_sym (h : ∀ j ∈ Go.Proofs.Ytljihaihhnamfaa.blk ao, j ∉ Go.Proofs.Ytljihaihhnamfaa.blk bo) : ∀ j ∈ Go.Proofs.Ytljihaihhnamfaa.blk bo, j ∉ Go.Proofs.Ytljihaihhnamfaa.blk ao := fun j hj hm => h j hm hj
end
theorem blk_nil : ∀ j ∈ Go.Proofs.Ytljihaihhnamfaa.blk none, j ∉ Go.Proofs.Ytljihaihhnamfaa.blk none := fun j hj => by cases hj
set_option maxRecDepth 100000 in
set_option maxHeartbeats 4000000 in
theorem plain_any (w : World) (ao : Option Addr) (cap : Nat) (l : List Hd) (HL : RK kH w ao cap l) (hl : l.length ≤ 4398046510976) : Calls Try.prog 10 #[.slice ao l.length cap] w (RowK kH 28 w l) := by
  refine s_enter Try.func10 rfl Try.ntmps10 [.slice ao l.length cap] [.slice ao l.length cap, undef, undef, undef, undef, undef, undef, undef, undef, undef, undef, undef, undef, undef, undef, undef, undef, undef, undef, undef, undef, undef, undef, undef] rfl ?_
  have GG := Gro.refl w
  refine wp_seq ?_
  refine wp_region_lit ?_
  refine s_val 2 rfl rfl (.slice none 0 0) (rfl) ?_
  refine nr ?_; intro U h; simp only [z0, z1] at h; subst h
  refine wpList_nil ?_
  refine then_n ?_
  refine wp_seq ?_
  refine wp_region_lit ?_
  refine s_val 3 rfl rfl (.slice none 0 0) (rfl) ?_
  refine nr ?_; intro U h; simp only [z0, z1] at h; subst h
  refine wpList_nil ?_
  refine then_n ?_
  refine wp_seq ?_
  refine wp_seq ?_
  refine wp_region_lit ?_
  refine s_val 6 rfl rfl (.slice ao l.length cap) (rfl) ?_
  refine nr ?_; intro U h; simp only [z0, z1] at h; subst h
  refine s_val 7 rfl rfl (.int .i64 ((l.length : Nat) : Int)) (run_len Try.underlying24 _ rfl _ _ _ rfl _) ?_
  refine nr ?_; intro U h; simp only [z0, z1] at h; subst h
  refine s_val 8 rfl rfl (.int .i64 0) (rfl) ?_
  refine nr ?_; intro U h; simp only [z0, z1] at h; subst h
  refine wpList_nil ?_
  refine then_n ?_
  refine wp_block ?_
  refine wp_loopN (fun mz az wv => ∃ (i : Nat) (ao1 : Option Addr) (cap1 : Nat) (l2 : List Hd) (us1 : Nat → Value), mz = l.length + 1 - i ∧ az = ⟨[.slice ao l.length cap, undef, .slice none 0 0, .slice ao1 l2.length cap1, undef, us1 0, .slice ao l.length cap, .int .i64 ((l.length : Nat) : Int), .int .i64 ((i : Nat) : Int), us1 1, us1 2, us1 3, us1 4, us1 5, us1 6, us1 7, us1 8, us1 9, us1 10, us1 11, us1 12, us1 13, us1 14, undef].toArray, []⟩ ∧ i ≤ l.length ∧ Gro w wv ∧ OW kH 28 wv w.heap.size ao1 cap1 l2 ∧ l2 = l.take i) ?_ _ ⟨0, none, 0, [], (fun kz => ([undef, undef, undef, undef, undef, undef, undef, undef, undef, undef, undef, undef, undef, undef, undef] : List Value).getD kz undef), rfl, rfl, Nat.zero_le _, GG, OW.nil _ _, rfl⟩
  clear GG
  rintro mz az wv ⟨i, ao1, cap1, l2, us1, rfl, rfl, hi, GG, HO, hl2⟩
  refine wp_seq ?_
  refine wp_region_lit ?_
  cases hi1 : decide (((i : Nat) : Int) < ((l.length : Nat) : Int))
  · have hie : i = l.length := by have := of_decide_eq_false hi1; omega
    refine s_val 9 rfl rfl (.bool false) (run_lssT 3 _ _ _ rfl ((i : Nat) : Int) ((l.length : Nat) : Int) rfl rfl false hi1 _) ?_
    refine nr ?_; intro U h; simp only [z0, z1] at h; subst h
    refine wpList_nil ?_
    refine then_n ?_
    refine wp_seq ?_
    refine wp_cond_false rfl ?_
    refine wp_exit ?_
    refine then_x ?_
    refine then_x ?_
    refine blk_x ?_
    refine then_n ?_
    refine wp_seq ?_
    refine wp_region_lit ?_
    refine s_val 23 rfl rfl (.slice ao1 l2.length cap1) (rfl) ?_
    refine nr ?_; intro U h; simp only [z0, z1] at h; subst h
    refine s_val 2 rfl rfl (.slice ao1 l2.length cap1) (rfl) ?_
    refine nr ?_; intro U h; simp only [z0, z1] at h; subst h
    refine wpList_nil ?_
    refine then_n ?_
    refine wp_ret ?_
    refine bodyPost_ret (results_tmp Try.results10 _ _ _) rfl ?_
    have e1 : l2 = l := by rw [hl2, hie, List.take_length]
    subst e1
    exact ⟨ao1, cap1, rfl, GG, HO⟩
  · have hil : i < l.length := by have := of_decide_eq_true hi1; omega
    refine s_val 9 rfl rfl (.bool true) (run_lssT 3 _ _ _ rfl ((i : Nat) : Int) ((l.length : Nat) : Int) rfl rfl true hi1 _) ?_
    refine nr ?_; intro U h; simp only [z0, z1] at h; subst h
    refine wpList_nil ?_
    refine then_n ?_
    refine wp_seq ?_
    refine wp_cond_true rfl ?_
    refine wp_skip ?_
    refine then_n ?_
    refine wp_seq ?_
    refine wp_block ?_
    refine wp_seq ?_
    refine wp_region_lit ?_
    refine s_val 10 rfl rfl (.pointer (pK kH ao i 0)) (run_ixK rH (HL.gro GG) _ _ rfl rfl i rfl (by omega)) ?_
    refine nr ?_; intro U h; simp only [z0, z1] at h; subst h
    refine s_val 11 rfl rfl (.agg (hdA (l.getD i zH))) (run_ldKH (HL.gro GG) _ rfl i rfl (by omega)) ?_
    refine nr ?_; intro U h; simp only [z0, z1] at h; subst h
    refine s_alloc 5 rfl rfl 26 rfl _ zeroH (hdA zH) rfl ?_
    intro w1 g1 G eg1 kg1
    have bg1 := size_base GG eg1
    have dHOg1 := HO.ne eg1
    replace HO := HO.gro G
    replace GG := GG.trans G
    clear G
    clear eg1
    refine nr ?_; intro U h; simp only [z0, z1] at h; subst h
    refine s_store rfl rfl 26 _ _ rfl g1 0 rfl (.agg (hdA (l.getD i zH))) rfl 26 _ kg1 (hdA (l.getD i zH)) rfl (siH' _) (hdA_fit _ _) (hdA_one _) (hdA (l.getD i zH)) (splice_whole _ _ (hdA_sz _ _)) ?_
    intro w2 St
    have kS := kg1
    replace HO := HO.st St dHOg1
    replace GG := GG.store St bg1
    replace kg1 := St.new
    clear St
    refine wpList_nil ?_
    refine then_n ?_
    refine wp_region_lit ?_
    refine s_val 12 rfl rfl (.slice ao1 l2.length cap1) (rfl) ?_
    refine nr ?_; intro U h; simp only [z0, z1] at h; subst h
    refine s_val 13 rfl rfl (.pointer (some ⟨g1, 0, none⟩)) (run_fld 26 _ 0 rfl g1 0 rfl 0 (by kernel_rfl)) ?_
    refine nr ?_; intro U h; simp only [z0, z1] at h; subst h
    refine s_val 14 rfl rfl (.int .i64 (l.getD i zH).n) (ldHn _ rfl g1 rfl (kg1)) ?_
    refine nr ?_; intro U h; simp only [z0, z1] at h; subst h
    refine s_val 15 rfl rfl (.pointer (some ⟨g1, 1, none⟩)) (run_fld 26 _ 1 rfl g1 0 rfl 1 (by kernel_rfl)) ?_
    refine nr ?_; intro U h; simp only [z0, z1] at h; subst h
    refine s_val 16 rfl rfl (.agg (idA (l.getD i zH).id)) (ldHi _ rfl g1 rfl (kg1)) ?_
    refine nr ?_; intro U h; simp only [z0, z1] at h; subst h
    refine s_val 17 rfl rfl (.pointer (some ⟨g1, 17, none⟩)) (run_fld 26 _ 2 rfl g1 0 rfl 17 (by kernel_rfl)) ?_
    refine nr ?_; intro U h; simp only [z0, z1] at h; subst h
    refine s_val 18 rfl rfl (.int .i64 (l.getD i zH).far) (ldHf _ rfl g1 rfl (kg1)) ?_
    refine nr ?_; intro U h; simp only [z0, z1] at h; subst h
    refine s_val 19 rfl rfl (.agg (hdA (mkH (l.getD i zH).n (l.getD i zH).id (l.getD i zH).far))) (run_bd 28 _ rfl [(0, .int .i64 (l.getD i zH).n), (1, .agg (idA (l.getD i zH).id)), (2, .int .i64 (l.getD i zH).far)] rfl _ (bdD012 _ _ _ _)) ?_
    refine nr ?_; intro U h; simp only [z0, z1] at h; subst h
    refine s_bsl 20 rfl rfl 30 1 _ rfl [(0, .agg (hdA (mkH (l.getD i zH).n (l.getD i zH).id (l.getD i zH).far)))] rfl ([(mkH (l.getD i zH).n (l.getD i zH).id (l.getD i zH).far)].flatMap kH.E).toArray 28 (bsD (mkH (l.getD i zH).n (l.getD i zH).id (l.getD i zH).far) _) ?_
    intro w3 q1 G eq1 kq1
    have bq1 := size_base GG eq1
    replace kg1 := G.has kg1
    replace HO := HO.gro G
    replace GG := GG.trans G
    clear G
    have HR1 : RK kH _ (some ⟨q1, 0, none⟩) 1 [(mkH (l.getD i zH).n (l.getD i zH).id (l.getD i zH).far)] := RK.blk kq1 (one_all (atH HL hil)) (Nat.le_refl _)
    clear eq1
    refine nr ?_; intro U h; simp only [z0, z1] at h; subst h
    refine s_appK rD (by decide) 21 rfl rfl _ _ rfl rfl HO rfl HR1 (by rw [hl2]; simp only [List.length_cons, List.length_nil]; have := take_len_le l i; omega) GG.size ?_
    intro ao2 cap2 w4 HO2z G2 _
    replace kg1 := G2.has kg1 (HO.own.ne kg1 (by decide))
    replace GG := G2.gro GG (fun k hk => HO.own.base k hk)
    clear G2 HO
    have HO := HO2z
    clear HO2z
    refine nr ?_; intro U h; simp only [z0, z1] at h; subst h
    refine s_val 3 rfl rfl (.slice ao2 (l2 ++ [(mkH (l.getD i zH).n (l.getD i zH).id (l.getD i zH).far)]).length cap2) (rfl) ?_
    refine nr ?_; intro U h; simp only [z0, z1] at h; subst h
    refine wpList_nil ?_
    refine blk_n ?_
    refine then_n ?_
    refine wp_region_lit ?_
    refine s_val 22 rfl rfl (.int .i64 ((i + 1 : Nat) : Int)) (run_addI 3 _ _ _ rfl ((i : Nat) : Int) 1 ((i + 1 : Nat) : Int) rfl rfl (by omega) (by omega) (by omega) _) ?_
    refine nr ?_; intro U h; simp only [z0, z1] at h; subst h
    refine s_val 8 rfl rfl (.int .i64 ((i + 1 : Nat) : Int)) (rfl) ?_
    refine nr ?_; intro U h; simp only [z0, z1] at h; subst h
    refine wpList_nil ?_
    refine then_n ?_
    exact ⟨l.length + 1 - (i + 1), by omega, i + 1, ao2, cap2, l2 ++ [mkH (l.getD i zH).n (l.getD i zH).id (l.getD i zH).far], (fun kz => ([.pointer (some ⟨g1, 0, none⟩), .bool true, .pointer (pK kH ao i 0), .agg (hdA (l.getD i zH)), .slice ao1 l2.length cap1, .pointer (some ⟨g1, 0, none⟩), .int .i64 (l.getD i zH).n, .pointer (some ⟨g1, 1, none⟩), .agg (idA (l.getD i zH).id), .pointer (some ⟨g1, 17, none⟩), .int .i64 (l.getD i zH).far, .agg (hdA (mkH (l.getD i zH).n (l.getD i zH).id (l.getD i zH).far)), .slice (some ⟨q1, 0, none⟩) 1 1, .slice ao2 (l2 ++ [(mkH (l.getD i zH).n (l.getD i zH).id (l.getD i zH).far)]).length cap2, .int .i64 ((i + 1 : Nat) : Int)] : List Value).getD kz undef), rfl, rfl, by omega, GG, HO, by rw [hl2, take_at zH l i hil]; rfl⟩
set_option maxRecDepth 100000 in
set_option maxHeartbeats 4000000 in
theorem picked_any (w : World) (ao : Option Addr) (cap : Nat) (l : List Hd) (HL : RK kH w ao cap l) (hl : l.length ≤ 4398046510976) (fc : FuncId) (cb : Array Value) (p : Int → Bool) (hen : ∀ args w, (callFunc fc args).run Try.prog w = .ok (.enter fc args) w) (hcl : ∀ (n : Int) (w1 : World), Gro w w1 → Calls Try.prog fc ([Value.int .i64 n].toArray ++ cb) w1 fun e w' => e = .returned (.bool (p n)) ∧ Gro w1 w') : Calls Try.prog 23 #[.slice ao l.length cap, .func (.func fc) #[] cb] w (RowK kH 26 w (l.filter fun y => p y.n)) := by
  refine s_enter Try.func23 rfl Try.ntmps23 [.slice ao l.length cap, .func (.func fc) #[] cb] [.slice ao l.length cap, .func (.func fc) #[] cb, undef, undef, undef, undef, undef, undef, undef, undef, undef, undef, undef, undef, undef, undef, undef, undef, undef, undef, undef, undef, undef, undef] rfl ?_
  have GG := Gro.refl w
  refine wp_seq ?_
  refine wp_region_lit ?_
  refine s_val 4 rfl rfl (.slice none 0 0) (rfl) ?_
  refine nr ?_; intro U h; simp only [z0, z1] at h; subst h
  refine wpList_nil ?_
  refine then_n ?_
  refine wp_seq ?_
  refine wp_region_lit ?_
  refine s_val 5 rfl rfl (.slice none 0 0) (rfl) ?_
  refine nr ?_; intro U h; simp only [z0, z1] at h; subst h
  refine wpList_nil ?_
  refine then_n ?_
  refine wp_seq ?_
  refine wp_seq ?_
  refine wp_region_lit ?_
  refine s_val 8 rfl rfl (.slice ao l.length cap) (rfl) ?_
  refine nr ?_; intro U h; simp only [z0, z1] at h; subst h
  refine s_val 9 rfl rfl (.int .i64 ((l.length : Nat) : Int)) (run_len Try.underlying24 _ rfl _ _ _ rfl _) ?_
  refine nr ?_; intro U h; simp only [z0, z1] at h; subst h
  refine s_val 10 rfl rfl (.int .i64 0) (rfl) ?_
  refine nr ?_; intro U h; simp only [z0, z1] at h; subst h
  refine wpList_nil ?_
  refine then_n ?_
  refine wp_block ?_
  refine wp_loopN (fun mz az wv => ∃ (i : Nat) (ao1 : Option Addr) (cap1 : Nat) (l2 : List Hd) (us1 : Nat → Value), mz = l.length + 1 - i ∧ az = ⟨[.slice ao l.length cap, .func (.func fc) #[] cb, undef, undef, .slice none 0 0, .slice ao1 l2.length cap1, undef, us1 0, .slice ao l.length cap, .int .i64 ((l.length : Nat) : Int), .int .i64 ((i : Nat) : Int), us1 1, us1 2, us1 3, us1 4, us1 5, us1 6, us1 7, us1 8, us1 9, us1 10, us1 11, us1 12, undef].toArray, []⟩ ∧ i ≤ l.length ∧ Gro w wv ∧ OW kH 26 wv w.heap.size ao1 cap1 l2 ∧ (l2 = (l.take i).filter fun y => p y.n)) ?_ _ ⟨0, none, 0, [], (fun kz => ([undef, undef, undef, undef, undef, undef, undef, undef, undef, undef, undef, undef, undef] : List Value).getD kz undef), rfl, rfl, Nat.zero_le _, GG, OW.nil _ _, rfl⟩
  clear GG
  rintro mz az wv ⟨i, ao1, cap1, l2, us1, rfl, rfl, hi, GG, HO, hl2⟩
  refine wp_seq ?_
  refine wp_region_lit ?_
  cases hi1 : decide (((i : Nat) : Int) < ((l.length : Nat) : Int))
  · have hie : i = l.length := by have := of_decide_eq_false hi1; omega
    refine s_val 11 rfl rfl (.bool false) (run_lssT 3 _ _ _ rfl ((i : Nat) : Int) ((l.length : Nat) : Int) rfl rfl false hi1 _) ?_
    refine nr ?_; intro U h; simp only [z0, z1] at h; subst h
    refine wpList_nil ?_
    refine then_n ?_
    refine wp_seq ?_
    refine wp_cond_false rfl ?_
    refine wp_exit ?_
    refine then_x ?_
    refine then_x ?_
    refine blk_x ?_
    refine then_n ?_
    refine wp_seq ?_
    refine wp_region_lit ?_
    refine s_val 23 rfl rfl (.slice ao1 l2.length cap1) (rfl) ?_
    refine nr ?_; intro U h; simp only [z0, z1] at h; subst h
    refine s_val 4 rfl rfl (.slice ao1 l2.length cap1) (rfl) ?_
    refine nr ?_; intro U h; simp only [z0, z1] at h; subst h
    refine wpList_nil ?_
    refine then_n ?_
    refine wp_ret ?_
    refine bodyPost_ret (results_tmp Try.results23 _ _ _) rfl ?_
    have e1 : l2 = l.filter fun y => p y.n := by rw [hl2, hie, List.take_length]
    rw [e1] at HO
    exact ⟨ao1, cap1, by rw [e1]; rfl, GG, HO⟩
  · have hil : i < l.length := by have := of_decide_eq_true hi1; omega
    refine s_val 11 rfl rfl (.bool true) (run_lssT 3 _ _ _ rfl ((i : Nat) : Int) ((l.length : Nat) : Int) rfl rfl true hi1 _) ?_
    refine nr ?_; intro U h; simp only [z0, z1] at h; subst h
    refine wpList_nil ?_
    refine then_n ?_
    refine wp_seq ?_
    refine wp_cond_true rfl ?_
    refine wp_skip ?_
    refine then_n ?_
    refine wp_seq ?_
    refine wp_block ?_
    refine wp_seq ?_
    refine wp_region_lit ?_
    refine s_val 12 rfl rfl (.pointer (pK kH ao i 0)) (run_ixK rH (HL.gro GG) _ _ rfl rfl i rfl (by omega)) ?_
    refine nr ?_; intro U h; simp only [z0, z1] at h; subst h
    refine s_val 13 rfl rfl (.agg (hdA (l.getD i zH))) (run_ldKH (HL.gro GG) _ rfl i rfl (by omega)) ?_
    refine nr ?_; intro U h; simp only [z0, z1] at h; subst h
    refine s_alloc 7 rfl rfl 26 rfl _ zeroH (hdA zH) rfl ?_
    intro w1 g1 G eg1 kg1
    have bg1 := size_base GG eg1
    have dHOg1 := HO.ne eg1
    replace HO := HO.gro G
    replace GG := GG.trans G
    clear G
    clear eg1
    refine nr ?_; intro U h; simp only [z0, z1] at h; subst h
    refine s_store rfl rfl 26 _ _ rfl g1 0 rfl (.agg (hdA (l.getD i zH))) rfl 26 _ kg1 (hdA (l.getD i zH)) rfl (siH' _) (hdA_fit _ _) (hdA_one _) (hdA (l.getD i zH)) (splice_whole _ _ (hdA_sz _ _)) ?_
    intro w2 St
    have kS := kg1
    replace HO := HO.st St dHOg1
    replace GG := GG.store St bg1
    replace kg1 := St.new
    clear St
    refine wpList_nil ?_
    refine then_n ?_
    refine wp_seq ?_
    cases hp : decide (p (l.getD i zH).n = true)
    · refine wp_region_lit ?_
      refine s_val 14 rfl rfl (.func (.func fc) #[] cb) (rfl) ?_
      refine nr ?_; intro U h; simp only [z0, z1] at h; subst h
      refine s_val 15 rfl rfl (.pointer (some ⟨g1, 0, none⟩)) (run_fld 26 _ 0 rfl g1 0 rfl 0 (by kernel_rfl)) ?_
      refine nr ?_; intro U h; simp only [z0, z1] at h; subst h
      refine s_val 16 rfl rfl (.int .i64 (l.getD i zH).n) (ldHn _ rfl g1 rfl (kg1)) ?_
      refine nr ?_; intro U h; simp only [z0, z1] at h; subst h
      refine s_callF 17 rfl rfl _ fc cb hen rfl _ rfl rfl _ rfl [.int .i64 (l.getD i zH).n] rfl (Calls.bool (hcl (l.getD i zH).n _ GG) (Bool.eq_false_iff.2 (of_decide_eq_false hp))) ?_
      intro w3 G
      replace kg1 := G.has kg1
      replace HO := HO.gro G
      replace GG := GG.trans G
      clear G
      refine nr ?_; intro U h; simp only [z0, z1] at h; subst h
      refine wpList_nil ?_
      refine then_n ?_
      refine wp_cond_false rfl ?_
      refine wp_skip ?_
      refine blk_n ?_
      refine then_n ?_
      refine wp_region_lit ?_
      refine s_val 22 rfl rfl (.int .i64 ((i + 1 : Nat) : Int)) (run_addI 3 _ _ _ rfl ((i : Nat) : Int) 1 ((i + 1 : Nat) : Int) rfl rfl (by omega) (by omega) (by omega) _) ?_
      refine nr ?_; intro U h; simp only [z0, z1] at h; subst h
      refine s_val 10 rfl rfl (.int .i64 ((i + 1 : Nat) : Int)) (rfl) ?_
      refine nr ?_; intro U h; simp only [z0, z1] at h; subst h
      refine wpList_nil ?_
      refine then_n ?_
      exact ⟨l.length + 1 - (i + 1), by omega, i + 1, ao1, cap1, l2, (fun kz => ([.pointer (some ⟨g1, 0, none⟩), .bool true, .pointer (pK kH ao i 0), .agg (hdA (l.getD i zH)), .func (.func fc) #[] cb, .pointer (some ⟨g1, 0, none⟩), .int .i64 (l.getD i zH).n, .bool false, us1 8, us1 9, us1 10, us1 11, .int .i64 ((i + 1 : Nat) : Int)] : List Value).getD kz undef), rfl, rfl, by omega, GG, HO, by rw [hl2]; exact fil_no (q := fun y => p y.n) hil (Bool.eq_false_iff.2 (of_decide_eq_false hp))⟩
    · refine wp_region_lit ?_
      refine s_val 14 rfl rfl (.func (.func fc) #[] cb) (rfl) ?_
      refine nr ?_; intro U h; simp only [z0, z1] at h; subst h
      refine s_val 15 rfl rfl (.pointer (some ⟨g1, 0, none⟩)) (run_fld 26 _ 0 rfl g1 0 rfl 0 (by kernel_rfl)) ?_
      refine nr ?_; intro U h; simp only [z0, z1] at h; subst h
      refine s_val 16 rfl rfl (.int .i64 (l.getD i zH).n) (ldHn _ rfl g1 rfl (kg1)) ?_
      refine nr ?_; intro U h; simp only [z0, z1] at h; subst h
      refine s_callF 17 rfl rfl _ fc cb hen rfl _ rfl rfl _ rfl [.int .i64 (l.getD i zH).n] rfl (Calls.bool (hcl (l.getD i zH).n _ GG) (of_decide_eq_true hp)) ?_
      intro w3 G
      replace kg1 := G.has kg1
      replace HO := HO.gro G
      replace GG := GG.trans G
      clear G
      refine nr ?_; intro U h; simp only [z0, z1] at h; subst h
      refine wpList_nil ?_
      refine then_n ?_
      refine wp_cond_true rfl ?_
      refine wp_region_lit ?_
      refine s_val 18 rfl rfl (.slice ao1 l2.length cap1) (rfl) ?_
      refine nr ?_; intro U h; simp only [z0, z1] at h; subst h
      refine s_val 19 rfl rfl (.agg (hdA (l.getD i zH))) (ldH0 _ rfl g1 rfl (kg1)) ?_
      refine nr ?_; intro U h; simp only [z0, z1] at h; subst h
      refine s_bsl 20 rfl rfl 24 1 _ rfl [(0, .agg (hdA (l.getD i zH)))] rfl ([(l.getD i zH)].flatMap kH.E).toArray 26 (bsH (l.getD i zH) _) ?_
      intro w4 q1 G eq1 kq1
      have bq1 := size_base GG eq1
      replace kg1 := G.has kg1
      replace HO := HO.gro G
      replace GG := GG.trans G
      clear G
      have HR1 : RK kH _ (some ⟨q1, 0, none⟩) 1 [(l.getD i zH)] := RK.blk kq1 (one_all (atH HL hil)) (Nat.le_refl _)
      clear eq1
      refine nr ?_; intro U h; simp only [z0, z1] at h; subst h
      refine s_appK rH (by decide) 21 rfl rfl _ _ rfl rfl HO rfl HR1 (by rw [hl2]; simp only [List.length_cons, List.length_nil]; have := fil_len l i fun y => p y.n; omega) GG.size ?_
      intro ao2 cap2 w5 HO2z G2 _
      clear kg1
      replace GG := G2.gro GG (fun k hk => HO.own.base k hk)
      clear G2 HO
      have HO := HO2z
      clear HO2z
      refine nr ?_; intro U h; simp only [z0, z1] at h; subst h
      refine s_val 5 rfl rfl (.slice ao2 (l2 ++ [(l.getD i zH)]).length cap2) (rfl) ?_
      refine nr ?_; intro U h; simp only [z0, z1] at h; subst h
      refine wpList_nil ?_
      refine blk_n ?_
      refine then_n ?_
      refine wp_region_lit ?_
      refine s_val 22 rfl rfl (.int .i64 ((i + 1 : Nat) : Int)) (run_addI 3 _ _ _ rfl ((i : Nat) : Int) 1 ((i + 1 : Nat) : Int) rfl rfl (by omega) (by omega) (by omega) _) ?_
      refine nr ?_; intro U h; simp only [z0, z1] at h; subst h
      refine s_val 10 rfl rfl (.int .i64 ((i + 1 : Nat) : Int)) (rfl) ?_
      refine nr ?_; intro U h; simp only [z0, z1] at h; subst h
      refine wpList_nil ?_
      refine then_n ?_
      exact ⟨l.length + 1 - (i + 1), by omega, i + 1, ao2, cap2, l2 ++ [(l.getD i zH)], (fun kz => ([.pointer (some ⟨g1, 0, none⟩), .bool true, .pointer (pK kH ao i 0), .agg (hdA (l.getD i zH)), .func (.func fc) #[] cb, .pointer (some ⟨g1, 0, none⟩), .int .i64 (l.getD i zH).n, .bool true, .slice ao1 l2.length cap1, .agg (hdA (l.getD i zH)), .slice (some ⟨q1, 0, none⟩) 1 1, .slice ao2 (l2 ++ [(l.getD i zH)]).length cap2, .int .i64 ((i + 1 : Nat) : Int)] : List Value).getD kz undef), rfl, rfl, by omega, GG, HO, by rw [hl2]; exact fil_yes (q := fun y => p y.n) hil (of_decide_eq_true hp)⟩
theorem putH_len (l : List Hd) (x : Hd) : (putH l x).length ≤ l.length + 1 := by
  unfold putH
  induction l with
  | nil => simp
  | cons y l ih =>
    simp only [List.filter_cons, List.length_append, List.length_cons] at ih ⊢
    by_cases h1 : y.n < x.n
    · have h2 : ¬ x.n < y.n := by omega
      simp only [h1, h2, decide_true, decide_false, if_true, if_false, List.length_cons, Bool.false_eq_true]
      omega
    · by_cases h2 : x.n < y.n
      · simp only [h1, h2, decide_true, decide_false, if_true, if_false, List.length_cons, Bool.false_eq_true]
        omega
      · simp only [h1, h2, decide_false, if_false, Bool.false_eq_true]
        omega
theorem putH_all {l : List Hd} {x : Hd} (hl : ∀ y ∈ l, y.ok) (hx : x.ok) : ∀ y ∈ putH l x, y.ok := fun y hy => by
  rcases mem_putH.1 hy with e | ⟨h, _⟩
  · rw [e]; exact hx
  · exact hl y h
set_option maxRecDepth 100000 in
set_option maxHeartbeats 4000000 in
theorem put_any (w : World) (ao : Option Addr) (cap : Nat) (l : List Hd) (HL : RK kH w ao cap l) (hl : l.length ≤ 4398046510976) (x : Hd) (hx : x.ok) : Calls Try.prog 12 #[.slice ao l.length cap, .agg (hdA x)] w (RowK kH 26 w (putH l x)) := by
  refine s_enter Try.func12 rfl Try.ntmps12 [.slice ao l.length cap, .agg (hdA x)] [.slice ao l.length cap, .agg (hdA x), undef, undef, undef, undef, undef, undef, undef, undef, undef, undef, undef, undef, undef, undef, undef, undef, undef] rfl ?_
  have GG := Gro.refl w
  refine wp_seq ?_
  refine wp_region_lit ?_
  refine s_box 3 rfl rfl 26 _ rfl _ rfl (hdA x) rfl ?_
  intro w1 g1 G eg1 kg1
  have bg1 := size_base GG eg1
  replace GG := GG.trans G
  clear G
  clear eg1
  refine nr ?_; intro U h; simp only [z0, z1] at h; subst h
  refine s_val 4 rfl rfl (.slice none 0 0) (rfl) ?_
  refine nr ?_; intro U h; simp only [z0, z1] at h; subst h
  refine wpList_nil ?_
  refine then_n ?_
  refine wp_seq ?_
  refine wp_region_lit ?_
  refine s_val 7 rfl rfl (.slice ao l.length cap) (rfl) ?_
  refine nr ?_; intro U h; simp only [z0, z1] at h; subst h
  refine s_val 8 rfl rfl (.func (.func 24) #[] #[.pointer (some ⟨g1, 0, none⟩)]) (run_mkF 24 _ rfl _ rfl) ?_
  refine nr ?_; intro U h; simp only [z0, z1] at h; subst h
  refine s_callx 9 rfl rfl _ 23 Try.call23 rfl rfl _ rfl [.slice ao l.length cap, .func (.func 24) #[] #[.pointer (some ⟨g1, 0, none⟩)]] rfl (picked_any _ ao cap l (HL.gro GG) hl 24 #[.pointer (some ⟨g1, 0, none⟩)] (fun n => decide (n < x.n)) Try.call24 (fun n w1 G1 => put1_any n g1 x w1 (G1.has kg1))) (by rintro _ _ ⟨_, _, he, _⟩; exact ⟨_, he⟩) ?_
  rintro v w2 ⟨ao1, cap1, he, G, HO1⟩
  cases he
  replace HO1 := HO1.mono GG.size
  replace kg1 := G.has kg1
  replace GG := GG.trans G
  clear G
  have HR1 := HO1.re
  refine nr ?_; intro U h; simp only [z0, z1] at h; subst h
  refine s_val 5 rfl rfl (.slice ao1 (l.filter fun y => decide (y.n < x.n)).length cap1) (rfl) ?_
  refine nr ?_; intro U h; simp only [z0, z1] at h; subst h
  refine wpList_nil ?_
  refine then_n ?_
  refine wp_seq ?_
  refine wp_region_lit ?_
  refine s_val 10 rfl rfl (.slice ao l.length cap) (rfl) ?_
  refine nr ?_; intro U h; simp only [z0, z1] at h; subst h
  refine s_val 11 rfl rfl (.func (.func 25) #[] #[.pointer (some ⟨g1, 0, none⟩)]) (run_mkF 25 _ rfl _ rfl) ?_
  refine nr ?_; intro U h; simp only [z0, z1] at h; subst h
  refine s_callx 12 rfl rfl _ 23 Try.call23 rfl rfl _ rfl [.slice ao l.length cap, .func (.func 25) #[] #[.pointer (some ⟨g1, 0, none⟩)]] rfl (picked_any _ ao cap l (HL.gro GG) hl 25 #[.pointer (some ⟨g1, 0, none⟩)] (fun n => decide (x.n < n)) Try.call25 (fun n w1 G1 => put2_any n g1 x w1 (G1.has kg1))) (by rintro _ _ ⟨_, _, he, _⟩; exact ⟨_, he⟩) ?_
  rintro v w3 ⟨ao2, cap2, he, G, HO2⟩
  cases he
  have ha2_1 := HO2.apart HO1
  replace HO2 := HO2.mono GG.size
  replace kg1 := G.has kg1
  replace HR1 := HR1.gro G
  replace HO1 := HO1.gro G
  replace GG := GG.trans G
  clear G
  have HR2 := HO2.re
  refine nr ?_; intro U h; simp only [z0, z1] at h; subst h
  refine s_val 6 rfl rfl (.slice ao2 (l.filter fun y => decide (x.n < y.n)).length cap2) (rfl) ?_
  refine nr ?_; intro U h; simp only [z0, z1] at h; subst h
  refine wpList_nil ?_
  refine then_n ?_
  refine wp_seq ?_
  refine wp_region_lit ?_
  refine s_val 13 rfl rfl (.slice ao1 (l.filter fun y => decide (y.n < x.n)).length cap1) (rfl) ?_
  refine nr ?_; intro U h; simp only [z0, z1] at h; subst h
  refine s_val 14 rfl rfl (.agg (hdA x)) (ldH0 _ rfl g1 rfl (kg1)) ?_
  refine nr ?_; intro U h; simp only [z0, z1] at h; subst h
  refine s_bsl 15 rfl rfl 24 1 _ rfl [(0, .agg (hdA x))] rfl ([x].flatMap kH.E).toArray 26 (bsH x _) ?_
  intro w4 q3 G eq3 kq3
  have bq3 := size_base GG eq3
  replace kg1 := G.has kg1
  replace HR1 := HR1.gro G
  replace HO1 := HO1.gro G
  replace HR2 := HR2.gro G
  replace HO2 := HO2.gro G
  replace GG := GG.trans G
  clear G
  have HR3 : RK kH _ (some ⟨q3, 0, none⟩) 1 [x] := RK.blk kq3 (one_all hx) (Nat.le_refl _)
  clear eq3
  refine nr ?_; intro U h; simp only [z0, z1] at h; subst h
  refine s_appK rH (by decide) 16 rfl rfl _ _ rfl rfl HO1 rfl HR3 (by simp only [List.length_cons, List.length_nil]; have := List.length_filter_le (fun y : Hd => decide (y.n < x.n)) l; omega) GG.size ?_
  intro ao5 cap5 w5 HO5 G2 KPz
  have ha5 := apart_kept HO2 ha2_1 KPz
  replace HO2 := HO2.other G2 ha2_1
  replace GG := G2.gro GG (fun k hk => HO1.own.base k hk)
  clear G2 HO1 KPz
  refine nr ?_; intro U h; simp only [z0, z1] at h; subst h
  refine s_val 17 rfl rfl (.slice ao2 (l.filter fun y => decide (x.n < y.n)).length cap2) (rfl) ?_
  refine nr ?_; intro U h; simp only [z0, z1] at h; subst h
  refine s_appK rH (by decide) 18 rfl rfl _ _ rfl rfl HO5 rfl HO2.re (by have := putH_len l x; unfold putH at this; simp only [List.length_append, List.length_cons, List.length_nil] at this ⊢; omega) GG.size ?_
  intro ao6 cap6 w6 HO6 G2 _
  replace GG := G2.gro GG (fun k hk => HO5.own.base k hk)
  clear G2 HO5 HO2
  refine nr ?_; intro U h; simp only [z0, z1] at h; subst h
  refine s_val 4 rfl rfl (.slice ao6 ((l.filter fun y => decide (y.n < x.n)) ++ [x] ++ (l.filter fun y => decide (x.n < y.n))).length cap6) (rfl) ?_
  refine nr ?_; intro U h; simp only [z0, z1] at h; subst h
  refine wpList_nil ?_
  refine then_n ?_
  refine wp_ret ?_
  refine bodyPost_ret (results_tmp Try.results12 _ _ _) rfl ?_
  have e1 : (l.filter fun y => decide (y.n < x.n)) ++ [x] ++ (l.filter fun y => decide (x.n < y.n)) = putH l x := by unfold putH; rw [List.append_assoc]; rfl
  rw [e1] at HO6 ⊢
  exact ⟨ao6, cap6, rfl, GG, HO6⟩
set_option maxRecDepth 100000 in
set_option maxHeartbeats 4000000 in
theorem forget_any (w : World) (ao : Option Addr) (cap : Nat) (l : List Hd) (HL : RK kH w ao cap l) (hl : l.length ≤ 4398046510976) (m : Int) : Calls Try.prog 13 #[.slice ao l.length cap, .int .i64 m] w (RowK kH 26 w (forH l m)) := by
  refine s_enter Try.func13 rfl Try.ntmps13 [.slice ao l.length cap, .int .i64 m] [.slice ao l.length cap, .int .i64 m, undef, undef, undef, undef, undef, undef] rfl ?_
  have GG := Gro.refl w
  refine wp_seq ?_
  refine wp_region_lit ?_
  refine s_box 3 rfl rfl 3 _ rfl _ rfl (inA m) rfl ?_
  intro w1 g1 G eg1 kg1
  have bg1 := size_base GG eg1
  replace GG := GG.trans G
  clear G
  clear eg1
  refine nr ?_; intro U h; simp only [z0, z1] at h; subst h
  refine s_val 4 rfl rfl (.slice none 0 0) (rfl) ?_
  refine nr ?_; intro U h; simp only [z0, z1] at h; subst h
  refine wpList_nil ?_
  refine then_n ?_
  refine wp_seq ?_
  refine wp_region_lit ?_
  refine s_val 5 rfl rfl (.slice ao l.length cap) (rfl) ?_
  refine nr ?_; intro U h; simp only [z0, z1] at h; subst h
  refine s_val 6 rfl rfl (.func (.func 26) #[] #[.pointer (some ⟨g1, 0, none⟩)]) (run_mkF 26 _ rfl _ rfl) ?_
  refine nr ?_; intro U h; simp only [z0, z1] at h; subst h
  refine s_callx 7 rfl rfl _ 23 Try.call23 rfl rfl _ rfl [.slice ao l.length cap, .func (.func 26) #[] #[.pointer (some ⟨g1, 0, none⟩)]] rfl (picked_any _ ao cap l (HL.gro GG) hl 26 #[.pointer (some ⟨g1, 0, none⟩)] (fun n => decide (n ≠ m)) Try.call26 (fun n w1 G1 => forg1_any n g1 m w1 (G1.has kg1))) (by rintro _ _ ⟨_, _, he, _⟩; exact ⟨_, he⟩) ?_
  rintro v w2 ⟨ao1, cap1, he, G, HO1⟩
  cases he
  replace HO1 := HO1.mono GG.size
  replace kg1 := G.has kg1
  replace GG := GG.trans G
  clear G
  have HR1 := HO1.re
  refine nr ?_; intro U h; simp only [z0, z1] at h; subst h
  refine s_val 4 rfl rfl (.slice ao1 (forH l m).length cap1) (rfl) ?_
  refine nr ?_; intro U h; simp only [z0, z1] at h; subst h
  refine wpList_nil ?_
  refine then_n ?_
  refine wp_ret ?_
  refine bodyPost_ret (results_tmp Try.results13 _ _ _) rfl ?_
  exact ⟨ao1, cap1, rfl, GG, HO1⟩
section
variable {w wv : World} {aoL aoG ao2 : Option Addr} {capL capG g : Nat} {lL lG : List Hd}
theorem box_notL (HL : OW kH 28 wv w.heap.size aoL capL lL) (_ : OW kH 28 wv w.heap.size aoG capG lG) (h : g < w.heap.size ∨ g ∉ Go.Proofs.Ytljihaihhnamfaa.blk aoL ∧ g ∉ Go.Proofs.Ytljihaihhnamfaa.blk aoG) : g ∉ Go.Proofs.Ytljihaihhnamfaa.blk aoL := fun hm => by
  rcases h with h | h
  · have := HL.own.base g hm
    omega
  · exact h.1 hm
theorem box_notG (_ : OW kH 28 wv w.heap.size aoL capL lL) (HG : OW kH 28 wv w.heap.size aoG capG lG) (h : g < w.heap.size ∨ g ∉ Go.Proofs.Ytljihaihhnamfaa.blk aoL ∧ g ∉ Go.Proofs.Ytljihaihhnamfaa.blk aoG) : g ∉ Go.Proofs.Ytljihaihhnamfaa.blk aoG := fun hm => by
  rcases h with h | h
  · have := HG.own.base g hm
    omega
  · exact h.2 hm
theorem box_keptL (h : g < w.heap.size ∨ g ∉ Go.Proofs.Ytljihaihhnamfaa.blk aoL ∧ g ∉ Go.Proofs.Ytljihaihhnamfaa.blk aoG) (hl : g < wv.heap.size) (hK : Kept wv.heap.size aoL ao2) : g < w.heap.size ∨ g ∉ Go.Proofs.Ytljihaihhnamfaa.blk ao2 ∧ g ∉ Go.Proofs.Ytljihaihhnamfaa.blk aoG := by
  rcases h with h | h
  · exact .inl h
  · refine .inr ⟨fun hm => ?_, h.2⟩
    rcases hK g hm with k | k
    · exact h.1 k
    · omega
theorem box_keptG (h : g < w.heap.size ∨ g ∉ Go.Proofs.Ytljihaihhnamfaa.blk aoL ∧ g ∉ Go.Proofs.Ytljihaihhnamfaa.blk aoG) (hl : g < wv.heap.size) (hK : Kept wv.heap.size aoG ao2) : g < w.heap.size ∨ g ∉ Go.Proofs.Ytljihaihhnamfaa.blk aoL ∧ g ∉ Go.Proofs.Ytljihaihhnamfaa.blk ao2 := by
  rcases h with h | h
  · exact .inl h
  · refine .inr ⟨h.1, fun hm => ?_⟩
    rcases hK g hm with k | k
    · exact h.2 k
    · omega
end
set_option maxRecDepth 100000 in
set_option maxHeartbeats 4000000 in
theorem rput_any (w : World) (ao : Option Addr) (cap : Nat) (l : List Hd) (HL : RK kH w ao cap l) (hl : l.length ≤ 4398046510976) (x : Hd) (hx : x.ok) : Calls Try.prog 15 #[.slice ao l.length cap, .agg (hdA x)] w (RowK kH 28 w (putH l x)) := by
  refine s_enter Try.func15 rfl Try.ntmps15 [.slice ao l.length cap, .agg (hdA x)] [.slice ao l.length cap, .agg (hdA x), undef, undef, undef, undef, undef, undef, undef, undef, undef, undef, undef, undef, undef, undef, undef, undef, undef, undef, undef, undef, undef, undef, undef, undef, undef, undef, undef, undef, undef, undef, undef, undef, undef, undef, undef, undef, undef, undef, undef, undef, undef, undef, undef, undef, undef, undef, undef, undef, undef] rfl ?_
  have GG := Gro.refl w
  refine wp_seq ?_
  refine wp_region_lit ?_
  refine s_box 3 rfl rfl 28 _ rfl _ rfl (hdA x) rfl ?_
  intro w1 g1 G eg1 kg1
  have bg1 := size_base GG eg1
  replace GG := GG.trans G
  clear G
  clear eg1
  refine nr ?_; intro U h; simp only [z0, z1] at h; subst h
  refine s_val 4 rfl rfl (.slice none 0 0) (rfl) ?_
  refine nr ?_; intro U h; simp only [z0, z1] at h; subst h
  refine wpList_nil ?_
  refine then_n ?_
  refine wp_seq ?_
  refine wp_region_lit ?_
  refine s_val 5 rfl rfl (.slice none 0 0) (rfl) ?_
  refine nr ?_; intro U h; simp only [z0, z1] at h; subst h
  refine s_val 6 rfl rfl (.slice none 0 0) (rfl) ?_
  refine nr ?_; intro U h; simp only [z0, z1] at h; subst h
  refine wpList_nil ?_
  refine then_n ?_
  refine wp_seq ?_
  refine wp_seq ?_
  refine wp_region_lit ?_
  refine s_val 7 rfl rfl (.int .i64 0) (rfl) ?_
  refine nr ?_; intro U h; simp only [z0, z1] at h; subst h
  refine wpList_nil ?_
  refine then_n ?_
  refine wp_block ?_
  refine wp_loopN (fun mz az wv => ∃ (i : Nat) (aoL : Option Addr) (capL : Nat) (lL : List Hd) (aoG : Option Addr) (capG : Nat) (lG : List Hd) (us1 : Nat → Value), mz = l.length + 1 - i ∧ az = ⟨[.slice ao l.length cap, .agg (hdA x), undef, .pointer (some ⟨g1, 0, none⟩), .slice none 0 0, .slice aoL lL.length capL, .slice aoG lG.length capG, .int .i64 ((i : Nat) : Int), us1 0, us1 1, us1 2, us1 3, us1 4, us1 5, us1 6, us1 7, us1 8, us1 9, us1 10, us1 11, us1 12, us1 13, us1 14, us1 15, us1 16, us1 17, us1 18, us1 19, us1 20, us1 21, us1 22, us1 23, us1 24, us1 25, us1 26, us1 27, us1 28, us1 29, us1 30, us1 31, us1 32, us1 33, us1 34, us1 35, undef, undef, undef, undef, undef, undef, undef].toArray, []⟩ ∧ i ≤ l.length ∧ Gro w wv ∧ (g1 < w.heap.size ∨ g1 ∉ Go.Proofs.Ytljihaihhnamfaa.blk aoL ∧ g1 ∉ Go.Proofs.Ytljihaihhnamfaa.blk aoG) ∧ wv.heap[g1]? = some (.cells (hdA x) 28 (0, 0)) ∧ OW kH 28 wv w.heap.size aoL capL lL ∧ OW kH 28 wv w.heap.size aoG capG lG ∧ (∀ j ∈ Go.Proofs.Ytljihaihhnamfaa.blk aoL, j ∉ Go.Proofs.Ytljihaihhnamfaa.blk aoG) ∧ (lL = (l.take i).filter fun y => decide (y.n < x.n)) ∧ (lG = (l.take i).filter fun y => decide (x.n < y.n))) ?_ _ ⟨0, none, 0, [], none, 0, [], (fun kz => ([undef, undef, undef, undef, undef, undef, undef, undef, undef, undef, undef, undef, undef, undef, undef, undef, undef, undef, undef, undef, undef, undef, undef, undef, undef, undef, undef, undef, undef, undef, undef, undef, undef, undef, undef, undef] : List Value).getD kz undef), rfl, rfl, Nat.zero_le _, GG, .inr ⟨(fun hm => by cases hm), (fun hm => by cases hm)⟩, kg1, OW.nil _ _, OW.nil _ _, blk_nil, rfl, rfl⟩
  clear GG kg1
  rintro mz az wv ⟨i, aoL, capL, lL, aoG, capG, lG, us1, rfl, rfl, hi, GG, hg, kg1, HOL, HOG, hap, hlL, hlG⟩
  refine wp_seq ?_
  refine wp_seq ?_
  refine wp_region_lit ?_
  refine s_val 8 rfl rfl (.int .i64 ((i : Nat) : Int)) (rfl) ?_
  refine nr ?_; intro U h; simp only [z0, z1] at h; subst h
  refine s_val 9 rfl rfl (.slice ao l.length cap) (rfl) ?_
  refine nr ?_; intro U h; simp only [z0, z1] at h; subst h
  refine s_val 10 rfl rfl (.int .i64 ((l.length : Nat) : Int)) (run_len Try.underlying30 _ rfl _ _ _ rfl _) ?_
  refine nr ?_; intro U h; simp only [z0, z1] at h; subst h
  cases hi1 : decide (((i : Nat) : Int) < ((l.length : Nat) : Int))
  · have hie : i = l.length := by have := of_decide_eq_false hi1; omega
    refine s_val 11 rfl rfl (.bool false) (run_lssT 3 _ _ _ rfl ((i : Nat) : Int) ((l.length : Nat) : Int) rfl rfl false hi1 _) ?_
    refine nr ?_; intro U h; simp only [z0, z1] at h; subst h
    refine wpList_nil ?_
    refine then_n ?_
    refine wp_cond_false rfl ?_
    refine wp_exit ?_
    refine then_x ?_
    refine then_x ?_
    refine blk_x ?_
    refine then_n ?_
    refine wp_seq ?_
    refine wp_region_lit ?_
    refine s_val 44 rfl rfl (.slice aoL lL.length capL) (rfl) ?_
    refine nr ?_; intro U h; simp only [z0, z1] at h; subst h
    refine s_val 45 rfl rfl (.agg (hdA x)) (ldD0 _ rfl g1 rfl (kg1)) ?_
    refine nr ?_; intro U h; simp only [z0, z1] at h; subst h
    refine s_bsl 46 rfl rfl 30 1 _ rfl [(0, .agg (hdA x))] rfl ([x].flatMap kH.E).toArray 28 (bsD x _) ?_
    intro w2 q1 G eq1 kq1
    have bq1 := size_base GG eq1
    replace kg1 := G.has kg1
    replace HOL := HOL.gro G
    replace HOG := HOG.gro G
    replace GG := GG.trans G
    clear G
    have HR1 : RK kH _ (some ⟨q1, 0, none⟩) 1 [x] := RK.blk kq1 (one_all hx) (Nat.le_refl _)
    clear eq1
    refine nr ?_; intro U h; simp only [z0, z1] at h; subst h
    refine s_appK rD (by decide) 47 rfl rfl _ _ rfl rfl HOL rfl HR1 (by rw [hlL]; simp only [List.length_cons, List.length_nil]; have := fil_len l i (fun y : Hd => decide (y.n < x.n)); omega) GG.size ?_
    intro ao5 cap5 w3 HO5 G2 _
    replace HOG := HOG.other G2 (apart_sym hap)
    replace GG := G2.gro GG (fun k hk => HOL.own.base k hk)
    clear G2 HOL
    refine nr ?_; intro U h; simp only [z0, z1] at h; subst h
    refine s_val 5 rfl rfl (.slice ao5 (lL ++ [x]).length cap5) (rfl) ?_
    refine nr ?_; intro U h; simp only [z0, z1] at h; subst h
    refine wpList_nil ?_
    refine then_n ?_
    refine wp_seq ?_
    refine wp_region_lit ?_
    refine s_val 48 rfl rfl (.slice ao5 (lL ++ [x]).length cap5) (rfl) ?_
    refine nr ?_; intro U h; simp only [z0, z1] at h; subst h
    refine s_val 49 rfl rfl (.slice aoG lG.length capG) (rfl) ?_
    refine nr ?_; intro U h; simp only [z0, z1] at h; subst h
    refine s_appK rD (by decide) 50 rfl rfl _ _ rfl rfl HO5 rfl HOG.re (by have := putH_len l x; unfold putH at this; rw [hlL, hlG, hie, List.take_length]; simp only [List.length_append, List.length_cons, List.length_nil] at this ⊢; omega) GG.size ?_
    intro ao6 cap6 w4 HO6 G2 _
    replace GG := G2.gro GG (fun k hk => HO5.own.base k hk)
    clear G2 HO5 HOG
    refine nr ?_; intro U h; simp only [z0, z1] at h; subst h
    refine s_val 4 rfl rfl (.slice ao6 (lL ++ [x] ++ lG).length cap6) (rfl) ?_
    refine nr ?_; intro U h; simp only [z0, z1] at h; subst h
    refine wpList_nil ?_
    refine then_n ?_
    refine wp_ret ?_
    refine bodyPost_ret (results_tmp Try.results15 _ _ _) rfl ?_
    have e1 : lL ++ [x] ++ lG = putH l x := by rw [hlL, hlG, hie, List.take_length]; unfold putH; rw [List.append_assoc]; rfl
    rw [e1] at HO6 ⊢
    exact ⟨ao6, cap6, rfl, GG, HO6⟩
  · have hil : i < l.length := by have := of_decide_eq_true hi1; omega
    refine s_val 11 rfl rfl (.bool true) (run_lssT 3 _ _ _ rfl ((i : Nat) : Int) ((l.length : Nat) : Int) rfl rfl true hi1 _) ?_
    refine nr ?_; intro U h; simp only [z0, z1] at h; subst h
    refine wpList_nil ?_
    refine then_n ?_
    refine wp_cond_true rfl ?_
    refine wp_skip ?_
    refine then_n ?_
    refine wp_seq ?_
    refine wp_block ?_
    refine wp_seq ?_
    cases hp : decide ((l.getD i zH).n < x.n)
    · refine wp_region_exA (A := ?Ax1) 7 [(0, 14), (1, 15), (2, 16), (3, 17), (4, 18), (5, 19), (6, 20)] [.val (.slice ao l.length cap), .val (.int .i64 ((i : Nat) : Int)), .val (.pointer (pK kH ao i 0)), .val (.pointer (pK kH ao i 0)), .val (.int .i64 (l.getD i zH).n), .val (.pointer (some ⟨g1, 0, none⟩)), .val (.int .i64 x.n)] follows (by kernel_rfl) rfl ?hAx1 (opsA_cons ?o0x1 (opsA_cons ?o1x1 (opsA_cons ?o2x1 (opsA_cons ?o3x1 (opsA_cons ?o4x1 (opsA_cons ?o5x1 (opsA_cons ?o6x1 opsA_nil))))))) ?restx1
      case hAx1 =>
        intro ptrs
        simp only [full, foldSlots, filledE, postE, List.foldl_cons, List.foldl_nil, List.getD_cons_zero, List.getD_cons_succ, fill_val, List.set_cons_zero, List.set_cons_succ]
        exact rfl
      case o0x1 => exact fun _ _ _ _ => opE_move (v := .slice ao l.length cap) _ rfl rfl rfl
      case o1x1 => exact fun _ _ _ _ => opE_move (v := .int .i64 ((i : Nat) : Int)) _ rfl rfl rfl
      case o2x1 => exact fun _ _ hw _ => opE_value (v := .pointer (pK kH ao i 0)) rfl (run_ixK rD (HL.gro (GG.drew.trans hw)) _ _ rfl rfl i rfl (by omega))
      case o3x1 => exact fun _ _ hw _ => opE_value (v := .pointer (pK kH ao i 0)) rfl (run_fdK (HL.gro (GG.drew.trans hw)) 28 _ 0 0 (fdD_0 _) rfl i rfl (by omega))
      case o4x1 => exact fun _ _ hw _ => opE_value (v := .int .i64 (l.getD i zH).n) rfl (run_ldKHn (HL.gro (GG.drew.trans hw)) _ rfl i rfl (by omega))
      case o5x1 => exact fun _ _ _ _ => opE_value (v := .pointer (some ⟨g1, 0, none⟩)) rfl (run_fld 28 _ 0 rfl g1 0 rfl 0 (by kernel_rfl))
      case o6x1 => exact fun _ _ hw _ => opE_value (v := .int .i64 x.n) rfl (ldDn _ rfl g1 rfl (hw.has kg1))
      intro ptrs w2 GD hxE
      simp only [List.drop_succ_cons, List.drop_zero]
      replace kg1 := GD.has kg1
      replace HOL := HOL.gro ((Gro.refl _).drew.trans GD)
      replace HOG := HOG.gro ((Gro.refl _).drew.trans GD)
      replace GG := GG.drew.trans GD
      clear GD
      refine s_val 21 rfl rfl (.bool false) (run_lssT 3 _ _ _ rfl (l.getD i zH).n x.n rfl rfl false hp _) ?_
      refine nr ?_; intro U h; simp only [z0, z1] at h; subst h
      refine wpList_nil ?_
      refine then_n ?_
      refine wp_cond_false rfl ?_
      refine wp_seq ?_
      cases hq : decide (x.n < (l.getD i zH).n)
      · refine wp_region_exA (A := ?Ax2) 7 [(0, 29), (1, 30), (2, 31), (3, 32), (4, 33), (5, 34), (6, 35)] [.val (.slice ao l.length cap), .val (.int .i64 ((i : Nat) : Int)), .val (.pointer (pK kH ao i 0)), .val (.pointer (pK kH ao i 0)), .val (.int .i64 (l.getD i zH).n), .val (.pointer (some ⟨g1, 0, none⟩)), .val (.int .i64 x.n)] follows (by kernel_rfl) rfl ?hAx2 (opsA_cons ?o0x2 (opsA_cons ?o1x2 (opsA_cons ?o2x2 (opsA_cons ?o3x2 (opsA_cons ?o4x2 (opsA_cons ?o5x2 (opsA_cons ?o6x2 opsA_nil))))))) ?restx2
        case hAx2 =>
          intro ptrs
          simp only [full, foldSlots, filledE, postE, List.foldl_cons, List.foldl_nil, List.getD_cons_zero, List.getD_cons_succ, fill_val, List.set_cons_zero, List.set_cons_succ]
          exact rfl
        case o0x2 => exact fun _ _ _ _ => opE_move (v := .slice ao l.length cap) _ rfl rfl rfl
        case o1x2 => exact fun _ _ _ _ => opE_move (v := .int .i64 ((i : Nat) : Int)) _ rfl rfl rfl
        case o2x2 => exact fun _ _ hw _ => opE_value (v := .pointer (pK kH ao i 0)) rfl (run_ixK rD (HL.gro (GG.drew.trans hw)) _ _ rfl rfl i rfl (by omega))
        case o3x2 => exact fun _ _ hw _ => opE_value (v := .pointer (pK kH ao i 0)) rfl (run_fdK (HL.gro (GG.drew.trans hw)) 28 _ 0 0 (fdD_0 _) rfl i rfl (by omega))
        case o4x2 => exact fun _ _ hw _ => opE_value (v := .int .i64 (l.getD i zH).n) rfl (run_ldKHn (HL.gro (GG.drew.trans hw)) _ rfl i rfl (by omega))
        case o5x2 => exact fun _ _ _ _ => opE_value (v := .pointer (some ⟨g1, 0, none⟩)) rfl (run_fld 28 _ 0 rfl g1 0 rfl 0 (by kernel_rfl))
        case o6x2 => exact fun _ _ hw _ => opE_value (v := .int .i64 x.n) rfl (ldDn _ rfl g1 rfl (hw.has kg1))
        intro ptrs w3 GD hxE
        simp only [List.drop_succ_cons, List.drop_zero]
        replace kg1 := GD.has kg1
        replace HOL := HOL.gro ((Gro.refl _).drew.trans GD)
        replace HOG := HOG.gro ((Gro.refl _).drew.trans GD)
        replace GG := GG.drew.trans GD
        clear GD
        refine s_val 36 rfl rfl (.bool false) (run_gtrT 3 _ _ _ rfl (l.getD i zH).n x.n rfl rfl false hq _) ?_
        refine nr ?_; intro U h; simp only [z0, z1] at h; subst h
        refine wpList_nil ?_
        refine then_n ?_
        refine wp_cond_false rfl ?_
        refine wp_skip ?_
        refine blk_n ?_
        refine then_n ?_
        refine wp_region_lit ?_
        refine s_val 12 rfl rfl (.int .i64 ((i : Nat) : Int)) (rfl) ?_
        refine nr ?_; intro U h; simp only [z0, z1] at h; subst h
        refine s_val 13 rfl rfl (.int .i64 ((i + 1 : Nat) : Int)) (run_addI 3 _ _ _ rfl ((i : Nat) : Int) 1 ((i + 1 : Nat) : Int) rfl rfl (by omega) (by omega) (by omega) _) ?_
        refine nr ?_; intro U h; simp only [z0, z1] at h; subst h
        refine s_val 7 rfl rfl (.int .i64 ((i + 1 : Nat) : Int)) (rfl) ?_
        refine nr ?_; intro U h; simp only [z0, z1] at h; subst h
        refine wpList_nil ?_
        refine then_n ?_
        exact ⟨l.length + 1 - (i + 1), by omega, i + 1, aoL, capL, lL, aoG, capG, lG, (fun kz => ([.int .i64 ((i : Nat) : Int), .slice ao l.length cap, .int .i64 ((l.length : Nat) : Int), .bool true, .int .i64 ((i : Nat) : Int), .int .i64 ((i + 1 : Nat) : Int), .slice ao l.length cap, .int .i64 ((i : Nat) : Int), .pointer (pK kH ao i 0), .pointer (pK kH ao i 0), .int .i64 (l.getD i zH).n, .pointer (some ⟨g1, 0, none⟩), .int .i64 x.n, .bool false, us1 14, us1 15, us1 16, us1 17, us1 18, us1 19, us1 20, .slice ao l.length cap, .int .i64 ((i : Nat) : Int), .pointer (pK kH ao i 0), .pointer (pK kH ao i 0), .int .i64 (l.getD i zH).n, .pointer (some ⟨g1, 0, none⟩), .int .i64 x.n, .bool false, us1 29, us1 30, us1 31, us1 32, us1 33, us1 34, us1 35] : List Value).getD kz undef), rfl, rfl, by omega, GG, hg, kg1, HOL, HOG, hap, by rw [hlL]; exact fil_no (q := fun y => decide (y.n < x.n)) hil hp, by rw [hlG]; exact fil_no (q := fun y => decide (x.n < y.n)) hil hq⟩
      · refine wp_region_exA (A := ?Ax3) 7 [(0, 29), (1, 30), (2, 31), (3, 32), (4, 33), (5, 34), (6, 35)] [.val (.slice ao l.length cap), .val (.int .i64 ((i : Nat) : Int)), .val (.pointer (pK kH ao i 0)), .val (.pointer (pK kH ao i 0)), .val (.int .i64 (l.getD i zH).n), .val (.pointer (some ⟨g1, 0, none⟩)), .val (.int .i64 x.n)] follows (by kernel_rfl) rfl ?hAx3 (opsA_cons ?o0x3 (opsA_cons ?o1x3 (opsA_cons ?o2x3 (opsA_cons ?o3x3 (opsA_cons ?o4x3 (opsA_cons ?o5x3 (opsA_cons ?o6x3 opsA_nil))))))) ?restx3
        case hAx3 =>
          intro ptrs
          simp only [full, foldSlots, filledE, postE, List.foldl_cons, List.foldl_nil, List.getD_cons_zero, List.getD_cons_succ, fill_val, List.set_cons_zero, List.set_cons_succ]
          exact rfl
        case o0x3 => exact fun _ _ _ _ => opE_move (v := .slice ao l.length cap) _ rfl rfl rfl
        case o1x3 => exact fun _ _ _ _ => opE_move (v := .int .i64 ((i : Nat) : Int)) _ rfl rfl rfl
        case o2x3 => exact fun _ _ hw _ => opE_value (v := .pointer (pK kH ao i 0)) rfl (run_ixK rD (HL.gro (GG.drew.trans hw)) _ _ rfl rfl i rfl (by omega))
        case o3x3 => exact fun _ _ hw _ => opE_value (v := .pointer (pK kH ao i 0)) rfl (run_fdK (HL.gro (GG.drew.trans hw)) 28 _ 0 0 (fdD_0 _) rfl i rfl (by omega))
        case o4x3 => exact fun _ _ hw _ => opE_value (v := .int .i64 (l.getD i zH).n) rfl (run_ldKHn (HL.gro (GG.drew.trans hw)) _ rfl i rfl (by omega))
        case o5x3 => exact fun _ _ _ _ => opE_value (v := .pointer (some ⟨g1, 0, none⟩)) rfl (run_fld 28 _ 0 rfl g1 0 rfl 0 (by kernel_rfl))
        case o6x3 => exact fun _ _ hw _ => opE_value (v := .int .i64 x.n) rfl (ldDn _ rfl g1 rfl (hw.has kg1))
        intro ptrs w3 GD hxE
        simp only [List.drop_succ_cons, List.drop_zero]
        replace kg1 := GD.has kg1
        replace HOL := HOL.gro ((Gro.refl _).drew.trans GD)
        replace HOG := HOG.gro ((Gro.refl _).drew.trans GD)
        replace GG := GG.drew.trans GD
        clear GD
        refine s_val 36 rfl rfl (.bool true) (run_gtrT 3 _ _ _ rfl (l.getD i zH).n x.n rfl rfl true hq _) ?_
        refine nr ?_; intro U h; simp only [z0, z1] at h; subst h
        refine wpList_nil ?_
        refine then_n ?_
        refine wp_cond_true rfl ?_
        refine wp_region_lit ?_
        refine s_val 37 rfl rfl (.slice aoG lG.length capG) (rfl) ?_
        refine nr ?_; intro U h; simp only [z0, z1] at h; subst h
        refine s_val 38 rfl rfl (.slice ao l.length cap) (rfl) ?_
        refine nr ?_; intro U h; simp only [z0, z1] at h; subst h
        refine s_val 39 rfl rfl (.int .i64 ((i : Nat) : Int)) (rfl) ?_
        refine nr ?_; intro U h; simp only [z0, z1] at h; subst h
        refine s_val 40 rfl rfl (.pointer (pK kH ao i 0)) (run_ixK rD (HL.gro GG) _ _ rfl rfl i rfl (by omega)) ?_
        refine nr ?_; intro U h; simp only [z0, z1] at h; subst h
        refine s_val 41 rfl rfl (.agg (hdA (l.getD i zH))) (run_ldKD (HL.gro GG) _ rfl i rfl (by omega)) ?_
        refine nr ?_; intro U h; simp only [z0, z1] at h; subst h
        refine s_bsl 42 rfl rfl 30 1 _ rfl [(0, .agg (hdA (l.getD i zH)))] rfl ([(l.getD i zH)].flatMap kH.E).toArray 28 (bsD (l.getD i zH) _) ?_
        intro w4 q1 G eq1 kq1
        have bq1 := size_base GG eq1
        replace kg1 := G.has kg1
        replace HOL := HOL.gro G
        replace HOG := HOG.gro G
        replace GG := GG.trans G
        clear G
        have HR1 : RK kH _ (some ⟨q1, 0, none⟩) 1 [(l.getD i zH)] := RK.blk kq1 (one_all (atH HL hil)) (Nat.le_refl _)
        clear eq1
        refine nr ?_; intro U h; simp only [z0, z1] at h; subst h
        have hap0 := hap
        refine s_appK rD (by decide) 43 rfl rfl _ _ rfl rfl HOG rfl HR1 (by rw [hlG]; simp only [List.length_cons, List.length_nil]; have := fil_len l i (fun y : Hd => decide (x.n < y.n)); omega) GG.size ?_
        intro ao3 cap3 w5 HO2z G2 KPz
        have hgn := box_notG HOL HOG hg
        replace hg := box_keptG hg (lt_of_heap kg1) KPz
        replace kg1 := G2.has kg1 hgn
        replace hap := apart_kept HOL hap KPz
        replace HOL := HOL.other G2 hap0
        replace GG := G2.gro GG (fun k hk => HOG.own.base k hk)
        clear G2 HOG hgn hap0 KPz
        have HOG := HO2z
        clear HO2z
        refine nr ?_; intro U h; simp only [z0, z1] at h; subst h
        refine s_val 6 rfl rfl (.slice ao3 (lG ++ [(l.getD i zH)]).length cap3) (rfl) ?_
        refine nr ?_; intro U h; simp only [z0, z1] at h; subst h
        refine wpList_nil ?_
        refine blk_n ?_
        refine then_n ?_
        refine wp_region_lit ?_
        refine s_val 12 rfl rfl (.int .i64 ((i : Nat) : Int)) (rfl) ?_
        refine nr ?_; intro U h; simp only [z0, z1] at h; subst h
        refine s_val 13 rfl rfl (.int .i64 ((i + 1 : Nat) : Int)) (run_addI 3 _ _ _ rfl ((i : Nat) : Int) 1 ((i + 1 : Nat) : Int) rfl rfl (by omega) (by omega) (by omega) _) ?_
        refine nr ?_; intro U h; simp only [z0, z1] at h; subst h
        refine s_val 7 rfl rfl (.int .i64 ((i + 1 : Nat) : Int)) (rfl) ?_
        refine nr ?_; intro U h; simp only [z0, z1] at h; subst h
        refine wpList_nil ?_
        refine then_n ?_
        exact ⟨l.length + 1 - (i + 1), by omega, i + 1, aoL, capL, lL, ao3, cap3, lG ++ [(l.getD i zH)], (fun kz => ([.int .i64 ((i : Nat) : Int), .slice ao l.length cap, .int .i64 ((l.length : Nat) : Int), .bool true, .int .i64 ((i : Nat) : Int), .int .i64 ((i + 1 : Nat) : Int), .slice ao l.length cap, .int .i64 ((i : Nat) : Int), .pointer (pK kH ao i 0), .pointer (pK kH ao i 0), .int .i64 (l.getD i zH).n, .pointer (some ⟨g1, 0, none⟩), .int .i64 x.n, .bool false, us1 14, us1 15, us1 16, us1 17, us1 18, us1 19, us1 20, .slice ao l.length cap, .int .i64 ((i : Nat) : Int), .pointer (pK kH ao i 0), .pointer (pK kH ao i 0), .int .i64 (l.getD i zH).n, .pointer (some ⟨g1, 0, none⟩), .int .i64 x.n, .bool true, .slice aoG lG.length capG, .slice ao l.length cap, .int .i64 ((i : Nat) : Int), .pointer (pK kH ao i 0), .agg (hdA (l.getD i zH)), .slice (some ⟨q1, 0, none⟩) 1 1, .slice ao3 (lG ++ [(l.getD i zH)]).length cap3] : List Value).getD kz undef), rfl, rfl, by omega, GG, hg, kg1, HOL, HOG, hap, by rw [hlL]; exact fil_no (q := fun y => decide (y.n < x.n)) hil hp, by rw [hlG]; exact fil_yes (q := fun y => decide (x.n < y.n)) hil hq⟩
    · refine wp_region_exA (A := ?Ax4) 7 [(0, 14), (1, 15), (2, 16), (3, 17), (4, 18), (5, 19), (6, 20)] [.val (.slice ao l.length cap), .val (.int .i64 ((i : Nat) : Int)), .val (.pointer (pK kH ao i 0)), .val (.pointer (pK kH ao i 0)), .val (.int .i64 (l.getD i zH).n), .val (.pointer (some ⟨g1, 0, none⟩)), .val (.int .i64 x.n)] follows (by kernel_rfl) rfl ?hAx4 (opsA_cons ?o0x4 (opsA_cons ?o1x4 (opsA_cons ?o2x4 (opsA_cons ?o3x4 (opsA_cons ?o4x4 (opsA_cons ?o5x4 (opsA_cons ?o6x4 opsA_nil))))))) ?restx4
      case hAx4 =>
        intro ptrs
        simp only [full, foldSlots, filledE, postE, List.foldl_cons, List.foldl_nil, List.getD_cons_zero, List.getD_cons_succ, fill_val, List.set_cons_zero, List.set_cons_succ]
        exact rfl
      case o0x4 => exact fun _ _ _ _ => opE_move (v := .slice ao l.length cap) _ rfl rfl rfl
      case o1x4 => exact fun _ _ _ _ => opE_move (v := .int .i64 ((i : Nat) : Int)) _ rfl rfl rfl
      case o2x4 => exact fun _ _ hw _ => opE_value (v := .pointer (pK kH ao i 0)) rfl (run_ixK rD (HL.gro (GG.drew.trans hw)) _ _ rfl rfl i rfl (by omega))
      case o3x4 => exact fun _ _ hw _ => opE_value (v := .pointer (pK kH ao i 0)) rfl (run_fdK (HL.gro (GG.drew.trans hw)) 28 _ 0 0 (fdD_0 _) rfl i rfl (by omega))
      case o4x4 => exact fun _ _ hw _ => opE_value (v := .int .i64 (l.getD i zH).n) rfl (run_ldKHn (HL.gro (GG.drew.trans hw)) _ rfl i rfl (by omega))
      case o5x4 => exact fun _ _ _ _ => opE_value (v := .pointer (some ⟨g1, 0, none⟩)) rfl (run_fld 28 _ 0 rfl g1 0 rfl 0 (by kernel_rfl))
      case o6x4 => exact fun _ _ hw _ => opE_value (v := .int .i64 x.n) rfl (ldDn _ rfl g1 rfl (hw.has kg1))
      intro ptrs w2 GD hxE
      simp only [List.drop_succ_cons, List.drop_zero]
      replace kg1 := GD.has kg1
      replace HOL := HOL.gro ((Gro.refl _).drew.trans GD)
      replace HOG := HOG.gro ((Gro.refl _).drew.trans GD)
      replace GG := GG.drew.trans GD
      clear GD
      refine s_val 21 rfl rfl (.bool true) (run_lssT 3 _ _ _ rfl (l.getD i zH).n x.n rfl rfl true hp _) ?_
      refine nr ?_; intro U h; simp only [z0, z1] at h; subst h
      refine wpList_nil ?_
      refine then_n ?_
      refine wp_cond_true rfl ?_
      refine wp_region_lit ?_
      refine s_val 22 rfl rfl (.slice aoL lL.length capL) (rfl) ?_
      refine nr ?_; intro U h; simp only [z0, z1] at h; subst h
      refine s_val 23 rfl rfl (.slice ao l.length cap) (rfl) ?_
      refine nr ?_; intro U h; simp only [z0, z1] at h; subst h
      refine s_val 24 rfl rfl (.int .i64 ((i : Nat) : Int)) (rfl) ?_
      refine nr ?_; intro U h; simp only [z0, z1] at h; subst h
      refine s_val 25 rfl rfl (.pointer (pK kH ao i 0)) (run_ixK rD (HL.gro GG) _ _ rfl rfl i rfl (by omega)) ?_
      refine nr ?_; intro U h; simp only [z0, z1] at h; subst h
      refine s_val 26 rfl rfl (.agg (hdA (l.getD i zH))) (run_ldKD (HL.gro GG) _ rfl i rfl (by omega)) ?_
      refine nr ?_; intro U h; simp only [z0, z1] at h; subst h
      refine s_bsl 27 rfl rfl 30 1 _ rfl [(0, .agg (hdA (l.getD i zH)))] rfl ([(l.getD i zH)].flatMap kH.E).toArray 28 (bsD (l.getD i zH) _) ?_
      intro w3 q1 G eq1 kq1
      have bq1 := size_base GG eq1
      replace kg1 := G.has kg1
      replace HOL := HOL.gro G
      replace HOG := HOG.gro G
      replace GG := GG.trans G
      clear G
      have HR1 : RK kH _ (some ⟨q1, 0, none⟩) 1 [(l.getD i zH)] := RK.blk kq1 (one_all (atH HL hil)) (Nat.le_refl _)
      clear eq1
      refine nr ?_; intro U h; simp only [z0, z1] at h; subst h
      have hap0 := hap
      refine s_appK rD (by decide) 28 rfl rfl _ _ rfl rfl HOL rfl HR1 (by rw [hlL]; simp only [List.length_cons, List.length_nil]; have := fil_len l i (fun y : Hd => decide (y.n < x.n)); omega) GG.size ?_
      intro ao2 cap2 w4 HO2z G2 KPz
      have hgn := box_notL HOL HOG hg
      replace hg := box_keptL hg (lt_of_heap kg1) KPz
      replace kg1 := G2.has kg1 hgn
      replace hap := apart_kept2 HOG hap KPz
      replace HOG := HOG.other G2 (apart_sym hap0)
      replace GG := G2.gro GG (fun k hk => HOL.own.base k hk)
      clear G2 HOL hgn hap0 KPz
      have HOL := HO2z
      clear HO2z
      refine nr ?_; intro U h; simp only [z0, z1] at h; subst h
      refine s_val 5 rfl rfl (.slice ao2 (lL ++ [(l.getD i zH)]).length cap2) (rfl) ?_
      refine nr ?_; intro U h; simp only [z0, z1] at h; subst h
      refine wpList_nil ?_
      refine blk_n ?_
      refine then_n ?_
      refine wp_region_lit ?_
      refine s_val 12 rfl rfl (.int .i64 ((i : Nat) : Int)) (rfl) ?_
      refine nr ?_; intro U h; simp only [z0, z1] at h; subst h
      refine s_val 13 rfl rfl (.int .i64 ((i + 1 : Nat) : Int)) (run_addI 3 _ _ _ rfl ((i : Nat) : Int) 1 ((i + 1 : Nat) : Int) rfl rfl (by omega) (by omega) (by omega) _) ?_
      refine nr ?_; intro U h; simp only [z0, z1] at h; subst h
      refine s_val 7 rfl rfl (.int .i64 ((i + 1 : Nat) : Int)) (rfl) ?_
      refine nr ?_; intro U h; simp only [z0, z1] at h; subst h
      refine wpList_nil ?_
      refine then_n ?_
      exact ⟨l.length + 1 - (i + 1), by omega, i + 1, ao2, cap2, lL ++ [(l.getD i zH)], aoG, capG, lG, (fun kz => ([.int .i64 ((i : Nat) : Int), .slice ao l.length cap, .int .i64 ((l.length : Nat) : Int), .bool true, .int .i64 ((i : Nat) : Int), .int .i64 ((i + 1 : Nat) : Int), .slice ao l.length cap, .int .i64 ((i : Nat) : Int), .pointer (pK kH ao i 0), .pointer (pK kH ao i 0), .int .i64 (l.getD i zH).n, .pointer (some ⟨g1, 0, none⟩), .int .i64 x.n, .bool true, .slice aoL lL.length capL, .slice ao l.length cap, .int .i64 ((i : Nat) : Int), .pointer (pK kH ao i 0), .agg (hdA (l.getD i zH)), .slice (some ⟨q1, 0, none⟩) 1 1, .slice ao2 (lL ++ [(l.getD i zH)]).length cap2, us1 21, us1 22, us1 23, us1 24, us1 25, us1 26, us1 27, us1 28, us1 29, us1 30, us1 31, us1 32, us1 33, us1 34, us1 35] : List Value).getD kz undef), rfl, rfl, by omega, GG, hg, kg1, HOL, HOG, hap, by rw [hlL]; exact fil_yes (q := fun y => decide (y.n < x.n)) hil hp, by rw [hlG]; exact fil_no (q := fun y => decide (x.n < y.n)) hil (decide_eq_false (by have := of_decide_eq_true hp; omega))⟩
set_option maxRecDepth 100000 in
set_option maxHeartbeats 4000000 in
theorem rforget_any (w : World) (ao : Option Addr) (cap : Nat) (l : List Hd) (HL : RK kH w ao cap l) (hl : l.length ≤ 4398046510976) (m : Int) : Calls Try.prog 16 #[.slice ao l.length cap, .int .i64 m] w (RowK kH 28 w (forH l m)) := by
  refine s_enter Try.func16 rfl Try.ntmps16 [.slice ao l.length cap, .int .i64 m] [.slice ao l.length cap, .int .i64 m, undef, undef, undef, undef, undef, undef, undef, undef, undef, undef, undef, undef, undef, undef, undef, undef, undef, undef, undef, undef, undef, undef, undef, undef, undef, undef] rfl ?_
  have GG := Gro.refl w
  refine wp_seq ?_
  refine wp_region_lit ?_
  refine s_val 4 rfl rfl (.slice none 0 0) (rfl) ?_
  refine nr ?_; intro U h; simp only [z0, z1] at h; subst h
  refine wpList_nil ?_
  refine then_n ?_
  refine wp_seq ?_
  refine wp_region_lit ?_
  refine s_val 5 rfl rfl (.slice none 0 0) (rfl) ?_
  refine nr ?_; intro U h; simp only [z0, z1] at h; subst h
  refine wpList_nil ?_
  refine then_n ?_
  refine wp_seq ?_
  refine wp_seq ?_
  refine wp_region_lit ?_
  refine s_val 6 rfl rfl (.int .i64 0) (rfl) ?_
  refine nr ?_; intro U h; simp only [z0, z1] at h; subst h
  refine wpList_nil ?_
  refine then_n ?_
  refine wp_block ?_
  refine wp_loopN (fun mz az wv => ∃ (i : Nat) (ao1 : Option Addr) (cap1 : Nat) (l2 : List Hd) (us1 : Nat → Value), mz = l.length + 1 - i ∧ az = ⟨[.slice ao l.length cap, .int .i64 m, undef, undef, .slice none 0 0, .slice ao1 l2.length cap1, .int .i64 ((i : Nat) : Int), us1 0, us1 1, us1 2, us1 3, us1 4, us1 5, us1 6, us1 7, us1 8, us1 9, us1 10, us1 11, us1 12, us1 13, us1 14, us1 15, us1 16, us1 17, us1 18, us1 19, undef].toArray, []⟩ ∧ i ≤ l.length ∧ Gro w wv ∧ OW kH 28 wv w.heap.size ao1 cap1 l2 ∧ (l2 = (l.take i).filter fun y => decide (y.n ≠ m))) ?_ _ ⟨0, none, 0, [], (fun kz => ([undef, undef, undef, undef, undef, undef, undef, undef, undef, undef, undef, undef, undef, undef, undef, undef, undef, undef, undef, undef] : List Value).getD kz undef), rfl, rfl, Nat.zero_le _, GG, OW.nil _ _, rfl⟩
  clear GG
  rintro mz az wv ⟨i, ao1, cap1, l2, us1, rfl, rfl, hi, GG, HO, hl2⟩
  refine wp_seq ?_
  refine wp_seq ?_
  refine wp_region_lit ?_
  refine s_val 7 rfl rfl (.int .i64 ((i : Nat) : Int)) (rfl) ?_
  refine nr ?_; intro U h; simp only [z0, z1] at h; subst h
  refine s_val 8 rfl rfl (.slice ao l.length cap) (rfl) ?_
  refine nr ?_; intro U h; simp only [z0, z1] at h; subst h
  refine s_val 9 rfl rfl (.int .i64 ((l.length : Nat) : Int)) (run_len Try.underlying30 _ rfl _ _ _ rfl _) ?_
  refine nr ?_; intro U h; simp only [z0, z1] at h; subst h
  cases hi1 : decide (((i : Nat) : Int) < ((l.length : Nat) : Int))
  · have hie : i = l.length := by have := of_decide_eq_false hi1; omega
    refine s_val 10 rfl rfl (.bool false) (run_lssT 3 _ _ _ rfl ((i : Nat) : Int) ((l.length : Nat) : Int) rfl rfl false hi1 _) ?_
    refine nr ?_; intro U h; simp only [z0, z1] at h; subst h
    refine wpList_nil ?_
    refine then_n ?_
    refine wp_cond_false rfl ?_
    refine wp_exit ?_
    refine then_x ?_
    refine then_x ?_
    refine blk_x ?_
    refine then_n ?_
    refine wp_seq ?_
    refine wp_region_lit ?_
    refine s_val 27 rfl rfl (.slice ao1 l2.length cap1) (rfl) ?_
    refine nr ?_; intro U h; simp only [z0, z1] at h; subst h
    refine s_val 4 rfl rfl (.slice ao1 l2.length cap1) (rfl) ?_
    refine nr ?_; intro U h; simp only [z0, z1] at h; subst h
    refine wpList_nil ?_
    refine then_n ?_
    refine wp_ret ?_
    refine bodyPost_ret (results_tmp Try.results16 _ _ _) rfl ?_
    have e1 : l2 = forH l m := by rw [hl2, hie, List.take_length]; rfl
    rw [e1] at HO
    exact ⟨ao1, cap1, by rw [e1]; rfl, GG, HO⟩
  · have hil : i < l.length := by have := of_decide_eq_true hi1; omega
    refine s_val 10 rfl rfl (.bool true) (run_lssT 3 _ _ _ rfl ((i : Nat) : Int) ((l.length : Nat) : Int) rfl rfl true hi1 _) ?_
    refine nr ?_; intro U h; simp only [z0, z1] at h; subst h
    refine wpList_nil ?_
    refine then_n ?_
    refine wp_cond_true rfl ?_
    refine wp_skip ?_
    refine then_n ?_
    refine wp_seq ?_
    refine wp_block ?_
    refine wp_seq ?_
    cases hp : decide ((l.getD i zH).n = m)
    · refine wp_region_lit ?_
      refine s_val 13 rfl rfl (.slice ao l.length cap) (rfl) ?_
      refine nr ?_; intro U h; simp only [z0, z1] at h; subst h
      refine s_val 14 rfl rfl (.int .i64 ((i : Nat) : Int)) (rfl) ?_
      refine nr ?_; intro U h; simp only [z0, z1] at h; subst h
      refine s_val 15 rfl rfl (.pointer (pK kH ao i 0)) (run_ixK rD (HL.gro GG) _ _ rfl rfl i rfl (by omega)) ?_
      refine nr ?_; intro U h; simp only [z0, z1] at h; subst h
      refine s_val 16 rfl rfl (.pointer (pK kH ao i 0)) (run_fdK (HL.gro GG) 28 _ 0 0 (fdD_0 _) rfl i rfl (by omega)) ?_
      refine nr ?_; intro U h; simp only [z0, z1] at h; subst h
      refine s_val 17 rfl rfl (.int .i64 (l.getD i zH).n) (run_ldKHn (HL.gro GG) _ rfl i rfl (by omega)) ?_
      refine nr ?_; intro U h; simp only [z0, z1] at h; subst h
      refine s_val 18 rfl rfl (.int .i64 m) (rfl) ?_
      refine nr ?_; intro U h; simp only [z0, z1] at h; subst h
      refine s_val 19 rfl rfl (.bool true) (run_neq_k 3 .i64 _ _ _ rfl Try.underlying3 (l.getD i zH).n m rfl rfl true hp _) ?_
      refine nr ?_; intro U h; simp only [z0, z1] at h; subst h
      refine wpList_nil ?_
      refine then_n ?_
      refine wp_cond_true rfl ?_
      refine wp_region_lit ?_
      refine s_val 20 rfl rfl (.slice ao1 l2.length cap1) (rfl) ?_
      refine nr ?_; intro U h; simp only [z0, z1] at h; subst h
      refine s_val 21 rfl rfl (.slice ao l.length cap) (rfl) ?_
      refine nr ?_; intro U h; simp only [z0, z1] at h; subst h
      refine s_val 22 rfl rfl (.int .i64 ((i : Nat) : Int)) (rfl) ?_
      refine nr ?_; intro U h; simp only [z0, z1] at h; subst h
      refine s_val 23 rfl rfl (.pointer (pK kH ao i 0)) (run_ixK rD (HL.gro GG) _ _ rfl rfl i rfl (by omega)) ?_
      refine nr ?_; intro U h; simp only [z0, z1] at h; subst h
      refine s_val 24 rfl rfl (.agg (hdA (l.getD i zH))) (run_ldKD (HL.gro GG) _ rfl i rfl (by omega)) ?_
      refine nr ?_; intro U h; simp only [z0, z1] at h; subst h
      refine s_bsl 25 rfl rfl 30 1 _ rfl [(0, .agg (hdA (l.getD i zH)))] rfl ([(l.getD i zH)].flatMap kH.E).toArray 28 (bsD (l.getD i zH) _) ?_
      intro w1 q1 G eq1 kq1
      have bq1 := size_base GG eq1
      replace HO := HO.gro G
      replace GG := GG.trans G
      clear G
      have HR1 : RK kH _ (some ⟨q1, 0, none⟩) 1 [(l.getD i zH)] := RK.blk kq1 (one_all (atH HL hil)) (Nat.le_refl _)
      clear eq1
      refine nr ?_; intro U h; simp only [z0, z1] at h; subst h
      refine s_appK rD (by decide) 26 rfl rfl _ _ rfl rfl HO rfl HR1 (by rw [hl2]; simp only [List.length_cons, List.length_nil]; have := fil_len l i fun y => decide (y.n ≠ m); omega) GG.size ?_
      intro ao2 cap2 w2 HO2z G2 _
      replace GG := G2.gro GG (fun k hk => HO.own.base k hk)
      clear G2 HO
      have HO := HO2z
      clear HO2z
      refine nr ?_; intro U h; simp only [z0, z1] at h; subst h
      refine s_val 5 rfl rfl (.slice ao2 (l2 ++ [(l.getD i zH)]).length cap2) (rfl) ?_
      refine nr ?_; intro U h; simp only [z0, z1] at h; subst h
      refine wpList_nil ?_
      refine blk_n ?_
      refine then_n ?_
      refine wp_region_lit ?_
      refine s_val 11 rfl rfl (.int .i64 ((i : Nat) : Int)) (rfl) ?_
      refine nr ?_; intro U h; simp only [z0, z1] at h; subst h
      refine s_val 12 rfl rfl (.int .i64 ((i + 1 : Nat) : Int)) (run_addI 3 _ _ _ rfl ((i : Nat) : Int) 1 ((i + 1 : Nat) : Int) rfl rfl (by omega) (by omega) (by omega) _) ?_
      refine nr ?_; intro U h; simp only [z0, z1] at h; subst h
      refine s_val 6 rfl rfl (.int .i64 ((i + 1 : Nat) : Int)) (rfl) ?_
      refine nr ?_; intro U h; simp only [z0, z1] at h; subst h
      refine wpList_nil ?_
      refine then_n ?_
      exact ⟨l.length + 1 - (i + 1), by omega, i + 1, ao2, cap2, l2 ++ [(l.getD i zH)], (fun kz => ([.int .i64 ((i : Nat) : Int), .slice ao l.length cap, .int .i64 ((l.length : Nat) : Int), .bool true, .int .i64 ((i : Nat) : Int), .int .i64 ((i + 1 : Nat) : Int), .slice ao l.length cap, .int .i64 ((i : Nat) : Int), .pointer (pK kH ao i 0), .pointer (pK kH ao i 0), .int .i64 (l.getD i zH).n, .int .i64 m, .bool true, .slice ao1 l2.length cap1, .slice ao l.length cap, .int .i64 ((i : Nat) : Int), .pointer (pK kH ao i 0), .agg (hdA (l.getD i zH)), .slice (some ⟨q1, 0, none⟩) 1 1, .slice ao2 (l2 ++ [(l.getD i zH)]).length cap2] : List Value).getD kz undef), rfl, rfl, by omega, GG, HO, by rw [hl2]; exact fil_yes (q := fun y => decide (y.n ≠ m)) hil (decide_eq_true (of_decide_eq_false hp))⟩
    · refine wp_region_lit ?_
      refine s_val 13 rfl rfl (.slice ao l.length cap) (rfl) ?_
      refine nr ?_; intro U h; simp only [z0, z1] at h; subst h
      refine s_val 14 rfl rfl (.int .i64 ((i : Nat) : Int)) (rfl) ?_
      refine nr ?_; intro U h; simp only [z0, z1] at h; subst h
      refine s_val 15 rfl rfl (.pointer (pK kH ao i 0)) (run_ixK rD (HL.gro GG) _ _ rfl rfl i rfl (by omega)) ?_
      refine nr ?_; intro U h; simp only [z0, z1] at h; subst h
      refine s_val 16 rfl rfl (.pointer (pK kH ao i 0)) (run_fdK (HL.gro GG) 28 _ 0 0 (fdD_0 _) rfl i rfl (by omega)) ?_
      refine nr ?_; intro U h; simp only [z0, z1] at h; subst h
      refine s_val 17 rfl rfl (.int .i64 (l.getD i zH).n) (run_ldKHn (HL.gro GG) _ rfl i rfl (by omega)) ?_
      refine nr ?_; intro U h; simp only [z0, z1] at h; subst h
      refine s_val 18 rfl rfl (.int .i64 m) (rfl) ?_
      refine nr ?_; intro U h; simp only [z0, z1] at h; subst h
      refine s_val 19 rfl rfl (.bool false) (run_neq_k 3 .i64 _ _ _ rfl Try.underlying3 (l.getD i zH).n m rfl rfl false hp _) ?_
      refine nr ?_; intro U h; simp only [z0, z1] at h; subst h
      refine wpList_nil ?_
      refine then_n ?_
      refine wp_cond_false rfl ?_
      refine wp_skip ?_
      refine blk_n ?_
      refine then_n ?_
      refine wp_region_lit ?_
      refine s_val 11 rfl rfl (.int .i64 ((i : Nat) : Int)) (rfl) ?_
      refine nr ?_; intro U h; simp only [z0, z1] at h; subst h
      refine s_val 12 rfl rfl (.int .i64 ((i + 1 : Nat) : Int)) (run_addI 3 _ _ _ rfl ((i : Nat) : Int) 1 ((i + 1 : Nat) : Int) rfl rfl (by omega) (by omega) (by omega) _) ?_
      refine nr ?_; intro U h; simp only [z0, z1] at h; subst h
      refine s_val 6 rfl rfl (.int .i64 ((i + 1 : Nat) : Int)) (rfl) ?_
      refine nr ?_; intro U h; simp only [z0, z1] at h; subst h
      refine wpList_nil ?_
      refine then_n ?_
      exact ⟨l.length + 1 - (i + 1), by omega, i + 1, ao1, cap1, l2, (fun kz => ([.int .i64 ((i : Nat) : Int), .slice ao l.length cap, .int .i64 ((l.length : Nat) : Int), .bool true, .int .i64 ((i : Nat) : Int), .int .i64 ((i + 1 : Nat) : Int), .slice ao l.length cap, .int .i64 ((i : Nat) : Int), .pointer (pK kH ao i 0), .pointer (pK kH ao i 0), .int .i64 (l.getD i zH).n, .int .i64 m, .bool false, us1 13, us1 14, us1 15, us1 16, us1 17, us1 18, us1 19] : List Value).getD kz undef), rfl, rfl, by omega, GG, HO, by rw [hl2]; exact fil_no (q := fun y => decide (y.n ≠ m)) hil (decide_eq_false (fun c => c (of_decide_eq_true hp)))⟩
end Go.Proofs.Ytljihaihhnamfaa
