/- Who is the root: both sides. -/
import Derived.Test.YtjahegiopigblaaHC1
import Derived.Test.YtjahegiopigblaaHI16
import Derived.Test.YtjahegiopigblaaHV1c
namespace Go.Proofs.Ytjahegiopigblaa
open Go.RowKit
theorem run_mkF2 {P : Program} {o : Oper} {A : Act} {w : World} (f : FuncId) (x y : Operand) (ho : o.op = .makeFunc (.func f) #[] #[x, y]) (v u : Value) (hx : A.eval x = v) (hy : A.eval y = u) : (execOp A.eval o).run P w = .ok (.value (.func (.func f) #[] #[v, u])) w := by
  unfold execOp
  simp only [ho, List.map_toArray, List.map_cons, List.map_nil, hx, hy]
  rfl
theorem getD_inC {l : List Nat} {j : Nat} (hj : j < l.length) : l.getD j 0 ∈ l := by
  rw [List.getD_eq_getElem?_getD, List.getElem?_eq_getElem hj]
  exact List.getElem_mem hj
/-- Whatever a closure answers of identities. -/
def CloA (F : FuncId) (cb : Array Value) (w : World) (p : Nat → Bool) : Prop := ∀ n, n < top → ∀ w', Gro w w' → Calls Try.prog F (#[.agg (idA n)] ++ cb) w' fun e w'' => e = .returned (.bool (p n)) ∧ Gro w' w''
theorem rtC_any (s : Nat) (l : List Nat) (k : Nat) : (!(l.any fun x => nearN k x s)) = rtC s l k := by
  unfold rtC
  rw [List.not_any_eq_all_not]
theorem any_lt {p : Nat → Bool} {l : List Nat} {i : Nat} (hi : i < l.length) (h : p (l.getD i 0) = true) : l.any p = true := by
  rw [List.any_eq_true]
  refine ⟨l[i], List.getElem_mem hi, ?_⟩
  rwa [List.getD_eq_getElem?_getD, List.getElem?_eq_getElem hi] at h
theorem any_no {p : Nat → Bool} {l : List Nat} (h : ∀ j, j < l.length → p (l.getD j 0) = false) : l.any p = false := by
  rw [List.any_eq_false]
  intro x hx
  obtain ⟨j, hj, rfl⟩ := List.mem_iff_getElem.1 hx
  have := h j hj
  rw [List.getD_eq_getElem?_getD, List.getElem?_eq_getElem hj, Option.getD_some] at this
  rw [this]
  decide
theorem neg_any {b : Bool} {r : Int} {p : Nat → Bool} {l : List Nat} (h : (r = -1 ∧ ∀ j, j < l.length → p (l.getD j 0) = false) ∨ (0 ≤ r ∧ ∃ i, i < l.length ∧ p (l.getD i 0) = true)) (hb : decide (0 ≤ r) = b) : l.any p = b := by
  subst hb
  rcases h with ⟨rfl, h⟩ | ⟨h0, i, hi, h⟩
  · rw [any_no h]
    rfl
  · rw [any_lt hi h, decide_eq_true h0]
set_option maxRecDepth 100000 in
set_option maxHeartbeats 4000000 in
theorem rootclo_any (x k s gk gs : Nat) (hx : x < top) (hk : k < top) (hs : s < top) (w : World) (kgk : w.heap[gk]? = some (.cells (idA k) 23 (0, 0))) (kgs : w.heap[gs]? = some (.cells (idA s) 23 (0, 0))) : Calls Try.prog 31 #[.agg (idA x), .pointer (some ⟨gk, 0, none⟩), .pointer (some ⟨gs, 0, none⟩)] w (fun e w' => e = .returned (.bool (nearN k x s)) ∧ Gro w w') := by
  refine s_enter Try.func31 rfl Try.ntmps31 [.agg (idA x), .pointer (some ⟨gk, 0, none⟩), .pointer (some ⟨gs, 0, none⟩)] [.agg (idA x), .pointer (some ⟨gk, 0, none⟩), .pointer (some ⟨gs, 0, none⟩), undef, undef, undef, undef, undef, undef] rfl ?_
  have GG := Gro.refl w
  refine wp_seq ?_
  refine wp_region_lit ?_
  refine s_box 3 rfl rfl 23 _ rfl _ rfl (idA x) rfl ?_
  intro w1 g1 G eg1 kg1
  have bg1 := size_base GG eg1
  replace kgk := G.has kgk
  replace kgs := G.has kgs
  replace GG := GG.trans G
  clear G
  clear eg1
  refine nr ?_; intro U h; simp only [z0, z1] at h; subst h
  refine s_val 4 rfl rfl (.bool false) (rfl) ?_
  refine nr ?_; intro U h; simp only [z0, z1] at h; subst h
  refine wpList_nil ?_
  refine then_n ?_
  refine wp_seq ?_
  refine wp_region_lit ?_
  refine s_val 5 rfl rfl (.agg (idA k)) (ldI0 _ rfl gk rfl (kgk)) ?_
  refine nr ?_; intro U h; simp only [z0, z1] at h; subst h
  refine s_val 6 rfl rfl (.agg (idA x)) (ldI0 _ rfl g1 rfl (kg1)) ?_
  refine nr ?_; intro U h; simp only [z0, z1] at h; subst h
  refine s_val 7 rfl rfl (.agg (idA s)) (ldI0 _ rfl gs rfl (kgs)) ?_
  refine nr ?_; intro U h; simp only [z0, z1] at h; subst h
  refine s_callv 8 rfl rfl _ 32 Try.call32 rfl rfl _ rfl [.agg (idA k), .agg (idA x), .agg (idA s)] rfl (nearer_any k x s hk hx hs _) ?_
  intro w2 G
  replace kgk := G.has kgk
  replace kgs := G.has kgs
  replace kg1 := G.has kg1
  replace GG := GG.trans G
  clear G
  refine nr ?_; intro U h; simp only [z0, z1] at h; subst h
  refine s_val 4 rfl rfl (.bool (nearN k x s)) (rfl) ?_
  refine nr ?_; intro U h; simp only [z0, z1] at h; subst h
  refine wpList_nil ?_
  refine then_n ?_
  refine wp_ret ?_
  refine bodyPost_ret (results_tmp Try.results31 _ _ _) rfl ?_
  exact ⟨rfl, GG⟩
set_option maxRecDepth 100000 in
set_option maxHeartbeats 4000000 in
theorem indexA (ao : Option Addr) (cap : Nat) (l : List Nat) (F : FuncId) (cb : Array Value) (p : Nat → Bool) (w : World) (HL : RK kI w ao cap l) (hll : l.length ≤ 1000000) (hen : ∀ args w, (callFunc F args).run Try.prog w = .ok (.enter F args) w) (hC : CloA F cb w p) : Calls Try.prog 46 #[.slice ao l.length cap, .func (.func F) #[] cb] w (fun e w' => ∃ r : Int, e = .returned (.int .i64 r) ∧ Gro w w' ∧ ((r = -1 ∧ ∀ j, j < l.length → p (l.getD j 0) = false) ∨ (0 ≤ r ∧ ∃ i, i < l.length ∧ p (l.getD i 0) = true))) := by
  refine s_enter Try.func46 rfl Try.ntmps46 [.slice ao l.length cap, .func (.func F) #[] cb] [.slice ao l.length cap, .func (.func F) #[] cb, undef, undef, undef, undef, undef, undef, undef, undef, undef, undef, undef, undef, undef, undef, undef, undef, undef] rfl ?_
  have GG := Gro.refl w
  refine wp_seq ?_
  refine wp_region_lit ?_
  refine s_val 4 rfl rfl (.int .i64 0) (rfl) ?_
  refine nr ?_; intro U h; simp only [z0, z1] at h; subst h
  refine wpList_nil ?_
  refine then_n ?_
  refine wp_seq ?_
  refine wp_seq ?_
  refine wp_region_lit ?_
  refine s_val 6 rfl rfl (.slice ao l.length cap) (rfl) ?_
  refine nr ?_; intro U h; simp only [z0, z1] at h; subst h
  refine s_val 7 rfl rfl (.int .i64 ((l.length : Nat) : Int)) (run_len Try.underlying24 _ rfl _ _ _ rfl _) ?_
  refine nr ?_; intro U h; simp only [z0, z1] at h; subst h
  refine s_val 8 rfl rfl (.int .i64 0) (rfl) ?_
  refine nr ?_; intro U h; simp only [z0, z1] at h; subst h
  refine wpList_nil ?_
  refine then_n ?_
  refine wp_block ?_
  refine wp_loopN (fun mz az wv => ∃ (i : Nat) (us1 : Nat → Value), mz = l.length - i ∧ az = ⟨[.slice ao l.length cap, .func (.func F) #[] cb, undef, undef, us1 0, us1 1, .slice ao l.length cap, .int .i64 ((l.length : Nat) : Int), .int .i64 ((i : Nat) : Int), us1 2, us1 3, us1 4, us1 5, us1 6, us1 7, us1 8, us1 9, us1 10, us1 11].toArray, []⟩ ∧ Gro w wv ∧ i ≤ l.length ∧ (∀ j, j < i → p (l.getD j 0) = false)) ?_ _ ⟨0, (fun kz => ([.int .i64 0, undef, undef, undef, undef, undef, undef, undef, undef, undef, undef, undef] : List Value).getD kz undef), rfl, rfl, GG, Nat.zero_le _, fun _ h => absurd h (Nat.not_lt_zero _)⟩
  clear GG
  rintro mz az wv ⟨i, us1, rfl, rfl, GG, hi, hN⟩
  refine wp_seq ?_
  cases t1 : decide (((i : Nat) : Int) < ((l.length : Nat) : Int))
  · have hil : i = l.length := by have := of_decide_eq_false t1; omega
    refine wp_region_lit ?_
    refine s_val 9 rfl rfl (.bool false) (run_lssT 3 _ _ _ rfl ((i : Nat) : Int) ((l.length : Nat) : Int) rfl rfl false t1 _) ?_
    refine nr ?_; intro U h; simp only [z0, z1] at h; subst h
    refine wpList_nil ?_
    refine then_n ?_
    refine wp_seq ?_
    refine wp_cond_false rfl ?_
    refine wp_exit ?_
    refine then_x ?_
    refine then_x ?_
    refine blk_x ?_
    refine then_n ?_
    refine wp_seq ?_
    refine wp_region_lit ?_
    refine s_val 4 rfl rfl (.int .i64 (-1)) (rfl) ?_
    refine nr ?_; intro U h; simp only [z0, z1] at h; subst h
    refine wpList_nil ?_
    refine then_n ?_
    refine wp_ret ?_
    refine bodyPost_ret (results_tmp Try.results46 _ _ _) rfl ?_
    exact ⟨-1, rfl, GG, .inl ⟨rfl, fun j hj => hN j (by omega)⟩⟩
  · have hlt : i < l.length := by have := of_decide_eq_true t1; omega
    refine wp_region_lit ?_
    refine s_val 9 rfl rfl (.bool true) (run_lssT 3 _ _ _ rfl ((i : Nat) : Int) ((l.length : Nat) : Int) rfl rfl true t1 _) ?_
    refine nr ?_; intro U h; simp only [z0, z1] at h; subst h
    refine wpList_nil ?_
    refine then_n ?_
    refine wp_seq ?_
    refine wp_cond_true rfl ?_
    refine wp_skip ?_
    refine then_n ?_
    refine wp_seq ?_
    refine wp_block ?_
    refine wp_seq ?_
    refine wp_region_lit ?_
    refine s_val 10 rfl rfl (.int .i64 ((i : Nat) : Int)) (rfl) ?_
    refine nr ?_; intro U h; simp only [z0, z1] at h; subst h
    refine s_val 5 rfl rfl (.int .i64 ((i : Nat) : Int)) (rfl) ?_
    refine nr ?_; intro U h; simp only [z0, z1] at h; subst h
    refine wpList_nil ?_
    refine then_n ?_
    refine wp_seq ?_
    cases t2 : p (l.getD i 0)
    · refine wp_region_lit ?_
      refine s_val 11 rfl rfl (.func (.func F) #[] cb) (rfl) ?_
      refine nr ?_; intro U h; simp only [z0, z1] at h; subst h
      refine s_val 12 rfl rfl (.slice ao l.length cap) (rfl) ?_
      refine nr ?_; intro U h; simp only [z0, z1] at h; subst h
      refine s_val 13 rfl rfl (.int .i64 ((i : Nat) : Int)) (rfl) ?_
      refine nr ?_; intro U h; simp only [z0, z1] at h; subst h
      refine s_val 14 rfl rfl (.pointer (pK kI ao i 0)) (run_ixK rIk ((HL.gro GG)) _ _ rfl rfl i rfl (by omega)) ?_
      refine nr ?_; intro U h; simp only [z0, z1] at h; subst h
      refine s_val 15 rfl rfl (.agg (idA (l.getD i 0))) (run_ldKI ((HL.gro GG)) _ rfl i rfl (by omega)) ?_
      refine nr ?_; intro U h; simp only [z0, z1] at h; subst h
      refine s_callF 16 rfl rfl _ F cb hen rfl _ rfl rfl _ rfl [.agg (idA (l.getD i 0))] rfl (Calls.bool (hC _ (atI HL hlt) _ GG) t2) ?_
      intro w1 G
      replace GG := GG.trans G
      clear G
      refine nr ?_; intro U h; simp only [z0, z1] at h; subst h
      refine wpList_nil ?_
      refine then_n ?_
      refine wp_cond_false rfl ?_
      refine wp_skip ?_
      refine blk_n ?_
      refine then_n ?_
      refine wp_region_lit ?_
      refine s_val 18 rfl rfl (.int .i64 ((i + 1 : Nat) : Int)) (run_addI 3 _ _ _ rfl ((i : Nat) : Int) 1 ((i + 1 : Nat) : Int) rfl rfl (by omega) (by omega) (by omega) _) ?_
      refine nr ?_; intro U h; simp only [z0, z1] at h; subst h
      refine s_val 8 rfl rfl (.int .i64 ((i + 1 : Nat) : Int)) (rfl) ?_
      refine nr ?_; intro U h; simp only [z0, z1] at h; subst h
      refine wpList_nil ?_
      refine then_n ?_
      exact ⟨_, by omega, i + 1, (fun kz => ([us1 0, .int .i64 ((i : Nat) : Int), .bool true, .int .i64 ((i : Nat) : Int), .func (.func F) #[] cb, .slice ao l.length cap, .int .i64 ((i : Nat) : Int), .pointer (pK kI ao i 0), .agg (idA (l.getD i 0)), .bool false, us1 10, .int .i64 ((i + 1 : Nat) : Int)] : List Value).getD kz undef), rfl, rfl, GG, by omega, fun j hj => by (rcases Nat.lt_or_ge j i with c | c; (exact hN j c); (rw [show j = i by omega]; exact t2))⟩
    · refine wp_region_lit ?_
      refine s_val 11 rfl rfl (.func (.func F) #[] cb) (rfl) ?_
      refine nr ?_; intro U h; simp only [z0, z1] at h; subst h
      refine s_val 12 rfl rfl (.slice ao l.length cap) (rfl) ?_
      refine nr ?_; intro U h; simp only [z0, z1] at h; subst h
      refine s_val 13 rfl rfl (.int .i64 ((i : Nat) : Int)) (rfl) ?_
      refine nr ?_; intro U h; simp only [z0, z1] at h; subst h
      refine s_val 14 rfl rfl (.pointer (pK kI ao i 0)) (run_ixK rIk ((HL.gro GG)) _ _ rfl rfl i rfl (by omega)) ?_
      refine nr ?_; intro U h; simp only [z0, z1] at h; subst h
      refine s_val 15 rfl rfl (.agg (idA (l.getD i 0))) (run_ldKI ((HL.gro GG)) _ rfl i rfl (by omega)) ?_
      refine nr ?_; intro U h; simp only [z0, z1] at h; subst h
      refine s_callF 16 rfl rfl _ F cb hen rfl _ rfl rfl _ rfl [.agg (idA (l.getD i 0))] rfl (Calls.bool (hC _ (atI HL hlt) _ GG) t2) ?_
      intro w1 G
      replace GG := GG.trans G
      clear G
      refine nr ?_; intro U h; simp only [z0, z1] at h; subst h
      refine wpList_nil ?_
      refine then_n ?_
      refine wp_cond_true rfl ?_
      refine wp_seq ?_
      refine wp_region_lit ?_
      refine s_val 17 rfl rfl (.int .i64 ((i : Nat) : Int)) (rfl) ?_
      refine nr ?_; intro U h; simp only [z0, z1] at h; subst h
      refine s_val 4 rfl rfl (.int .i64 ((i : Nat) : Int)) (rfl) ?_
      refine nr ?_; intro U h; simp only [z0, z1] at h; subst h
      refine wpList_nil ?_
      refine then_n ?_
      refine wp_ret ?_
      refine blk_r ?_
      refine then_r ?_
      refine then_r ?_
      refine blk_r ?_
      refine then_r ?_
      refine bodyPost_ret (results_tmp Try.results46 _ _ _) rfl ?_
      exact ⟨_, rfl, GG, .inr ⟨Int.natCast_nonneg _, i, hlt, t2⟩⟩
set_option maxRecDepth 100000 in
set_option maxHeartbeats 4000000 in
theorem containsA (ao : Option Addr) (cap : Nat) (l : List Nat) (F : FuncId) (cb : Array Value) (p : Nat → Bool) (w : World) (HL : RK kI w ao cap l) (hll : l.length ≤ 1000000) (hen : ∀ args w, (callFunc F args).run Try.prog w = .ok (.enter F args) w) (hC : CloA F cb w p) : Calls Try.prog 30 #[.slice ao l.length cap, .func (.func F) #[] cb] w (fun e w' => e = .returned (.bool (l.any p)) ∧ Gro w w') := by
  refine s_enter Try.func30 rfl Try.ntmps30 [.slice ao l.length cap, .func (.func F) #[] cb] [.slice ao l.length cap, .func (.func F) #[] cb, undef, undef, undef, undef, undef, undef, undef] rfl ?_
  have GG := Gro.refl w
  refine wp_seq ?_
  refine wp_region_lit ?_
  refine s_val 4 rfl rfl (.bool false) (rfl) ?_
  refine nr ?_; intro U h; simp only [z0, z1] at h; subst h
  refine wpList_nil ?_
  refine then_n ?_
  refine wp_seq ?_
  refine wp_region_lit ?_
  refine s_val 5 rfl rfl (.slice ao l.length cap) (rfl) ?_
  refine nr ?_; intro U h; simp only [z0, z1] at h; subst h
  refine s_val 6 rfl rfl (.func (.func F) #[] cb) (rfl) ?_
  refine nr ?_; intro U h; simp only [z0, z1] at h; subst h
  refine s_callx 7 rfl rfl _ 46 Try.call46 rfl rfl _ rfl [.slice ao l.length cap, .func (.func F) #[] cb] rfl (indexA ao cap l F cb p _ (HL.gro GG) hll hen (fun n hn w2 h2 => hC n hn w2 (GG.trans h2))) (by rintro _ _ ⟨_, he, _, _⟩; exact ⟨_, he⟩) ?_
  rintro v w1 ⟨r, he, G, hr⟩
  cases he
  replace GG := GG.trans G
  clear G
  refine nr ?_; intro U h; simp only [z0, z1] at h; subst h
  cases t3 : decide (0 ≤ r)
  · refine s_val 8 rfl rfl (.bool false) (run_geqT 3 _ _ _ rfl r 0 rfl rfl false t3 _) ?_
    refine nr ?_; intro U h; simp only [z0, z1] at h; subst h
    refine s_val 4 rfl rfl (.bool false) (rfl) ?_
    refine nr ?_; intro U h; simp only [z0, z1] at h; subst h
    refine wpList_nil ?_
    refine then_n ?_
    refine wp_ret ?_
    refine bodyPost_ret (results_tmp Try.results30 _ _ _) rfl ?_
    refine ⟨?_, GG⟩
    rw [neg_any hr t3]
    rfl
  · refine s_val 8 rfl rfl (.bool true) (run_geqT 3 _ _ _ rfl r 0 rfl rfl true t3 _) ?_
    refine nr ?_; intro U h; simp only [z0, z1] at h; subst h
    refine s_val 4 rfl rfl (.bool true) (rfl) ?_
    refine nr ?_; intro U h; simp only [z0, z1] at h; subst h
    refine wpList_nil ?_
    refine then_n ?_
    refine wp_ret ?_
    refine bodyPost_ret (results_tmp Try.results30 _ _ _) rfl ?_
    refine ⟨?_, GG⟩
    rw [neg_any hr t3]
    rfl
set_option maxRecDepth 100000 in
set_option maxHeartbeats 4000000 in
theorem root_any (s : Nat) (ao : Option Addr) (cap : Nat) (l : List Nat) (k : Nat) (w : World) (hs : s < top) (hk : k < top) (HL : RK kI w ao cap l) (hll : l.length ≤ 1000000) : Calls Try.prog 12 #[.agg (idA s), .slice ao l.length cap, .agg (idA k)] w (fun e w' => e = .returned (.bool (rtC s l k)) ∧ Gro w w') := by
  refine s_enter Try.func12 rfl Try.ntmps12 [.agg (idA s), .slice ao l.length cap, .agg (idA k)] [.agg (idA s), .slice ao l.length cap, .agg (idA k), undef, undef, undef, undef, undef, undef, undef, undef] rfl ?_
  have GG := Gro.refl w
  refine wp_seq ?_
  refine wp_region_lit ?_
  refine s_box 3 rfl rfl 23 _ rfl _ rfl (idA s) rfl ?_
  intro w1 g1 G eg1 kg1
  have bg1 := size_base GG eg1
  replace GG := GG.trans G
  clear G
  clear eg1
  refine nr ?_; intro U h; simp only [z0, z1] at h; subst h
  refine s_box 5 rfl rfl 23 _ rfl _ rfl (idA k) rfl ?_
  intro w2 g2 G eg2 kg2
  have bg2 := size_base GG eg2
  replace kg1 := G.has kg1
  replace GG := GG.trans G
  clear G
  clear eg2
  refine nr ?_; intro U h; simp only [z0, z1] at h; subst h
  refine s_val 6 rfl rfl (.bool false) (rfl) ?_
  refine nr ?_; intro U h; simp only [z0, z1] at h; subst h
  refine wpList_nil ?_
  refine then_n ?_
  refine wp_seq ?_
  refine wp_region_lit ?_
  refine s_val 7 rfl rfl (.slice ao l.length cap) (rfl) ?_
  refine nr ?_; intro U h; simp only [z0, z1] at h; subst h
  refine s_val 8 rfl rfl (.func (.func 31) #[] #[.pointer (some ⟨g2, 0, none⟩), .pointer (some ⟨g1, 0, none⟩)]) (run_mkF2 31 _ _ rfl _ _ rfl rfl) ?_
  refine nr ?_; intro U h; simp only [z0, z1] at h; subst h
  refine s_callv 9 rfl rfl _ 30 Try.call30 rfl rfl _ rfl [.slice ao l.length cap, .func (.func 31) #[] #[.pointer (some ⟨g2, 0, none⟩), .pointer (some ⟨g1, 0, none⟩)]] rfl (containsA ao cap l 31 _ (fun x => nearN k x s) _ (HL.gro GG) hll Try.call31 (fun n hn w2 h2 => rootclo_any n k s g2 g1 hn hk hs w2 (h2.has kg2) (h2.has kg1))) ?_
  intro w3 G
  replace kg1 := G.has kg1
  replace kg2 := G.has kg2
  replace GG := GG.trans G
  clear G
  refine nr ?_; intro U h; simp only [z0, z1] at h; subst h
  refine s_val 10 rfl rfl (.bool (!(l.any (fun x => nearN k x s)))) (run_nt _ _ rfl (l.any (fun x => nearN k x s)) rfl) ?_
  refine nr ?_; intro U h; simp only [z0, z1] at h; subst h
  refine s_val 6 rfl rfl (.bool (!(l.any (fun x => nearN k x s)))) (rfl) ?_
  refine nr ?_; intro U h; simp only [z0, z1] at h; subst h
  refine wpList_nil ?_
  refine then_n ?_
  refine wp_ret ?_
  refine bodyPost_ret (results_tmp Try.results12 _ _ _) rfl ?_
  refine ⟨?_, GG⟩
  rw [← rtC_any]
  rfl
set_option maxRecDepth 100000 in
set_option maxHeartbeats 4000000 in
theorem rroot_any (s : Nat) (ao : Option Addr) (cap : Nat) (l : List Nat) (k : Nat) (w : World) (hs : s < top) (hk : k < top) (HL : RK kI w ao cap l) (hll : l.length ≤ 1000000) : Calls Try.prog 13 #[.agg (idA s), .slice ao l.length cap, .agg (idA k)] w (fun e w' => e = .returned (.bool (rtC s l k)) ∧ Gro w w') := by
  refine s_enter Try.func13 rfl Try.ntmps13 [.agg (idA s), .slice ao l.length cap, .agg (idA k)] [.agg (idA s), .slice ao l.length cap, .agg (idA k), undef, undef, undef, undef, undef, undef, undef, undef, undef, undef, undef, undef, undef, undef, undef, undef, undef, undef] rfl ?_
  have GG := Gro.refl w
  refine wp_seq ?_
  refine wp_region_lit ?_
  refine s_box 3 rfl rfl 23 _ rfl _ rfl (idA s) rfl ?_
  intro w1 g1 G eg1 kg1
  have bg1 := size_base GG eg1
  replace GG := GG.trans G
  clear G
  clear eg1
  refine nr ?_; intro U h; simp only [z0, z1] at h; subst h
  refine s_box 5 rfl rfl 23 _ rfl _ rfl (idA k) rfl ?_
  intro w2 g2 G eg2 kg2
  have bg2 := size_base GG eg2
  replace kg1 := G.has kg1
  replace GG := GG.trans G
  clear G
  clear eg2
  refine nr ?_; intro U h; simp only [z0, z1] at h; subst h
  refine s_val 6 rfl rfl (.bool false) (rfl) ?_
  refine nr ?_; intro U h; simp only [z0, z1] at h; subst h
  refine wpList_nil ?_
  refine then_n ?_
  refine wp_seq ?_
  refine wp_seq ?_
  refine wp_region_lit ?_
  refine s_val 7 rfl rfl (.int .i64 0) (rfl) ?_
  refine nr ?_; intro U h; simp only [z0, z1] at h; subst h
  refine wpList_nil ?_
  refine then_n ?_
  refine wp_block ?_
  refine wp_loopN (fun mz az wv => ∃ (i : Nat) (us1 : Nat → Value), mz = l.length - i ∧ az = ⟨[.agg (idA s), .slice ao l.length cap, .agg (idA k), .pointer (some ⟨g1, 0, none⟩), undef, .pointer (some ⟨g2, 0, none⟩), us1 0, .int .i64 ((i : Nat) : Int), us1 1, us1 2, us1 3, us1 4, us1 5, us1 6, us1 7, us1 8, us1 9, us1 10, us1 11, us1 12, us1 13].toArray, []⟩ ∧ Gro w wv ∧ wv.heap[g1]? = some (.cells (idA s) 23 (0, 0)) ∧ wv.heap[g2]? = some (.cells (idA k) 23 (0, 0)) ∧ i ≤ l.length ∧ (∀ j, j < i → nearN k (l.getD j 0) s = false)) ?_ _ ⟨0, (fun kz => ([.bool false, undef, undef, undef, undef, undef, undef, undef, undef, undef, undef, undef, undef, undef] : List Value).getD kz undef), rfl, rfl, GG, kg1, kg2, Nat.zero_le _, fun _ h => absurd h (Nat.not_lt_zero _)⟩
  clear GG kg1 kg2
  rintro mz az wv ⟨i, us1, rfl, rfl, GG, kg1, kg2, hi, hN⟩
  refine wp_seq ?_
  refine wp_seq ?_
  cases t1 : decide (((i : Nat) : Int) < ((l.length : Nat) : Int))
  · have hil : i = l.length := by have := of_decide_eq_false t1; omega
    refine wp_region_lit ?_
    refine s_val 8 rfl rfl (.int .i64 ((i : Nat) : Int)) (rfl) ?_
    refine nr ?_; intro U h; simp only [z0, z1] at h; subst h
    refine s_val 9 rfl rfl (.slice ao l.length cap) (rfl) ?_
    refine nr ?_; intro U h; simp only [z0, z1] at h; subst h
    refine s_val 10 rfl rfl (.int .i64 ((l.length : Nat) : Int)) (run_len Try.underlying24 _ rfl _ _ _ rfl _) ?_
    refine nr ?_; intro U h; simp only [z0, z1] at h; subst h
    refine s_val 11 rfl rfl (.bool false) (run_lssT 3 _ _ _ rfl ((i : Nat) : Int) ((l.length : Nat) : Int) rfl rfl false t1 _) ?_
    refine nr ?_; intro U h; simp only [z0, z1] at h; subst h
    refine wpList_nil ?_
    refine then_n ?_
    refine wp_cond_false rfl ?_
    refine wp_exit ?_
    refine then_x ?_
    refine then_x ?_
    refine blk_x ?_
    refine then_n ?_
    refine wp_seq ?_
    refine wp_region_lit ?_
    refine s_val 6 rfl rfl (.bool true) (rfl) ?_
    refine nr ?_; intro U h; simp only [z0, z1] at h; subst h
    refine wpList_nil ?_
    refine then_n ?_
    refine wp_ret ?_
    refine bodyPost_ret (results_tmp Try.results13 _ _ _) rfl ?_
    have hr : rtC s l k = true := rtC_iff.2 fun x hx => by
      obtain ⟨j, hj, rfl⟩ := List.mem_iff_getElem.1 hx
      have := hN j (by omega)
      rwa [List.getD_eq_getElem?_getD, List.getElem?_eq_getElem hj] at this
    rw [hr]
    exact ⟨rfl, GG⟩
  · have hlt : i < l.length := by have := of_decide_eq_true t1; omega
    refine wp_region_lit ?_
    refine s_val 8 rfl rfl (.int .i64 ((i : Nat) : Int)) (rfl) ?_
    refine nr ?_; intro U h; simp only [z0, z1] at h; subst h
    refine s_val 9 rfl rfl (.slice ao l.length cap) (rfl) ?_
    refine nr ?_; intro U h; simp only [z0, z1] at h; subst h
    refine s_val 10 rfl rfl (.int .i64 ((l.length : Nat) : Int)) (run_len Try.underlying24 _ rfl _ _ _ rfl _) ?_
    refine nr ?_; intro U h; simp only [z0, z1] at h; subst h
    refine s_val 11 rfl rfl (.bool true) (run_lssT 3 _ _ _ rfl ((i : Nat) : Int) ((l.length : Nat) : Int) rfl rfl true t1 _) ?_
    refine nr ?_; intro U h; simp only [z0, z1] at h; subst h
    refine wpList_nil ?_
    refine then_n ?_
    refine wp_cond_true rfl ?_
    refine wp_skip ?_
    refine then_n ?_
    refine wp_seq ?_
    refine wp_block ?_
    refine wp_seq ?_
    cases t2 : nearN k (l.getD i 0) s
    · refine wp_region_exA (A := ?Ax1) 6 [(0, 14), (1, 15), (2, 16), (3, 17), (4, 18), (5, 19)] [.val (.agg (idA k)), .val (.slice ao l.length cap), .val (.int .i64 ((i : Nat) : Int)), .val (.pointer (pK kI ao i 0)), .val (.agg (idA (l.getD i 0))), .val (.agg (idA s))] follows (by kernel_rfl) rfl ?hAx1 (opsA_cons ?o0x1 (opsA_cons ?o1x1 (opsA_cons ?o2x1 (opsA_cons ?o3x1 (opsA_cons ?o4x1 (opsA_cons ?o5x1 opsA_nil)))))) ?restx1
      case hAx1 =>
        intro ptrs
        simp only [full, foldSlots, filledE, postE, List.foldl_cons, List.foldl_nil, List.getD_cons_zero, List.getD_cons_succ, fill_val, List.set_cons_zero, List.set_cons_succ]
        exact rfl
      case o0x1 => exact fun _ _ hw _ => opE_value (v := .agg (idA k)) rfl (ldI0 _ rfl g2 rfl (hw.has kg2))
      case o1x1 => exact fun _ _ _ _ => opE_move (v := .slice ao l.length cap) _ rfl rfl rfl
      case o2x1 => exact fun _ _ _ _ => opE_move (v := .int .i64 ((i : Nat) : Int)) _ rfl rfl rfl
      case o3x1 => exact fun _ _ hw _ => opE_value (v := .pointer (pK kI ao i 0)) rfl (run_ixK rIk (((HL.gro GG)).gro ((Gro.refl _).drew.trans hw)) _ _ rfl rfl i rfl (by omega))
      case o4x1 => exact fun _ _ hw _ => opE_value (v := .agg (idA (l.getD i 0))) rfl (run_ldKI (((HL.gro GG)).gro ((Gro.refl _).drew.trans hw)) _ rfl i rfl (by omega))
      case o5x1 => exact fun _ _ hw _ => opE_value (v := .agg (idA s)) rfl (ldI0 _ rfl g1 rfl (hw.has kg1))
      intro ptrs w3 GD hxE
      simp only [List.drop_succ_cons, List.drop_zero]
      replace kg1 := GD.has kg1
      replace kg2 := GD.has kg2
      replace GG := GG.drew.trans GD
      clear GD
      refine s_callv 20 rfl rfl _ 28 Try.call28 rfl rfl _ rfl [.agg (idA k), .agg (idA (l.getD i 0)), .agg (idA s)] rfl (Calls.boolW (refnearer_any k (l.getD i 0) s hk (atI HL hlt) hs _) t2) ?_
      intro w4 G
      replace kg1 := G.has kg1
      replace kg2 := G.has kg2
      replace GG := GG.trans G
      clear G
      refine nr ?_; intro U h; simp only [z0, z1] at h; subst h
      refine wpList_nil ?_
      refine then_n ?_
      refine wp_cond_false rfl ?_
      refine wp_skip ?_
      refine blk_n ?_
      refine then_n ?_
      refine wp_region_lit ?_
      refine s_val 12 rfl rfl (.int .i64 ((i : Nat) : Int)) (rfl) ?_
      refine nr ?_; intro U h; simp only [z0, z1] at h; subst h
      refine s_val 13 rfl rfl (.int .i64 ((i + 1 : Nat) : Int)) (run_addI 3 _ _ _ rfl ((i : Nat) : Int) 1 ((i + 1 : Nat) : Int) rfl rfl (by omega) (by omega) (by omega) _) ?_
      refine nr ?_; intro U h; simp only [z0, z1] at h; subst h
      refine s_val 7 rfl rfl (.int .i64 ((i + 1 : Nat) : Int)) (rfl) ?_
      refine nr ?_; intro U h; simp only [z0, z1] at h; subst h
      refine wpList_nil ?_
      refine then_n ?_
      exact ⟨_, by omega, i + 1, (fun kz => ([us1 0, .int .i64 ((i : Nat) : Int), .slice ao l.length cap, .int .i64 ((l.length : Nat) : Int), .bool true, .int .i64 ((i : Nat) : Int), .int .i64 ((i + 1 : Nat) : Int), .agg (idA k), .slice ao l.length cap, .int .i64 ((i : Nat) : Int), .pointer (pK kI ao i 0), .agg (idA (l.getD i 0)), .agg (idA s), .bool false] : List Value).getD kz undef), rfl, rfl, GG, kg1, kg2, by omega, fun j hj => by (rcases Nat.lt_or_ge j i with c | c; (exact hN j c); (rw [show j = i by omega]; exact t2))⟩
    · refine wp_region_exA (A := ?Ax2) 6 [(0, 14), (1, 15), (2, 16), (3, 17), (4, 18), (5, 19)] [.val (.agg (idA k)), .val (.slice ao l.length cap), .val (.int .i64 ((i : Nat) : Int)), .val (.pointer (pK kI ao i 0)), .val (.agg (idA (l.getD i 0))), .val (.agg (idA s))] follows (by kernel_rfl) rfl ?hAx2 (opsA_cons ?o0x2 (opsA_cons ?o1x2 (opsA_cons ?o2x2 (opsA_cons ?o3x2 (opsA_cons ?o4x2 (opsA_cons ?o5x2 opsA_nil)))))) ?restx2
      case hAx2 =>
        intro ptrs
        simp only [full, foldSlots, filledE, postE, List.foldl_cons, List.foldl_nil, List.getD_cons_zero, List.getD_cons_succ, fill_val, List.set_cons_zero, List.set_cons_succ]
        exact rfl
      case o0x2 => exact fun _ _ hw _ => opE_value (v := .agg (idA k)) rfl (ldI0 _ rfl g2 rfl (hw.has kg2))
      case o1x2 => exact fun _ _ _ _ => opE_move (v := .slice ao l.length cap) _ rfl rfl rfl
      case o2x2 => exact fun _ _ _ _ => opE_move (v := .int .i64 ((i : Nat) : Int)) _ rfl rfl rfl
      case o3x2 => exact fun _ _ hw _ => opE_value (v := .pointer (pK kI ao i 0)) rfl (run_ixK rIk (((HL.gro GG)).gro ((Gro.refl _).drew.trans hw)) _ _ rfl rfl i rfl (by omega))
      case o4x2 => exact fun _ _ hw _ => opE_value (v := .agg (idA (l.getD i 0))) rfl (run_ldKI (((HL.gro GG)).gro ((Gro.refl _).drew.trans hw)) _ rfl i rfl (by omega))
      case o5x2 => exact fun _ _ hw _ => opE_value (v := .agg (idA s)) rfl (ldI0 _ rfl g1 rfl (hw.has kg1))
      intro ptrs w3 GD hxE
      simp only [List.drop_succ_cons, List.drop_zero]
      replace kg1 := GD.has kg1
      replace kg2 := GD.has kg2
      replace GG := GG.drew.trans GD
      clear GD
      refine s_callv 20 rfl rfl _ 28 Try.call28 rfl rfl _ rfl [.agg (idA k), .agg (idA (l.getD i 0)), .agg (idA s)] rfl (Calls.boolW (refnearer_any k (l.getD i 0) s hk (atI HL hlt) hs _) t2) ?_
      intro w4 G
      replace kg1 := G.has kg1
      replace kg2 := G.has kg2
      replace GG := GG.trans G
      clear G
      refine nr ?_; intro U h; simp only [z0, z1] at h; subst h
      refine wpList_nil ?_
      refine then_n ?_
      refine wp_cond_true rfl ?_
      refine wp_seq ?_
      refine wp_region_lit ?_
      refine s_val 6 rfl rfl (.bool false) (rfl) ?_
      refine nr ?_; intro U h; simp only [z0, z1] at h; subst h
      refine wpList_nil ?_
      refine then_n ?_
      refine wp_ret ?_
      refine blk_r ?_
      refine then_r ?_
      refine then_r ?_
      refine blk_r ?_
      refine then_r ?_
      refine bodyPost_ret (results_tmp Try.results13 _ _ _) rfl ?_
      refine ⟨?_, GG⟩
      rw [rtC_no.2 ⟨_, getD_inC hlt, t2⟩]
      rfl
end Go.Proofs.Ytjahegiopigblaa
