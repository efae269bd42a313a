/- Stores into rows; the document's best; the examples. -/
import Derived.Test.YtljihaihhnamfaaA3
namespace Go.Proofs.Ytljihaihhnamfaa
open Go.RowKit

/-! ### Stores into rows -/
/-- Some of a list written over. -/
def spl {α : Type} (l : List α) (j : Nat) (vs : List α) : List α := l.take j ++ (vs ++ l.drop (j + vs.length))
theorem spl_get {α : Type} (l : List α) (j : Nat) (vs : List α) (h : j + vs.length ≤ l.length) (i : Nat) : (spl l j vs)[i]? = if i < j then l[i]? else if i < j + vs.length then vs[i - j]? else l[i]? := by
  unfold spl
  have h1 : (l.take j).length = j := by rw [List.length_take]; omega
  by_cases c1 : i < j
  · rw [if_pos c1, List.getElem?_append_left (by omega), List.getElem?_take, if_pos c1]
  · rw [if_neg c1, List.getElem?_append_right (by omega), h1]
    by_cases c2 : i < j + vs.length
    · rw [if_pos c2, List.getElem?_append_left (by omega)]
    · rw [if_neg c2, List.getElem?_append_right (by omega), List.getElem?_drop]
      congr 1
      omega
theorem spl_len {α : Type} (l : List α) (j : Nat) (vs : List α) (h : j + vs.length ≤ l.length) : (spl l j vs).length = l.length := by
  unfold spl
  simp only [List.length_append, List.length_take, List.length_drop]
  omega
theorem spl_all {α : Type} {p : α → Prop} {l : List α} {j : Nat} {vs : List α} (h : ∀ x ∈ l, p x) (k : ∀ x ∈ vs, p x) : ∀ x ∈ spl l j vs, p x := fun x hx => by
  unfold spl at hx
  rcases List.mem_append.1 hx with hx | hx
  · exact h x (List.mem_of_mem_take hx)
  rcases List.mem_append.1 hx with hx | hx
  · exact k x hx
  · exact h x (List.mem_of_mem_drop hx)
theorem spl_within {α : Type} (l : List α) (d m j : Nat) (vs : List α) (h : j + vs.length ≤ m) (hm : d + m ≤ l.length) : ((spl l (d + j) vs).drop d).take m = spl ((l.drop d).take m) j vs := by
  apply List.ext_getElem?
  intro i
  rw [spl_get _ _ _ (by rw [List.length_take, List.length_drop]; omega), List.getElem?_take, List.getElem?_drop, spl_get _ _ _ (by omega), List.getElem?_take, List.getElem?_drop]
  by_cases c0 : i < m
  · rw [if_pos c0, if_pos c0]
    by_cases c1 : i < j
    · rw [if_pos c1, if_pos (by omega)]
    · rw [if_neg c1, if_neg (by omega)]
      by_cases c2 : i < j + vs.length
      · rw [if_pos c2, if_pos (by omega)]
        congr 1
        omega
      · rw [if_neg c2, if_neg (by omega)]
  · rw [if_neg c0, if_neg c0, if_neg (by omega), if_neg (by omega)]
theorem spl_mid {α : Type} (a b c : List α) (q : Nat) (vs : List α) (h : q + vs.length ≤ b.length) : spl (a ++ (b ++ c)) (a.length + q) vs = a ++ (spl b q vs ++ c) := by
  unfold spl
  rw [List.take_append, List.take_of_length_le (by omega), Nat.add_sub_cancel_left, List.take_append_of_le_length (by omega), Nat.add_assoc, List.drop_append, List.drop_of_length_le (by omega), List.nil_append, Nat.add_sub_cancel_left, List.drop_append_of_le_length (by omega)]
  simp [List.append_assoc]
theorem OY.put {w : World} {e : TypeId} {sz B : Nat} {ao : Option Addr} {cap n : Nat} {cs : List Value} (h : OY w e sz B ao cap n cs) {j : Nat} (vs : List Value) (hj : j + vs.length ≤ n * sz) (h0 : 0 < vs.length) (hv : ∀ v ∈ vs, v.oneCell' = true) : ∃ g d cur, ao = some ⟨g, d, none⟩ ∧ B ≤ g ∧ w.heap[g]? = some (.cells cur e (0, 0)) ∧ d + j + vs.length ≤ cur.size ∧
    ∀ w', Stored w w' g (.cells (splice cur (d + j) vs.toArray) e (0, 0)) → OY w' e sz B ao cap n (spl cs j vs) := by
  rcases h.row with ⟨_, _, h3⟩ | ⟨g, d, cur, h1, h2, h3, h4, h5, h6, h7⟩
  · rw [h3, Nat.zero_mul] at hj
    omega
  have hm2 : n * sz ≤ cap * sz := Nat.mul_le_mul_right _ h4
  have e1 : (splice cur (d + j) vs.toArray).toList = spl cur.toList (d + j) vs := by simp [splice, spl, List.append_assoc]
  have hle : d + j + vs.length ≤ cur.size := by omega
  refine ⟨g, d, cur, h1, h2, h3, hle, fun w' St => ⟨by rw [spl_len _ _ _ (by rw [h.len]; exact hj)]; exact h.len, .inr ⟨g, d, _, h1, h2, St.new, h4, h5, ?_, ?_⟩, spl_all h.one hv⟩⟩
  · have : (splice cur (d + j) vs.toArray).size = cur.size := splice_size _ _ _ (by simpa using hle)
    omega
  · rw [e1, spl_within _ _ _ _ _ hj (by rw [Array.length_toList]; omega), h7]
section
variable {α : Type} {K : Kd α} {e : TypeId} {w w' : World} {ao : Option Addr} {cap B b g : Nat} {l : List α}
theorem set_flat (l : List α) (j q : Nat) (hj : j < l.length) (x : α) (vs : List Value) (hq : q + vs.length ≤ K.sz) (hx : K.E x = spl (K.E (l.getD j K.z)) q vs) : (l.set j x).flatMap K.E = spl (l.flatMap K.E) (j * K.sz + q) vs := by
  have hg : l.getD j K.z = l[j] := by simp [List.getD_eq_getElem?_getD, hj]
  rw [hg] at hx
  have h1 : l.flatMap K.E = (l.take j).flatMap K.E ++ (K.E l[j] ++ (l.drop (j + 1)).flatMap K.E) := by
    rw [← List.flatMap_cons, ← List.drop_eq_getElem_cons hj, ← List.flatMap_append, List.take_append_drop]
  have h2 : ((l.take j).flatMap K.E).length = j * K.sz := by rw [flx_len K.len, List.length_take, Nat.min_eq_left (by omega)]
  rw [h1, ← h2, spl_mid _ _ _ _ _ (by rw [K.len]; exact hq), ← hx, List.set_eq_take_append_cons_drop, if_pos hj, List.flatMap_append, List.flatMap_cons]
variable {P : Program} {ops : Array Oper} {rest : List Oper} {T : List Value} {ds : List Deferred} {Q : Exit → Act → World → Prop} {o : Oper}
/-- A part of an element is written. -/
theorem s_stK (hgd : o.guard = none) (hdst : o.dst = none) (ty : TypeId) (x y : Operand) (ho : o.op = .store ty x y) (h : OW K e w B ao cap l) (j q : Nat) (hj : j < l.length) (hx : (⟨T.toArray, ds⟩ : Act).eval x = .pointer (pK K ao j q)) (v : Value) (hy : (⟨T.toArray, ds⟩ : Act).eval y = v) (vs : List Value) (hc : v.cells = vs.toArray)
    (hi : (P.info? ty).map (·.size) = some vs.length) (h0 : 0 < vs.length) (hq : q + vs.length ≤ K.sz) (h1 : ∀ v ∈ vs, v.oneCell' = true) (u : α) (hu : K.E u = spl (K.E (l.getD j K.z)) q vs) (hok : K.ok u)
    (hh : ∀ w', OW K e w' B ao cap (l.set j u) → GroS (Go.Proofs.Ytljihaihhnamfaa.blk ao) w w' → wpList P ops Q rest ⟨T.toArray, ds⟩ w') : wpList P ops Q (o :: rest) ⟨T.toArray, ds⟩ w := by
  have hjq : j * K.sz + q + vs.length ≤ l.length * K.sz := by
    have := Nat.mul_le_mul_right K.sz (show j + 1 ≤ l.length from hj)
    rw [Nat.add_mul, Nat.one_mul] at this
    omega
  obtain ⟨g, d, cur, e1, hB, hg, hle, hput⟩ := h.own.put vs hjq h0 h1
  have e2 : pK K ao j q = some ⟨g, d + (j * K.sz + q), none⟩ := by
    unfold pK
    rw [e1, Option.map_some, add_at]
  rw [e2] at hx
  refine s_store hgd hdst ty x y ho g (d + (j * K.sz + q)) hx v hy e cur hg vs.toArray hc (by rw [hi]; rfl) (by simpa using hle) ?_ _ rfl fun w' St => hh w' ⟨?_, ?_⟩ ?_
  · rw [Array.all_eq_true_iff_forall_mem]
    exact fun v hv => h1 v (by simpa using hv)
  · have := hput w' St
    rwa [← set_flat l j q hj u vs hq hu, ← List.length_set (i := j) (a := u)] at this
  · intro z hz
    rcases List.mem_or_eq_of_mem_set hz with hz | rfl
    · exact h.all z hz
    · exact hok
  · refine ⟨St.os, St.tape, St.output, Nat.le_of_eq St.size.symm, fun k _ hk => St.old k fun hkg => hk ?_⟩
    rw [e1, hkg]
    exact mem_blk.2 ⟨_, rfl, rfl⟩
end
theorem spl_far (x : Hd) (f : Int) : hdL { x with far := f } = spl (hdL x) 17 [.int .i64 f] := by kernel_rfl
theorem spl_hd (x y : Hd) : hdL y = spl (hdL x) 0 (hdL y) := by
  unfold spl
  rw [List.take_zero, List.nil_append, hdL_len, Nat.zero_add, List.drop_of_length_le (by rw [hdL_len]; exact Nat.le_refl _), List.append_nil]
/-! ### The document's way to the best -/
def stpH (b y : Hd) : Hd := if ¬ hdLe b y then y else b
def chsH (b : Hd) (l : List Hd) : Hd := l.foldl stpH b
def upsH (l : List Hd) : List Hd := (l.filter fun y => decide (hdNear y)).map hdUp
theorem chs_ups (l : List Hd) : ∀ b, chsH b (upsH l) = l.foldl (fun b y => if hdNear y ∧ ¬ hdLe b (hdUp y) then hdUp y else b) b := by
  induction l with
  | nil => intro b; rfl
  | cons y l ih =>
    intro b
    rw [List.foldl_cons]
    by_cases h : hdNear y
    · have e : upsH (y :: l) = hdUp y :: upsH l := by unfold upsH; rw [List.filter_cons, if_pos (decide_eq_true h), List.map_cons]
      rw [e, chsH, List.foldl_cons, ← chsH, ih]
      unfold stpH
      by_cases k : ¬ hdLe b (hdUp y)
      · rw [if_pos k, if_pos ⟨h, k⟩]
      · rw [if_neg k, if_neg fun c => k c.2]
    · have e : upsH (y :: l) = upsH l := by unfold upsH; rw [List.filter_cons, if_neg (by rw [decide_eq_false h]; decide)]
      rw [e, if_neg fun c => h c.1, ih]
theorem stpH_self (x : Hd) : stpH x x = x := by unfold stpH; split <;> rfl
theorem chs_best (s : Nat) (l : List Hd) : chsH (hdOwn s) (hdOwn s :: upsH l) = bestH s l := by
  rw [chsH, List.foldl_cons, stpH_self, ← chsH, chs_ups]
  rfl
theorem chs_step {b : Hd} {M : List Hd} {i : Nat} (hi : i < M.length) : chsH b (M.take (i + 1)) = stpH (chsH b (M.take i)) (M.getD i zH) := by
  rw [take_at zH M i hi]
  unfold chsH
  rw [List.foldl_append]
  rfl
theorem chs_yes {b : Hd} {M : List Hd} {i : Nat} (hi : i < M.length) (h : ¬ hdLe (chsH b (M.take i)) (M.getD i zH)) : chsH b (M.take (i + 1)) = M.getD i zH := by rw [chs_step hi, stpH, if_pos h]
theorem chs_no {b : Hd} {M : List Hd} {i : Nat} (hi : i < M.length) (h : ¬ ¬ hdLe (chsH b (M.take i)) (M.getD i zH)) : chsH b (M.take (i + 1)) = chsH b (M.take i) := by rw [chs_step hi, stpH, if_neg h]
theorem chs_ok {M : List Hd} (h : ∀ x ∈ M, x.ok) : ∀ b : Hd, b.ok → (chsH b M).ok := by
  induction M with
  | nil => exact fun b hb => hb
  | cons y M ih =>
    intro b hb
    rw [chsH, List.foldl_cons, ← chsH]
    refine ih (fun x hx => h x (List.mem_cons_of_mem _ hx)) _ ?_
    unfold stpH
    split
    · exact h y List.mem_cons_self
    · exact hb
theorem ups_yes {l : List Hd} {i : Nat} (hi : i < l.length) (h : hdNear (l.getD i zH)) : upsH (l.take (i + 1)) = upsH (l.take i) ++ [hdUp (l.getD i zH)] := by
  unfold upsH
  rw [← fil_yes (q := fun y => decide (hdNear y)) hi (decide_eq_true h), List.map_append]
  rfl
theorem ups_no {l : List Hd} {i : Nat} (hi : i < l.length) (h : ¬ hdNear (l.getD i zH)) : upsH (l.take (i + 1)) = upsH (l.take i) := by
  unfold upsH
  rw [← fil_no (q := fun y => decide (hdNear y)) hi (decide_eq_false h)]
theorem ups_len (l : List Hd) (i : Nat) : (upsH (l.take i)).length ≤ l.length := by
  unfold upsH
  rw [List.length_map]
  exact fil_len l i _
theorem chs_0 {s : Nat} {M U : List Hd} (h : M = hdOwn s :: U) : M.getD 0 zH = chsH (hdOwn s) (M.take 1) := by
  subst h
  exact (stpH_self _).symm
theorem box_keptX {w : World} {g : Nat} {ao ao2 : Option Addr} (h : g ∉ Go.Proofs.Ytljihaihhnamfaa.blk ao) (hl : g < w.heap.size) (hK : Kept w.heap.size ao ao2) : g ∉ Go.Proofs.Ytljihaihhnamfaa.blk ao2 := fun hm => by
  rcases hK g hm with k | k
  · exact h k
  · omega
theorem new_not {w : World} {g q : Nat} {x : Obj} (k : w.heap[g]? = some x) (e : w.heap.size = q) : g ∉ Go.Proofs.Ytljihaihhnamfaa.blk (some ⟨q, 0, none⟩) := fun hm => by
  obtain ⟨ad, ha, hb⟩ := mem_blk.1 hm
  cases ha
  have := lt_of_heap k
  simp only at hb
  omega
set_option maxRecDepth 100000 in
set_option maxHeartbeats 4000000 in
theorem rbest_any (w : World) (s : Nat) (hs : s < top) (ao : Option Addr) (cap : Nat) (l : List Hd) (HL : RK kH w ao cap l) (hl : l.length ≤ 4398046510976) : Calls Try.prog 9 #[.agg (idA s), .slice ao l.length cap] w (fun e w' => e = .returned (.agg (hdA (bestH s l))) ∧ Gro w w') := by
  refine s_enter Try.func9 rfl Try.ntmps9 [.agg (idA s), .slice ao l.length cap] [.agg (idA s), .slice ao l.length cap, undef, undef, undef, undef, undef, undef, undef, undef, undef, undef, undef, undef, undef, undef, undef, undef, undef, undef, undef, undef, undef, undef, undef, undef, undef, undef, undef, undef, undef, undef, undef, undef, undef, undef, undef, undef, undef, undef, undef, undef, undef, undef, undef, undef, undef, undef, undef, undef, undef, undef, undef, undef, undef, undef, undef, undef, undef, undef, undef, undef, undef, undef, undef, undef, undef, undef, undef, undef, undef, undef] rfl ?_
  have GG := Gro.refl w
  refine wp_seq ?_
  refine wp_region_lit ?_
  refine s_box 2 rfl rfl 23 _ rfl _ rfl (idA s) rfl ?_
  intro w1 g1 G eg1 kg1
  have bg1 := size_base GG eg1
  replace GG := GG.trans G
  clear G
  clear eg1
  refine nr ?_; intro U h; simp only [z0, z1] at h; subst h
  refine s_alloc 4 rfl rfl 28 rfl _ zeroD (hdA zH) rfl ?_
  intro w2 g2 G eg2 kg2
  have bg2 := size_base GG eg2
  have dg1g2 := lt_new kg1 eg2
  replace kg1 := G.has kg1
  replace GG := GG.trans G
  clear G
  clear eg2
  refine nr ?_; intro U h; simp only [z0, z1] at h; subst h
  refine wpList_nil ?_
  refine then_n ?_
  refine wp_seq ?_
  refine wp_region_lit ?_
  refine s_val 9 rfl rfl (.agg (idA s)) (ldI0 _ rfl g1 rfl (kg1)) ?_
  refine nr ?_; intro U h; simp only [z0, z1] at h; subst h
  refine s_val 10 rfl rfl (.agg (hdA (mkH (-1) s 0))) (run_bd 28 _ rfl [(0, .int .i64 (-1)), (1, .agg (idA s))] rfl _ (bdD01 _ _ _)) ?_
  refine nr ?_; intro U h; simp only [z0, z1] at h; subst h
  refine s_bsl 11 rfl rfl 30 1 _ rfl [(0, .agg (hdA (mkH (-1) s 0)))] rfl ([(mkH (-1) s 0)].flatMap kH.E).toArray 28 (bsD (mkH (-1) s 0) _) ?_
  intro w3 q21 G eq21 kq21
  have bq21 := size_base GG eq21
  have dqg1 := new_not kg1 eq21
  have dqg2 := new_not kg2 eq21
  replace kg1 := G.has kg1
  replace kg2 := G.has kg2
  replace GG := GG.trans G
  clear G
  have HR21 : RK kH _ (some ⟨q21, 0, none⟩) 1 [(mkH (-1) s 0)] := RK.blk kq21 (one_all (hdOwn_ok hs)) (Nat.le_refl _)
  clear eq21
  refine nr ?_; intro U h; simp only [z0, z1] at h; subst h
  refine s_val 5 rfl rfl (.slice (some ⟨q21, 0, none⟩) 1 1) (rfl) ?_
  refine nr ?_; intro U h; simp only [z0, z1] at h; subst h
  refine wpList_nil ?_
  refine then_n ?_
  refine wp_seq ?_
  refine wp_seq ?_
  refine wp_region_lit ?_
  refine s_val 6 rfl rfl (.int .i64 0) (rfl) ?_
  refine nr ?_; intro U h; simp only [z0, z1] at h; subst h
  refine wpList_nil ?_
  refine then_n ?_
  refine wp_block ?_
  refine wp_loopN (fun mz az wv => ∃ (i : Nat) (ao1 : Option Addr) (cap1 : Nat) (l2 : List Hd) (us1 : Nat → Value), mz = l.length + 1 - i ∧ az = ⟨[.agg (idA s), .slice ao l.length cap, .pointer (some ⟨g1, 0, none⟩), undef, .pointer (some ⟨g2, 0, none⟩), .slice ao1 l2.length cap1, .int .i64 ((i : Nat) : Int), undef, undef, .agg (idA s), .agg (hdA (mkH (-1) s 0)), .slice (some ⟨q21, 0, none⟩) 1 1, us1 0, us1 1, us1 2, us1 3, us1 4, us1 5, us1 6, us1 7, us1 8, us1 9, us1 10, us1 11, us1 12, us1 13, us1 14, us1 15, us1 16, us1 17, us1 18, us1 19, us1 20, us1 21, us1 22, us1 23, us1 24, us1 25, us1 26, us1 27, us1 28, us1 29, us1 30, us1 31, us1 32, us1 33, us1 34, us1 35, us1 36, us1 37, us1 38, us1 39, undef, undef, undef, undef, undef, undef, undef, undef, undef, undef, undef, undef, undef, undef, undef, undef, undef, undef, undef, undef].toArray, []⟩ ∧ i ≤ l.length ∧ Gro w wv ∧ g2 ∉ Go.Proofs.Ytljihaihhnamfaa.blk ao1 ∧ wv.heap[g1]? = some (.cells (idA s) 23 (0, 0)) ∧ wv.heap[g2]? = some (.cells (hdA zH) 28 (0, 0)) ∧ OW kH 28 wv w.heap.size ao1 cap1 l2 ∧ l2 = hdOwn s :: upsH (l.take i)) ?_ _ ⟨0, (some ⟨q21, 0, none⟩), 1, [(mkH (-1) s 0)], (fun kz => ([undef, undef, undef, undef, undef, undef, undef, undef, undef, undef, undef, undef, undef, undef, undef, undef, undef, undef, undef, undef, undef, undef, undef, undef, undef, undef, undef, undef, undef, undef, undef, undef, undef, undef, undef, undef, undef, undef, undef, undef] : List Value).getD kz undef), rfl, rfl, Nat.zero_le _, GG, dqg2, kg1, kg2, OW.blk kq21 (one_all (hdOwn_ok hs)) bq21 (Nat.le_of_ble_eq_true rfl), rfl⟩
  clear GG kg1 kg2
  rintro mz az wv ⟨i, ao1, cap1, l2, us1, rfl, rfl, hi, GG, hg, kg1, kg2, HO, hl2⟩
  refine wp_seq ?_
  refine wp_seq ?_
  refine wp_region_lit ?_
  refine s_val 12 rfl rfl (.int .i64 ((i : Nat) : Int)) (rfl) ?_
  refine nr ?_; intro U h; simp only [z0, z1] at h; subst h
  refine s_val 13 rfl rfl (.slice ao l.length cap) (rfl) ?_
  refine nr ?_; intro U h; simp only [z0, z1] at h; subst h
  refine s_val 14 rfl rfl (.int .i64 ((l.length : Nat) : Int)) (run_len Try.underlying30 _ rfl _ _ _ rfl _) ?_
  refine nr ?_; intro U h; simp only [z0, z1] at h; subst h
  cases hi1 : decide (((i : Nat) : Int) < ((l.length : Nat) : Int))
  · have hie : i = l.length := by have := of_decide_eq_false hi1; omega
    refine s_val 15 rfl rfl (.bool false) (run_lssT 3 _ _ _ rfl ((i : Nat) : Int) ((l.length : Nat) : Int) rfl rfl false hi1 _) ?_
    refine nr ?_; intro U h; simp only [z0, z1] at h; subst h
    refine wpList_nil ?_
    refine then_n ?_
    refine wp_cond_false rfl ?_
    refine wp_exit ?_
    refine then_x ?_
    refine then_x ?_
    refine blk_x ?_
    refine then_n ?_
    refine wp_seq ?_
    have hpos : 0 < l2.length := by rw [hl2]; exact Nat.succ_pos _
    have hlb : l2.length ≤ l.length + 1 := by rw [hl2, List.length_cons]; have := ups_len l i; omega
    refine wp_region_lit ?_
    refine s_val 52 rfl rfl (.slice ao1 l2.length cap1) (rfl) ?_
    refine nr ?_; intro U h; simp only [z0, z1] at h; subst h
    refine s_val 53 rfl rfl (.pointer (pK kH ao1 0 0)) (run_ixK rD (HO.re) _ _ rfl rfl 0 rfl hpos) ?_
    refine nr ?_; intro U h; simp only [z0, z1] at h; subst h
    refine s_val 54 rfl rfl (.agg (hdA (l2.getD 0 zH))) (run_ldKD (HO.re) _ rfl 0 rfl hpos) ?_
    refine nr ?_; intro U h; simp only [z0, z1] at h; subst h
    refine s_alloc 7 rfl rfl 28 rfl _ zeroD (hdA zH) rfl ?_
    intro w4 g3 G eg3 kg3
    have bg3 := size_base GG eg3
    have dg1g3 := lt_new kg1 eg3
    have dg2g3 := lt_new kg2 eg3
    have dHOg3 := HO.ne eg3
    replace kg1 := G.has kg1
    replace kg2 := G.has kg2
    replace HO := HO.gro G
    replace GG := GG.trans G
    clear G
    clear eg3
    refine nr ?_; intro U h; simp only [z0, z1] at h; subst h
    refine s_store rfl rfl 28 _ _ rfl g3 0 rfl (.agg (hdA (l2.getD 0 zH))) rfl 28 _ kg3 (hdA (l2.getD 0 zH)) rfl (siD' _) (hdA_fit _ _) (hdA_one _) (hdA (l2.getD 0 zH)) (splice_whole _ _ (hdA_sz _ _)) ?_
    intro w5 St
    have kS := kg3
    replace kg1 := St.has (by omega) kg1
    replace kg2 := St.has (by omega) kg2
    replace HO := HO.st St dHOg3
    replace GG := GG.store St bg3
    replace kg3 := St.new
    clear St
    refine wpList_nil ?_
    refine then_n ?_
    refine wp_seq ?_
    refine wp_seq ?_
    refine wp_region_lit ?_
    refine s_val 8 rfl rfl (.int .i64 1) (rfl) ?_
    refine nr ?_; intro U h; simp only [z0, z1] at h; subst h
    refine wpList_nil ?_
    refine then_n ?_
    refine wp_block ?_
    refine wp_loopN (fun mz az wv => ∃ (j : Nat) (us2 : Nat → Value), mz = l2.length + 1 - j ∧ az = ⟨[.agg (idA s), .slice ao l.length cap, .pointer (some ⟨g1, 0, none⟩), undef, .pointer (some ⟨g2, 0, none⟩), .slice ao1 l2.length cap1, .int .i64 ((i : Nat) : Int), .pointer (some ⟨g3, 0, none⟩), .int .i64 ((j : Nat) : Int), .agg (idA s), .agg (hdA (mkH (-1) s 0)), .slice (some ⟨q21, 0, none⟩) 1 1, .int .i64 ((i : Nat) : Int), .slice ao l.length cap, .int .i64 ((l.length : Nat) : Int), .bool false, us1 4, us1 5, us1 6, us1 7, us1 8, us1 9, us1 10, us1 11, us1 12, us1 13, us1 14, us1 15, us1 16, us1 17, us1 18, us1 19, us1 20, us1 21, us1 22, us1 23, us1 24, us1 25, us1 26, us1 27, us1 28, us1 29, us1 30, us1 31, us1 32, us1 33, us1 34, us1 35, us1 36, us1 37, us1 38, us1 39, .slice ao1 l2.length cap1, .pointer (pK kH ao1 0 0), .agg (hdA (l2.getD 0 zH)), us2 0, us2 1, us2 2, us2 3, us2 4, us2 5, us2 6, us2 7, us2 8, us2 9, us2 10, us2 11, us2 12, us2 13, us2 14, us2 15, undef].toArray, []⟩ ∧ j ≤ l2.length ∧ Gro w wv ∧ wv.heap[g1]? = some (.cells (idA s) 23 (0, 0)) ∧ wv.heap[g2]? = some (.cells (hdA zH) 28 (0, 0)) ∧ wv.heap[g3]? = some (.cells (hdA (chsH (hdOwn s) (l2.take j))) 28 (0, 0)) ∧ OW kH 28 wv w.heap.size ao1 cap1 l2) ?_ _ ⟨1, (fun kz => ([undef, undef, undef, undef, undef, undef, undef, undef, undef, undef, undef, undef, undef, undef, undef, undef] : List Value).getD kz undef), rfl, rfl, hpos, GG, kg1, kg2, by rw [← chs_0 hl2]; exact kg3, HO⟩
    clear GG kg1 kg2 kg3 HO
    rintro mz az wv ⟨j, us2, rfl, rfl, hj, GG, kg1, kg2, kg3, HO⟩
    refine wp_seq ?_
    refine wp_seq ?_
    refine wp_region_lit ?_
    refine s_val 55 rfl rfl (.int .i64 ((j : Nat) : Int)) (rfl) ?_
    refine nr ?_; intro U h; simp only [z0, z1] at h; subst h
    refine s_val 56 rfl rfl (.slice ao1 l2.length cap1) (rfl) ?_
    refine nr ?_; intro U h; simp only [z0, z1] at h; subst h
    refine s_val 57 rfl rfl (.int .i64 ((l2.length : Nat) : Int)) (run_len Try.underlying30 _ rfl _ _ _ rfl _) ?_
    refine nr ?_; intro U h; simp only [z0, z1] at h; subst h
    cases hj1 : decide (((j : Nat) : Int) < ((l2.length : Nat) : Int))
    · have hje : j = l2.length := by have := of_decide_eq_false hj1; omega
      refine s_val 58 rfl rfl (.bool false) (run_lssT 3 _ _ _ rfl ((j : Nat) : Int) ((l2.length : Nat) : Int) rfl rfl false hj1 _) ?_
      refine nr ?_; intro U h; simp only [z0, z1] at h; subst h
      refine wpList_nil ?_
      refine then_n ?_
      refine wp_cond_false rfl ?_
      refine wp_exit ?_
      refine then_x ?_
      refine then_x ?_
      refine blk_x ?_
      refine then_n ?_
      refine wp_seq ?_
      clear HO
      refine wp_region_lit ?_
      refine s_val 71 rfl rfl (.agg (hdA (chsH (hdOwn s) (l2.take j)))) (ldD0 _ rfl g3 rfl (kg3)) ?_
      refine nr ?_; intro U h; simp only [z0, z1] at h; subst h
      refine s_store rfl rfl 28 _ _ rfl g2 0 rfl (.agg (hdA (chsH (hdOwn s) (l2.take j)))) rfl 28 _ kg2 (hdA (chsH (hdOwn s) (l2.take j))) rfl (siD' _) (hdA_fit _ _) (hdA_one _) (hdA (chsH (hdOwn s) (l2.take j))) (splice_whole _ _ (hdA_sz _ _)) ?_
      intro w6 St
      have kS := kg2
      replace kg1 := St.has (by omega) kg1
      replace kg3 := St.has (by omega) kg3
      replace GG := GG.store St bg2
      replace kg2 := St.new
      clear St
      refine wpList_nil ?_
      refine then_n ?_
      refine wp_ret ?_
      refine bodyPost_ret (results_cell_row Try.results9 _ _ g2 28 _ (0, 0) _ rfl kg2 Try.underlying28 rfl (siD' _)) rfl ?_
      exact ⟨by rw [hje, List.take_length, hl2, hie, List.take_length, chs_best], GG⟩
    · have hjl : j < l2.length := by have := of_decide_eq_true hj1; omega
      refine s_val 58 rfl rfl (.bool true) (run_lssT 3 _ _ _ rfl ((j : Nat) : Int) ((l2.length : Nat) : Int) rfl rfl true hj1 _) ?_
      refine nr ?_; intro U h; simp only [z0, z1] at h; subst h
      refine wpList_nil ?_
      refine then_n ?_
      refine wp_cond_true rfl ?_
      refine wp_skip ?_
      refine then_n ?_
      refine wp_seq ?_
      refine wp_block ?_
      refine wp_seq ?_
      cases hb : decide (¬ hdLe (chsH (hdOwn s) (l2.take j)) (l2.getD j zH))
      · refine wp_region_exA (A := ?Ax1) 5 [(0, 61), (1, 62), (2, 63), (3, 64), (4, 65)] [.val (.slice ao1 l2.length cap1), .val (.int .i64 ((j : Nat) : Int)), .val (.pointer (pK kH ao1 j 0)), .val (.agg (hdA (l2.getD j zH))), .val (.agg (hdA (chsH (hdOwn s) (l2.take j))))] follows (by kernel_rfl) rfl ?hAx1 (opsA_cons ?o0x1 (opsA_cons ?o1x1 (opsA_cons ?o2x1 (opsA_cons ?o3x1 (opsA_cons ?o4x1 opsA_nil))))) ?restx1
        case hAx1 =>
          intro ptrs
          simp only [full, foldSlots, filledE, postE, List.foldl_cons, List.foldl_nil, List.getD_cons_zero, List.getD_cons_succ, fill_val, List.set_cons_zero, List.set_cons_succ]
          exact rfl
        case o0x1 => exact fun _ _ _ _ => opE_move (v := .slice ao1 l2.length cap1) _ rfl rfl rfl
        case o1x1 => exact fun _ _ _ _ => opE_move (v := .int .i64 ((j : Nat) : Int)) _ rfl rfl rfl
        case o2x1 => exact fun _ _ hw _ => opE_value (v := .pointer (pK kH ao1 j 0)) rfl (run_ixK rD ((HO.gro ((Gro.refl _).drew.trans hw)).re) _ _ rfl rfl j rfl (by omega))
        case o3x1 => exact fun _ _ hw _ => opE_value (v := .agg (hdA (l2.getD j zH))) rfl (run_ldKD ((HO.gro ((Gro.refl _).drew.trans hw)).re) _ rfl j rfl (by omega))
        case o4x1 => exact fun _ _ hw _ => opE_value (v := .agg (hdA (chsH (hdOwn s) (l2.take j)))) rfl (ldD0 _ rfl g3 rfl (hw.has kg3))
        intro ptrs w6 GD hxE
        simp only [List.drop_succ_cons, List.drop_zero]
        replace kg1 := GD.has kg1
        replace kg2 := GD.has kg2
        replace kg3 := GD.has kg3
        replace HO := HO.gro ((Gro.refl _).drew.trans GD)
        replace GG := GG.drew.trans GD
        clear GD
        refine s_callv 66 rfl rfl _ 21 Try.call21 rfl rfl _ rfl [.agg (hdA (l2.getD j zH)), .agg (hdA (chsH (hdOwn s) (l2.take j)))] rfl (Calls.bool (ahead_any (l2.getD j zH) (chsH (hdOwn s) (l2.take j)) (atH HO.re hjl) (chs_ok (fun x hx => HO.all x (List.mem_of_mem_take hx)) _ (hdOwn_ok hs)) _) hb) ?_
        intro w7 G
        replace kg1 := G.has kg1
        replace kg2 := G.has kg2
        replace kg3 := G.has kg3
        replace HO := HO.gro G
        replace GG := GG.trans G
        clear G
        refine nr ?_; intro U h; simp only [z0, z1] at h; subst h
        refine wpList_nil ?_
        refine then_n ?_
        refine wp_cond_false rfl ?_
        refine wp_skip ?_
        refine blk_n ?_
        refine then_n ?_
        refine wp_region_lit ?_
        refine s_val 59 rfl rfl (.int .i64 ((j : Nat) : Int)) (rfl) ?_
        refine nr ?_; intro U h; simp only [z0, z1] at h; subst h
        refine s_val 60 rfl rfl (.int .i64 ((j + 1 : Nat) : Int)) (run_addI 3 _ _ _ rfl ((j : Nat) : Int) 1 ((j + 1 : Nat) : Int) rfl rfl (by omega) (by omega) (by omega) _) ?_
        refine nr ?_; intro U h; simp only [z0, z1] at h; subst h
        refine s_val 8 rfl rfl (.int .i64 ((j + 1 : Nat) : Int)) (rfl) ?_
        refine nr ?_; intro U h; simp only [z0, z1] at h; subst h
        refine wpList_nil ?_
        refine then_n ?_
        exact ⟨l2.length + 1 - (j + 1), by omega, j + 1, (fun kz => ([.int .i64 ((j : Nat) : Int), .slice ao1 l2.length cap1, .int .i64 ((l2.length : Nat) : Int), .bool true, .int .i64 ((j : Nat) : Int), .int .i64 ((j + 1 : Nat) : Int), .slice ao1 l2.length cap1, .int .i64 ((j : Nat) : Int), .pointer (pK kH ao1 j 0), .agg (hdA (l2.getD j zH)), .agg (hdA (chsH (hdOwn s) (l2.take j))), .bool false, us2 12, us2 13, us2 14, us2 15] : List Value).getD kz undef), rfl, rfl, by omega, GG, kg1, kg2, by rw [chs_no hjl (of_decide_eq_false hb)]; exact kg3, HO⟩
      · refine wp_region_exA (A := ?Ax2) 5 [(0, 61), (1, 62), (2, 63), (3, 64), (4, 65)] [.val (.slice ao1 l2.length cap1), .val (.int .i64 ((j : Nat) : Int)), .val (.pointer (pK kH ao1 j 0)), .val (.agg (hdA (l2.getD j zH))), .val (.agg (hdA (chsH (hdOwn s) (l2.take j))))] follows (by kernel_rfl) rfl ?hAx2 (opsA_cons ?o0x2 (opsA_cons ?o1x2 (opsA_cons ?o2x2 (opsA_cons ?o3x2 (opsA_cons ?o4x2 opsA_nil))))) ?restx2
        case hAx2 =>
          intro ptrs
          simp only [full, foldSlots, filledE, postE, List.foldl_cons, List.foldl_nil, List.getD_cons_zero, List.getD_cons_succ, fill_val, List.set_cons_zero, List.set_cons_succ]
          exact rfl
        case o0x2 => exact fun _ _ _ _ => opE_move (v := .slice ao1 l2.length cap1) _ rfl rfl rfl
        case o1x2 => exact fun _ _ _ _ => opE_move (v := .int .i64 ((j : Nat) : Int)) _ rfl rfl rfl
        case o2x2 => exact fun _ _ hw _ => opE_value (v := .pointer (pK kH ao1 j 0)) rfl (run_ixK rD ((HO.gro ((Gro.refl _).drew.trans hw)).re) _ _ rfl rfl j rfl (by omega))
        case o3x2 => exact fun _ _ hw _ => opE_value (v := .agg (hdA (l2.getD j zH))) rfl (run_ldKD ((HO.gro ((Gro.refl _).drew.trans hw)).re) _ rfl j rfl (by omega))
        case o4x2 => exact fun _ _ hw _ => opE_value (v := .agg (hdA (chsH (hdOwn s) (l2.take j)))) rfl (ldD0 _ rfl g3 rfl (hw.has kg3))
        intro ptrs w6 GD hxE
        simp only [List.drop_succ_cons, List.drop_zero]
        replace kg1 := GD.has kg1
        replace kg2 := GD.has kg2
        replace kg3 := GD.has kg3
        replace HO := HO.gro ((Gro.refl _).drew.trans GD)
        replace GG := GG.drew.trans GD
        clear GD
        refine s_callv 66 rfl rfl _ 21 Try.call21 rfl rfl _ rfl [.agg (hdA (l2.getD j zH)), .agg (hdA (chsH (hdOwn s) (l2.take j)))] rfl (Calls.bool (ahead_any (l2.getD j zH) (chsH (hdOwn s) (l2.take j)) (atH HO.re hjl) (chs_ok (fun x hx => HO.all x (List.mem_of_mem_take hx)) _ (hdOwn_ok hs)) _) hb) ?_
        intro w7 G
        replace kg1 := G.has kg1
        replace kg2 := G.has kg2
        replace kg3 := G.has kg3
        replace HO := HO.gro G
        replace GG := GG.trans G
        clear G
        refine nr ?_; intro U h; simp only [z0, z1] at h; subst h
        refine wpList_nil ?_
        refine then_n ?_
        refine wp_cond_true rfl ?_
        refine wp_region_lit ?_
        refine s_val 67 rfl rfl (.slice ao1 l2.length cap1) (rfl) ?_
        refine nr ?_; intro U h; simp only [z0, z1] at h; subst h
        refine s_val 68 rfl rfl (.int .i64 ((j : Nat) : Int)) (rfl) ?_
        refine nr ?_; intro U h; simp only [z0, z1] at h; subst h
        refine s_val 69 rfl rfl (.pointer (pK kH ao1 j 0)) (run_ixK rD (HO.re) _ _ rfl rfl j rfl (by omega)) ?_
        refine nr ?_; intro U h; simp only [z0, z1] at h; subst h
        refine s_val 70 rfl rfl (.agg (hdA (l2.getD j zH))) (run_ldKD (HO.re) _ rfl j rfl (by omega)) ?_
        refine nr ?_; intro U h; simp only [z0, z1] at h; subst h
        refine s_store rfl rfl 28 _ _ rfl g3 0 rfl (.agg (hdA (l2.getD j zH))) rfl 28 _ kg3 (hdA (l2.getD j zH)) rfl (siD' _) (hdA_fit _ _) (hdA_one _) (hdA (l2.getD j zH)) (splice_whole _ _ (hdA_sz _ _)) ?_
        intro w8 St
        have kS := kg3
        replace kg1 := St.has (by omega) kg1
        replace kg2 := St.has (by omega) kg2
        replace HO := HO.st St dHOg3
        replace GG := GG.store St bg3
        replace kg3 := St.new
        clear St
        refine wpList_nil ?_
        refine blk_n ?_
        refine then_n ?_
        refine wp_region_lit ?_
        refine s_val 59 rfl rfl (.int .i64 ((j : Nat) : Int)) (rfl) ?_
        refine nr ?_; intro U h; simp only [z0, z1] at h; subst h
        refine s_val 60 rfl rfl (.int .i64 ((j + 1 : Nat) : Int)) (run_addI 3 _ _ _ rfl ((j : Nat) : Int) 1 ((j + 1 : Nat) : Int) rfl rfl (by omega) (by omega) (by omega) _) ?_
        refine nr ?_; intro U h; simp only [z0, z1] at h; subst h
        refine s_val 8 rfl rfl (.int .i64 ((j + 1 : Nat) : Int)) (rfl) ?_
        refine nr ?_; intro U h; simp only [z0, z1] at h; subst h
        refine wpList_nil ?_
        refine then_n ?_
        exact ⟨l2.length + 1 - (j + 1), by omega, j + 1, (fun kz => ([.int .i64 ((j : Nat) : Int), .slice ao1 l2.length cap1, .int .i64 ((l2.length : Nat) : Int), .bool true, .int .i64 ((j : Nat) : Int), .int .i64 ((j + 1 : Nat) : Int), .slice ao1 l2.length cap1, .int .i64 ((j : Nat) : Int), .pointer (pK kH ao1 j 0), .agg (hdA (l2.getD j zH)), .agg (hdA (chsH (hdOwn s) (l2.take j))), .bool true, .slice ao1 l2.length cap1, .int .i64 ((j : Nat) : Int), .pointer (pK kH ao1 j 0), .agg (hdA (l2.getD j zH))] : List Value).getD kz undef), rfl, rfl, by omega, GG, kg1, kg2, by rw [chs_yes hjl (of_decide_eq_true hb)]; exact kg3, HO⟩
  · have hil : i < l.length := by have := of_decide_eq_true hi1; omega
    refine s_val 15 rfl rfl (.bool true) (run_lssT 3 _ _ _ rfl ((i : Nat) : Int) ((l.length : Nat) : Int) rfl rfl true hi1 _) ?_
    refine nr ?_; intro U h; simp only [z0, z1] at h; subst h
    refine wpList_nil ?_
    refine then_n ?_
    refine wp_cond_true rfl ?_
    refine wp_skip ?_
    refine then_n ?_
    refine wp_seq ?_
    refine wp_block ?_
    refine wp_seq ?_
    cases h1 : decide (0 ≤ (l.getD i zH).far)
    · cases h2 : decide ((l.getD i zH).far ≤ 5)
      · refine wp_region_opq ?_
        intro OPS hY
        have y6 := hY 6 24 rfl
        clear hY
        refine s_val 18 rfl rfl (.slice ao l.length cap) (rfl) ?_
        refine nr ?_; intro U h; simp only [z0, z1] at h; subst h
        refine s_val 19 rfl rfl (.int .i64 ((i : Nat) : Int)) (rfl) ?_
        refine nr ?_; intro U h; simp only [z0, z1] at h; subst h
        refine s_val 20 rfl rfl (.pointer (pK kH ao i 0)) (run_ixK rD (HL.gro GG) _ _ rfl rfl i rfl (by omega)) ?_
        refine nr ?_; intro U h; simp only [z0, z1] at h; subst h
        refine s_val 21 rfl rfl (.pointer (pK kH ao i 17)) (run_fdK (HL.gro GG) 28 _ 2 17 (fdD_2 _) rfl i rfl (by omega)) ?_
        refine nr ?_; intro U h; simp only [z0, z1] at h; subst h
        refine s_val 22 rfl rfl (.int .i64 (l.getD i zH).far) (run_ldKHf (HL.gro GG) _ rfl i rfl (by omega)) ?_
        refine nr ?_; intro U h; simp only [z0, z1] at h; subst h
        refine s_val 23 rfl rfl (.bool false) (run_geqT 2 _ _ _ rfl (l.getD i zH).far 0 rfl rfl false h1 _) ?_
        refine nr ?_; intro U h; simp only [z0, z1] at h; subst h
        refine s_val 24 rfl rfl (.bool false) (rfl) ?_
        refine nr ?_; intro U h; simp only [z0, z1] at h; subst h
        refine s_skipY 25 rfl rfl y6 rfl ?_
        refine nr ?_; intro U h; simp only [z0, z1] at h; subst h
        refine s_skipY 26 rfl rfl y6 rfl ?_
        refine nr ?_; intro U h; simp only [z0, z1] at h; subst h
        refine s_skipY 27 rfl rfl y6 rfl ?_
        refine nr ?_; intro U h; simp only [z0, z1] at h; subst h
        refine s_skipY 28 rfl rfl y6 rfl ?_
        refine nr ?_; intro U h; simp only [z0, z1] at h; subst h
        refine s_skipY 29 rfl rfl y6 rfl ?_
        refine nr ?_; intro U h; simp only [z0, z1] at h; subst h
        refine s_skipY 30 rfl rfl y6 rfl ?_
        refine nr ?_; intro U h; simp only [z0, z1] at h; subst h
        refine s_val 31 rfl rfl (.bool false) (rfl) ?_
        refine nr ?_; intro U h; simp only [z0, z1] at h; subst h
        refine wpList_nil ?_
        refine then_n ?_
        refine wp_cond_false rfl ?_
        refine wp_skip ?_
        refine blk_n ?_
        refine then_n ?_
        refine wp_region_lit ?_
        refine s_val 16 rfl rfl (.int .i64 ((i : Nat) : Int)) (rfl) ?_
        refine nr ?_; intro U h; simp only [z0, z1] at h; subst h
        refine s_val 17 rfl rfl (.int .i64 ((i + 1 : Nat) : Int)) (run_addI 3 _ _ _ rfl ((i : Nat) : Int) 1 ((i + 1 : Nat) : Int) rfl rfl (by omega) (by omega) (by omega) _) ?_
        refine nr ?_; intro U h; simp only [z0, z1] at h; subst h
        refine s_val 6 rfl rfl (.int .i64 ((i + 1 : Nat) : Int)) (rfl) ?_
        refine nr ?_; intro U h; simp only [z0, z1] at h; subst h
        refine wpList_nil ?_
        refine then_n ?_
        exact ⟨l.length + 1 - (i + 1), by omega, i + 1, ao1, cap1, l2, (fun kz => ([.int .i64 ((i : Nat) : Int), .slice ao l.length cap, .int .i64 ((l.length : Nat) : Int), .bool true, .int .i64 ((i : Nat) : Int), .int .i64 ((i + 1 : Nat) : Int), .slice ao l.length cap, .int .i64 ((i : Nat) : Int), .pointer (pK kH ao i 0), .pointer (pK kH ao i 17), .int .i64 (l.getD i zH).far, .bool false, .bool false, undef, undef, undef, undef, undef, undef, .bool false, us1 20, us1 21, us1 22, us1 23, us1 24, us1 25, us1 26, us1 27, us1 28, us1 29, us1 30, us1 31, us1 32, us1 33, us1 34, us1 35, us1 36, us1 37, us1 38, us1 39] : List Value).getD kz undef), rfl, rfl, by omega, GG, hg, kg1, kg2, HO, by rw [hl2, ups_no hil (fun c => (of_decide_eq_false h1) c.1)]⟩
      · refine wp_region_opq ?_
        intro OPS hY
        have y6 := hY 6 24 rfl
        clear hY
        refine s_val 18 rfl rfl (.slice ao l.length cap) (rfl) ?_
        refine nr ?_; intro U h; simp only [z0, z1] at h; subst h
        refine s_val 19 rfl rfl (.int .i64 ((i : Nat) : Int)) (rfl) ?_
        refine nr ?_; intro U h; simp only [z0, z1] at h; subst h
        refine s_val 20 rfl rfl (.pointer (pK kH ao i 0)) (run_ixK rD (HL.gro GG) _ _ rfl rfl i rfl (by omega)) ?_
        refine nr ?_; intro U h; simp only [z0, z1] at h; subst h
        refine s_val 21 rfl rfl (.pointer (pK kH ao i 17)) (run_fdK (HL.gro GG) 28 _ 2 17 (fdD_2 _) rfl i rfl (by omega)) ?_
        refine nr ?_; intro U h; simp only [z0, z1] at h; subst h
        refine s_val 22 rfl rfl (.int .i64 (l.getD i zH).far) (run_ldKHf (HL.gro GG) _ rfl i rfl (by omega)) ?_
        refine nr ?_; intro U h; simp only [z0, z1] at h; subst h
        refine s_val 23 rfl rfl (.bool false) (run_geqT 2 _ _ _ rfl (l.getD i zH).far 0 rfl rfl false h1 _) ?_
        refine nr ?_; intro U h; simp only [z0, z1] at h; subst h
        refine s_val 24 rfl rfl (.bool false) (rfl) ?_
        refine nr ?_; intro U h; simp only [z0, z1] at h; subst h
        refine s_skipY 25 rfl rfl y6 rfl ?_
        refine nr ?_; intro U h; simp only [z0, z1] at h; subst h
        refine s_skipY 26 rfl rfl y6 rfl ?_
        refine nr ?_; intro U h; simp only [z0, z1] at h; subst h
        refine s_skipY 27 rfl rfl y6 rfl ?_
        refine nr ?_; intro U h; simp only [z0, z1] at h; subst h
        refine s_skipY 28 rfl rfl y6 rfl ?_
        refine nr ?_; intro U h; simp only [z0, z1] at h; subst h
        refine s_skipY 29 rfl rfl y6 rfl ?_
        refine nr ?_; intro U h; simp only [z0, z1] at h; subst h
        refine s_skipY 30 rfl rfl y6 rfl ?_
        refine nr ?_; intro U h; simp only [z0, z1] at h; subst h
        refine s_val 31 rfl rfl (.bool false) (rfl) ?_
        refine nr ?_; intro U h; simp only [z0, z1] at h; subst h
        refine wpList_nil ?_
        refine then_n ?_
        refine wp_cond_false rfl ?_
        refine wp_skip ?_
        refine blk_n ?_
        refine then_n ?_
        refine wp_region_lit ?_
        refine s_val 16 rfl rfl (.int .i64 ((i : Nat) : Int)) (rfl) ?_
        refine nr ?_; intro U h; simp only [z0, z1] at h; subst h
        refine s_val 17 rfl rfl (.int .i64 ((i + 1 : Nat) : Int)) (run_addI 3 _ _ _ rfl ((i : Nat) : Int) 1 ((i + 1 : Nat) : Int) rfl rfl (by omega) (by omega) (by omega) _) ?_
        refine nr ?_; intro U h; simp only [z0, z1] at h; subst h
        refine s_val 6 rfl rfl (.int .i64 ((i + 1 : Nat) : Int)) (rfl) ?_
        refine nr ?_; intro U h; simp only [z0, z1] at h; subst h
        refine wpList_nil ?_
        refine then_n ?_
        exact ⟨l.length + 1 - (i + 1), by omega, i + 1, ao1, cap1, l2, (fun kz => ([.int .i64 ((i : Nat) : Int), .slice ao l.length cap, .int .i64 ((l.length : Nat) : Int), .bool true, .int .i64 ((i : Nat) : Int), .int .i64 ((i + 1 : Nat) : Int), .slice ao l.length cap, .int .i64 ((i : Nat) : Int), .pointer (pK kH ao i 0), .pointer (pK kH ao i 17), .int .i64 (l.getD i zH).far, .bool false, .bool false, undef, undef, undef, undef, undef, undef, .bool false, us1 20, us1 21, us1 22, us1 23, us1 24, us1 25, us1 26, us1 27, us1 28, us1 29, us1 30, us1 31, us1 32, us1 33, us1 34, us1 35, us1 36, us1 37, us1 38, us1 39] : List Value).getD kz undef), rfl, rfl, by omega, GG, hg, kg1, kg2, HO, by rw [hl2, ups_no hil (fun c => (of_decide_eq_false h1) c.1)]⟩
    · cases h2 : decide ((l.getD i zH).far ≤ 5)
      · refine wp_region_opq ?_
        intro OPS hY
        have y6 := hY 6 24 rfl
        clear hY
        refine s_val 18 rfl rfl (.slice ao l.length cap) (rfl) ?_
        refine nr ?_; intro U h; simp only [z0, z1] at h; subst h
        refine s_val 19 rfl rfl (.int .i64 ((i : Nat) : Int)) (rfl) ?_
        refine nr ?_; intro U h; simp only [z0, z1] at h; subst h
        refine s_val 20 rfl rfl (.pointer (pK kH ao i 0)) (run_ixK rD (HL.gro GG) _ _ rfl rfl i rfl (by omega)) ?_
        refine nr ?_; intro U h; simp only [z0, z1] at h; subst h
        refine s_val 21 rfl rfl (.pointer (pK kH ao i 17)) (run_fdK (HL.gro GG) 28 _ 2 17 (fdD_2 _) rfl i rfl (by omega)) ?_
        refine nr ?_; intro U h; simp only [z0, z1] at h; subst h
        refine s_val 22 rfl rfl (.int .i64 (l.getD i zH).far) (run_ldKHf (HL.gro GG) _ rfl i rfl (by omega)) ?_
        refine nr ?_; intro U h; simp only [z0, z1] at h; subst h
        refine s_val 23 rfl rfl (.bool true) (run_geqT 2 _ _ _ rfl (l.getD i zH).far 0 rfl rfl true h1 _) ?_
        refine nr ?_; intro U h; simp only [z0, z1] at h; subst h
        refine s_val 24 rfl rfl (.bool true) (rfl) ?_
        refine nr ?_; intro U h; simp only [z0, z1] at h; subst h
        refine s_gvalY 25 rfl rfl y6 rfl (.slice ao l.length cap) (rfl) ?_
        refine nr ?_; intro U h; simp only [z0, z1] at h; subst h
        refine s_gvalY 26 rfl rfl y6 rfl (.int .i64 ((i : Nat) : Int)) (rfl) ?_
        refine nr ?_; intro U h; simp only [z0, z1] at h; subst h
        refine s_gvalY 27 rfl rfl y6 rfl (.pointer (pK kH ao i 0)) (run_ixK rD (HL.gro GG) _ _ rfl rfl i rfl (by omega)) ?_
        refine nr ?_; intro U h; simp only [z0, z1] at h; subst h
        refine s_gvalY 28 rfl rfl y6 rfl (.pointer (pK kH ao i 17)) (run_fdK (HL.gro GG) 28 _ 2 17 (fdD_2 _) rfl i rfl (by omega)) ?_
        refine nr ?_; intro U h; simp only [z0, z1] at h; subst h
        refine s_gvalY 29 rfl rfl y6 rfl (.int .i64 (l.getD i zH).far) (run_ldKHf (HL.gro GG) _ rfl i rfl (by omega)) ?_
        refine nr ?_; intro U h; simp only [z0, z1] at h; subst h
        refine s_gvalY 30 rfl rfl y6 rfl (.bool false) (run_leqT 2 _ _ _ rfl (l.getD i zH).far 5 rfl rfl false h2 _) ?_
        refine nr ?_; intro U h; simp only [z0, z1] at h; subst h
        refine s_val 31 rfl rfl (.bool false) (rfl) ?_
        refine nr ?_; intro U h; simp only [z0, z1] at h; subst h
        refine wpList_nil ?_
        refine then_n ?_
        refine wp_cond_false rfl ?_
        refine wp_skip ?_
        refine blk_n ?_
        refine then_n ?_
        refine wp_region_lit ?_
        refine s_val 16 rfl rfl (.int .i64 ((i : Nat) : Int)) (rfl) ?_
        refine nr ?_; intro U h; simp only [z0, z1] at h; subst h
        refine s_val 17 rfl rfl (.int .i64 ((i + 1 : Nat) : Int)) (run_addI 3 _ _ _ rfl ((i : Nat) : Int) 1 ((i + 1 : Nat) : Int) rfl rfl (by omega) (by omega) (by omega) _) ?_
        refine nr ?_; intro U h; simp only [z0, z1] at h; subst h
        refine s_val 6 rfl rfl (.int .i64 ((i + 1 : Nat) : Int)) (rfl) ?_
        refine nr ?_; intro U h; simp only [z0, z1] at h; subst h
        refine wpList_nil ?_
        refine then_n ?_
        exact ⟨l.length + 1 - (i + 1), by omega, i + 1, ao1, cap1, l2, (fun kz => ([.int .i64 ((i : Nat) : Int), .slice ao l.length cap, .int .i64 ((l.length : Nat) : Int), .bool true, .int .i64 ((i : Nat) : Int), .int .i64 ((i + 1 : Nat) : Int), .slice ao l.length cap, .int .i64 ((i : Nat) : Int), .pointer (pK kH ao i 0), .pointer (pK kH ao i 17), .int .i64 (l.getD i zH).far, .bool true, .bool true, .slice ao l.length cap, .int .i64 ((i : Nat) : Int), .pointer (pK kH ao i 0), .pointer (pK kH ao i 17), .int .i64 (l.getD i zH).far, .bool false, .bool false, us1 20, us1 21, us1 22, us1 23, us1 24, us1 25, us1 26, us1 27, us1 28, us1 29, us1 30, us1 31, us1 32, us1 33, us1 34, us1 35, us1 36, us1 37, us1 38, us1 39] : List Value).getD kz undef), rfl, rfl, by omega, GG, hg, kg1, kg2, HO, by rw [hl2, ups_no hil (fun c => (of_decide_eq_false h2) c.2)]⟩
      · have hnr : hdNear (l.getD i zH) := ⟨of_decide_eq_true h1, of_decide_eq_true h2⟩
        have hn1 := hnr.1
        have hn2 := hnr.2
        refine wp_region_opq ?_
        intro OPS hY
        have y6 := hY 6 24 rfl
        clear hY
        refine s_val 18 rfl rfl (.slice ao l.length cap) (rfl) ?_
        refine nr ?_; intro U h; simp only [z0, z1] at h; subst h
        refine s_val 19 rfl rfl (.int .i64 ((i : Nat) : Int)) (rfl) ?_
        refine nr ?_; intro U h; simp only [z0, z1] at h; subst h
        refine s_val 20 rfl rfl (.pointer (pK kH ao i 0)) (run_ixK rD (HL.gro GG) _ _ rfl rfl i rfl (by omega)) ?_
        refine nr ?_; intro U h; simp only [z0, z1] at h; subst h
        refine s_val 21 rfl rfl (.pointer (pK kH ao i 17)) (run_fdK (HL.gro GG) 28 _ 2 17 (fdD_2 _) rfl i rfl (by omega)) ?_
        refine nr ?_; intro U h; simp only [z0, z1] at h; subst h
        refine s_val 22 rfl rfl (.int .i64 (l.getD i zH).far) (run_ldKHf (HL.gro GG) _ rfl i rfl (by omega)) ?_
        refine nr ?_; intro U h; simp only [z0, z1] at h; subst h
        refine s_val 23 rfl rfl (.bool true) (run_geqT 2 _ _ _ rfl (l.getD i zH).far 0 rfl rfl true h1 _) ?_
        refine nr ?_; intro U h; simp only [z0, z1] at h; subst h
        refine s_val 24 rfl rfl (.bool true) (rfl) ?_
        refine nr ?_; intro U h; simp only [z0, z1] at h; subst h
        refine s_gvalY 25 rfl rfl y6 rfl (.slice ao l.length cap) (rfl) ?_
        refine nr ?_; intro U h; simp only [z0, z1] at h; subst h
        refine s_gvalY 26 rfl rfl y6 rfl (.int .i64 ((i : Nat) : Int)) (rfl) ?_
        refine nr ?_; intro U h; simp only [z0, z1] at h; subst h
        refine s_gvalY 27 rfl rfl y6 rfl (.pointer (pK kH ao i 0)) (run_ixK rD (HL.gro GG) _ _ rfl rfl i rfl (by omega)) ?_
        refine nr ?_; intro U h; simp only [z0, z1] at h; subst h
        refine s_gvalY 28 rfl rfl y6 rfl (.pointer (pK kH ao i 17)) (run_fdK (HL.gro GG) 28 _ 2 17 (fdD_2 _) rfl i rfl (by omega)) ?_
        refine nr ?_; intro U h; simp only [z0, z1] at h; subst h
        refine s_gvalY 29 rfl rfl y6 rfl (.int .i64 (l.getD i zH).far) (run_ldKHf (HL.gro GG) _ rfl i rfl (by omega)) ?_
        refine nr ?_; intro U h; simp only [z0, z1] at h; subst h
        refine s_gvalY 30 rfl rfl y6 rfl (.bool true) (run_leqT 2 _ _ _ rfl (l.getD i zH).far 5 rfl rfl true h2 _) ?_
        refine nr ?_; intro U h; simp only [z0, z1] at h; subst h
        refine s_val 31 rfl rfl (.bool true) (rfl) ?_
        refine nr ?_; intro U h; simp only [z0, z1] at h; subst h
        refine wpList_nil ?_
        refine then_n ?_
        refine wp_cond_true rfl ?_
        refine wp_region_exA (A := ?Ax3) 19 [(0, 32), (1, 33), (2, 34), (3, 35), (4, 36), (5, 37), (6, 38), (7, 39), (8, 40), (9, 41), (10, 42), (11, 43), (12, 44), (13, 45), (14, 46), (15, 47), (16, 48), (17, 49), (18, 50)] [.val (.slice ao1 l2.length cap1), .val (.slice ao l.length cap), .val (.int .i64 ((i : Nat) : Int)), .val (.pointer (pK kH ao i 0)), .val (.pointer (pK kH ao i 0)), .val (.int .i64 (l.getD i zH).n), .val (.slice ao l.length cap), .val (.int .i64 ((i : Nat) : Int)), .val (.pointer (pK kH ao i 0)), .val (.pointer (pK kH ao i 1)), .val (.agg (idA (l.getD i zH).id)), .val (.slice ao l.length cap), .val (.int .i64 ((i : Nat) : Int)), .val (.pointer (pK kH ao i 0)), .val (.pointer (pK kH ao i 17)), .val (.int .i64 (l.getD i zH).far), .val (.int .i64 ((l.getD i zH).far + 1)), .val (.agg (hdA (mkH (l.getD i zH).n (l.getD i zH).id ((l.getD i zH).far + 1)))), rowK kH [(mkH (l.getD i zH).n (l.getD i zH).id ((l.getD i zH).far + 1))]] follows (by kernel_rfl) rfl ?hAx3 (opsA_cons ?o0x3 (opsA_cons ?o1x3 (opsA_cons ?o2x3 (opsA_cons ?o3x3 (opsA_cons ?o4x3 (opsA_cons ?o5x3 (opsA_cons ?o6x3 (opsA_cons ?o7x3 (opsA_cons ?o8x3 (opsA_cons ?o9x3 (opsA_cons ?o10x3 (opsA_cons ?o11x3 (opsA_cons ?o12x3 (opsA_cons ?o13x3 (opsA_cons ?o14x3 (opsA_cons ?o15x3 (opsA_cons ?o16x3 (opsA_cons ?o17x3 (opsA_cons ?o18x3 opsA_nil))))))))))))))))))) ?restx3
        case hAx3 =>
          intro ptrs
          simp only [full, foldSlots, filledE, postE, List.foldl_cons, List.foldl_nil, List.getD_cons_zero, List.getD_cons_succ, fill_val, fill_rowK, List.set_cons_zero, List.set_cons_succ]
          exact rfl
        case o0x3 => exact fun _ _ _ _ => opE_move (v := .slice ao1 l2.length cap1) _ rfl rfl rfl
        case o1x3 => exact fun _ _ _ _ => opE_move (v := .slice ao l.length cap) _ rfl rfl rfl
        case o2x3 => exact fun _ _ _ _ => opE_move (v := .int .i64 ((i : Nat) : Int)) _ rfl rfl rfl
        case o3x3 => exact fun _ _ hw _ => opE_value (v := .pointer (pK kH ao i 0)) rfl (run_ixK rD (HL.gro (GG.drew.trans hw)) _ _ rfl rfl i rfl (by omega))
        case o4x3 => exact fun _ _ hw _ => opE_value (v := .pointer (pK kH ao i 0)) rfl (run_fdK (HL.gro (GG.drew.trans hw)) 28 _ 0 0 (fdD_0 _) rfl i rfl (by omega))
        case o5x3 => exact fun _ _ hw _ => opE_value (v := .int .i64 (l.getD i zH).n) rfl (run_ldKHn (HL.gro (GG.drew.trans hw)) _ rfl i rfl (by omega))
        case o6x3 => exact fun _ _ _ _ => opE_move (v := .slice ao l.length cap) _ rfl rfl rfl
        case o7x3 => exact fun _ _ _ _ => opE_move (v := .int .i64 ((i : Nat) : Int)) _ rfl rfl rfl
        case o8x3 => exact fun _ _ hw _ => opE_value (v := .pointer (pK kH ao i 0)) rfl (run_ixK rD (HL.gro (GG.drew.trans hw)) _ _ rfl rfl i rfl (by omega))
        case o9x3 => exact fun _ _ hw _ => opE_value (v := .pointer (pK kH ao i 1)) rfl (run_fdK (HL.gro (GG.drew.trans hw)) 28 _ 1 1 (fdD_1 _) rfl i rfl (by omega))
        case o10x3 => exact fun _ _ hw _ => opE_value (v := .agg (idA (l.getD i zH).id)) rfl (run_ldKHi (HL.gro (GG.drew.trans hw)) _ rfl i rfl (by omega))
        case o11x3 => exact fun _ _ _ _ => opE_move (v := .slice ao l.length cap) _ rfl rfl rfl
        case o12x3 => exact fun _ _ _ _ => opE_move (v := .int .i64 ((i : Nat) : Int)) _ rfl rfl rfl
        case o13x3 => exact fun _ _ hw _ => opE_value (v := .pointer (pK kH ao i 0)) rfl (run_ixK rD (HL.gro (GG.drew.trans hw)) _ _ rfl rfl i rfl (by omega))
        case o14x3 => exact fun _ _ hw _ => opE_value (v := .pointer (pK kH ao i 17)) rfl (run_fdK (HL.gro (GG.drew.trans hw)) 28 _ 2 17 (fdD_2 _) rfl i rfl (by omega))
        case o15x3 => exact fun _ _ hw _ => opE_value (v := .int .i64 (l.getD i zH).far) rfl (run_ldKHf (HL.gro (GG.drew.trans hw)) _ rfl i rfl (by omega))
        case o16x3 => exact fun _ _ _ _ => opE_value (v := .int .i64 ((l.getD i zH).far + 1)) rfl (run_addI 2 _ _ _ rfl (l.getD i zH).far 1 ((l.getD i zH).far + 1) rfl rfl (by omega) (by omega) (by omega) _)
        case o17x3 => exact fun _ _ _ _ => opE_value (v := .agg (hdA (mkH (l.getD i zH).n (l.getD i zH).id ((l.getD i zH).far + 1)))) rfl (run_bd 28 _ rfl [(0, .int .i64 (l.getD i zH).n), (1, .agg (idA (l.getD i zH).id)), (2, .int .i64 ((l.getD i zH).far + 1))] rfl _ (bdD012 _ _ _ _))
        case o18x3 => exact fun _ _ _ _ => opE_bs rfl 30 _ rfl [(0, .agg (hdA (mkH (l.getD i zH).n (l.getD i zH).id ((l.getD i zH).far + 1))))] rfl (mkH (l.getD i zH).n (l.getD i zH).id ((l.getD i zH).far + 1)) (hdUp_ok (atH HL hil) hnr) (bsD (mkH (l.getD i zH).n (l.getD i zH).id ((l.getD i zH).far + 1)) _)
        intro ptrs w4 GD hxE
        simp only [List.drop_succ_cons, List.drop_zero]
        replace kg1 := GD.has kg1
        replace kg2 := GD.has kg2
        replace HO := HO.gro ((Gro.refl _).drew.trans GD)
        replace GG := GG.drew.trans GD
        obtain ⟨⟨ao22, cap22, hx22, HR22⟩, _⟩ := hxE
        simp only [hx22]
        clear hx22
        clear GD
        refine s_appK rD (by decide) 51 rfl rfl _ _ rfl rfl HO rfl HR22 (by rw [hl2]; simp only [List.length_cons, List.length_nil]; have := ups_len l i; omega) GG.size ?_
        intro ao2 cap2 w5 HO2z G2 KPz
        replace kg1 := G2.has kg1 (HO.own.ne kg1 (by decide))
        have hg2 := box_keptX hg (lt_of_heap kg2) KPz
        replace kg2 := G2.has kg2 hg
        replace hg := hg2
        replace GG := G2.gro GG (fun k hk => HO.own.base k hk)
        clear G2 HO hg2 KPz
        have HO := HO2z
        clear HO2z
        refine nr ?_; intro U h; simp only [z0, z1] at h; subst h
        refine s_val 5 rfl rfl (.slice ao2 (l2 ++ [(mkH (l.getD i zH).n (l.getD i zH).id ((l.getD i zH).far + 1))]).length cap2) (rfl) ?_
        refine nr ?_; intro U h; simp only [z0, z1] at h; subst h
        refine wpList_nil ?_
        refine blk_n ?_
        refine then_n ?_
        refine wp_region_lit ?_
        refine s_val 16 rfl rfl (.int .i64 ((i : Nat) : Int)) (rfl) ?_
        refine nr ?_; intro U h; simp only [z0, z1] at h; subst h
        refine s_val 17 rfl rfl (.int .i64 ((i + 1 : Nat) : Int)) (run_addI 3 _ _ _ rfl ((i : Nat) : Int) 1 ((i + 1 : Nat) : Int) rfl rfl (by omega) (by omega) (by omega) _) ?_
        refine nr ?_; intro U h; simp only [z0, z1] at h; subst h
        refine s_val 6 rfl rfl (.int .i64 ((i + 1 : Nat) : Int)) (rfl) ?_
        refine nr ?_; intro U h; simp only [z0, z1] at h; subst h
        refine wpList_nil ?_
        refine then_n ?_
        exact ⟨l.length + 1 - (i + 1), by omega, i + 1, ao2, cap2, l2 ++ [mkH (l.getD i zH).n (l.getD i zH).id ((l.getD i zH).far + 1)], (fun kz => ([.int .i64 ((i : Nat) : Int), .slice ao l.length cap, .int .i64 ((l.length : Nat) : Int), .bool true, .int .i64 ((i : Nat) : Int), .int .i64 ((i + 1 : Nat) : Int), .slice ao l.length cap, .int .i64 ((i : Nat) : Int), .pointer (pK kH ao i 0), .pointer (pK kH ao i 17), .int .i64 (l.getD i zH).far, .bool true, .bool true, .slice ao l.length cap, .int .i64 ((i : Nat) : Int), .pointer (pK kH ao i 0), .pointer (pK kH ao i 17), .int .i64 (l.getD i zH).far, .bool true, .bool true, .slice ao1 l2.length cap1, .slice ao l.length cap, .int .i64 ((i : Nat) : Int), .pointer (pK kH ao i 0), .pointer (pK kH ao i 0), .int .i64 (l.getD i zH).n, .slice ao l.length cap, .int .i64 ((i : Nat) : Int), .pointer (pK kH ao i 0), .pointer (pK kH ao i 1), .agg (idA (l.getD i zH).id), .slice ao l.length cap, .int .i64 ((i : Nat) : Int), .pointer (pK kH ao i 0), .pointer (pK kH ao i 17), .int .i64 (l.getD i zH).far, .int .i64 ((l.getD i zH).far + 1), .agg (hdA (mkH (l.getD i zH).n (l.getD i zH).id ((l.getD i zH).far + 1))), .slice ao22 ([(mkH (l.getD i zH).n (l.getD i zH).id ((l.getD i zH).far + 1))]).length cap22, .slice ao2 (l2 ++ [(mkH (l.getD i zH).n (l.getD i zH).id ((l.getD i zH).far + 1))]).length cap2] : List Value).getD kz undef), rfl, rfl, by omega, GG, hg, kg1, kg2, HO, by rw [hl2, ups_yes hil hnr]; rfl⟩
set_option maxRecDepth 100000 in
set_option maxHeartbeats 4000000 in
theorem same_any (w : World) (l : List Hd) (ao : Option Addr) (cap : Nat) (HA : RK kH w ao cap l) (bo : Option Addr) (bap : Nat) (HB : RK kH w bo bap l) (hl : l.length ≤ 4398046511104) : Calls Try.prog 14 #[.slice ao l.length cap, .slice bo l.length bap] w (fun e w' => e = .returned (.bool true) ∧ Gro w w') := by
  refine s_enter Try.func14 rfl Try.ntmps14 [.slice ao l.length cap, .slice bo l.length bap] [.slice ao l.length cap, .slice bo l.length bap, undef, undef, undef, undef, undef, undef, undef, undef, undef, undef, undef, undef, undef, undef, undef, undef, undef, undef, undef, undef, undef, undef, undef, undef, undef, undef, undef, undef, undef, undef, undef, undef, undef, undef, undef, undef, undef, undef, undef, undef, undef, undef, undef, undef, undef, undef, undef, undef, undef, undef, undef, undef] rfl ?_
  have GG := Gro.refl w
  refine wp_seq ?_
  refine wp_region_lit ?_
  refine s_val 4 rfl rfl (.bool false) (rfl) ?_
  refine nr ?_; intro U h; simp only [z0, z1] at h; subst h
  refine wpList_nil ?_
  refine then_n ?_
  refine wp_seq ?_
  refine wp_seq ?_
  refine wp_region_lit ?_
  refine s_val 6 rfl rfl (.slice ao l.length cap) (rfl) ?_
  refine nr ?_; intro U h; simp only [z0, z1] at h; subst h
  refine s_val 7 rfl rfl (.int .i64 ((l.length : Nat) : Int)) (run_len Try.underlying24 _ rfl _ _ _ rfl _) ?_
  refine nr ?_; intro U h; simp only [z0, z1] at h; subst h
  refine s_val 8 rfl rfl (.slice bo l.length bap) (rfl) ?_
  refine nr ?_; intro U h; simp only [z0, z1] at h; subst h
  refine s_val 9 rfl rfl (.int .i64 ((l.length : Nat) : Int)) (run_len Try.underlying30 _ rfl _ _ _ rfl _) ?_
  refine nr ?_; intro U h; simp only [z0, z1] at h; subst h
  refine s_val 10 rfl rfl (.bool false) (run_neq_k 3 .i64 _ _ _ rfl Try.underlying3 ((l.length : Nat) : Int) ((l.length : Nat) : Int) rfl rfl false (decide_eq_true rfl) _) ?_
  refine nr ?_; intro U h; simp only [z0, z1] at h; subst h
  refine wpList_nil ?_
  refine then_n ?_
  refine wp_cond_false rfl ?_
  refine wp_skip ?_
  refine then_n ?_
  refine wp_seq ?_
  refine wp_seq ?_
  refine wp_region_lit ?_
  refine s_val 11 rfl rfl (.slice ao l.length cap) (rfl) ?_
  refine nr ?_; intro U h; simp only [z0, z1] at h; subst h
  refine s_val 12 rfl rfl (.int .i64 ((l.length : Nat) : Int)) (run_len Try.underlying24 _ rfl _ _ _ rfl _) ?_
  refine nr ?_; intro U h; simp only [z0, z1] at h; subst h
  refine s_val 13 rfl rfl (.int .i64 0) (rfl) ?_
  refine nr ?_; intro U h; simp only [z0, z1] at h; subst h
  refine wpList_nil ?_
  refine then_n ?_
  refine wp_block ?_
  refine wp_loopN (fun mz az wv => ∃ (i : Nat) (us1 : Nat → Value), mz = l.length + 1 - i ∧ az = ⟨[.slice ao l.length cap, .slice bo l.length bap, undef, undef, us1 0, us1 1, .slice ao l.length cap, .int .i64 ((l.length : Nat) : Int), .slice bo l.length bap, .int .i64 ((l.length : Nat) : Int), .bool false, .slice ao l.length cap, .int .i64 ((l.length : Nat) : Int), .int .i64 ((i : Nat) : Int), us1 2, us1 3, us1 4, us1 5, us1 6, us1 7, us1 8, us1 9, us1 10, us1 11, us1 12, us1 13, us1 14, us1 15, us1 16, us1 17, us1 18, us1 19, us1 20, us1 21, us1 22, us1 23, us1 24, us1 25, us1 26, us1 27, us1 28, us1 29, us1 30, us1 31, us1 32, us1 33, us1 34, us1 35, us1 36, us1 37, us1 38, us1 39, us1 40, us1 41].toArray, []⟩ ∧ i ≤ l.length ∧ Gro w wv) ?_ _ ⟨0, (fun kz => ([.bool false, undef, undef, undef, undef, undef, undef, undef, undef, undef, undef, undef, undef, undef, undef, undef, undef, undef, undef, undef, undef, undef, undef, undef, undef, undef, undef, undef, undef, undef, undef, undef, undef, undef, undef, undef, undef, undef, undef, undef, undef, undef] : List Value).getD kz undef), rfl, rfl, Nat.zero_le _, GG⟩
  clear GG
  rintro mz az wv ⟨i, us1, rfl, rfl, hi, GG⟩
  refine wp_seq ?_
  refine wp_region_lit ?_
  cases hi1 : decide (((i : Nat) : Int) < ((l.length : Nat) : Int))
  · have hie : i = l.length := by have := of_decide_eq_false hi1; omega
    refine s_val 14 rfl rfl (.bool false) (run_lssT 3 _ _ _ rfl ((i : Nat) : Int) ((l.length : Nat) : Int) rfl rfl false hi1 _) ?_
    refine nr ?_; intro U h; simp only [z0, z1] at h; subst h
    refine wpList_nil ?_
    refine then_n ?_
    refine wp_seq ?_
    refine wp_cond_false rfl ?_
    refine wp_exit ?_
    refine then_x ?_
    refine then_x ?_
    refine blk_x ?_
    refine then_n ?_
    refine wp_seq ?_
    refine wp_region_lit ?_
    refine s_val 4 rfl rfl (.bool true) (rfl) ?_
    refine nr ?_; intro U h; simp only [z0, z1] at h; subst h
    refine wpList_nil ?_
    refine then_n ?_
    refine wp_ret ?_
    refine bodyPost_ret (results_tmp Try.results14 _ _ _) rfl ?_
    exact ⟨rfl, GG⟩
  · have hil : i < l.length := by have := of_decide_eq_true hi1; omega
    refine s_val 14 rfl rfl (.bool true) (run_lssT 3 _ _ _ rfl ((i : Nat) : Int) ((l.length : Nat) : Int) rfl rfl true hi1 _) ?_
    refine nr ?_; intro U h; simp only [z0, z1] at h; subst h
    refine wpList_nil ?_
    refine then_n ?_
    refine wp_seq ?_
    refine wp_cond_true rfl ?_
    refine wp_skip ?_
    refine then_n ?_
    refine wp_seq ?_
    refine wp_block ?_
    refine wp_seq ?_
    refine wp_region_lit ?_
    refine s_val 15 rfl rfl (.int .i64 ((i : Nat) : Int)) (rfl) ?_
    refine nr ?_; intro U h; simp only [z0, z1] at h; subst h
    refine s_val 5 rfl rfl (.int .i64 ((i : Nat) : Int)) (rfl) ?_
    refine nr ?_; intro U h; simp only [z0, z1] at h; subst h
    refine wpList_nil ?_
    refine then_n ?_
    refine wp_seq ?_
    refine wp_region_exA (A := ?Ax4) 36 [(0, 16), (1, 17), (2, 18), (3, 19), (4, 20), (5, 21), (6, 22), (7, 23), (8, 24), (9, 25), (10, 26), (11, 27), (12, 28), (13, 29), (14, 30), (15, 31), (16, 32), (17, 33), (18, 34), (19, 35), (20, 36), (21, 37), (22, 38), (23, 39), (24, 40), (25, 41), (26, 42), (27, 43), (28, 44), (29, 45), (30, 46), (31, 47), (32, 48), (33, 49), (34, 50), (35, 51)] [.val (.slice ao l.length cap), .val (.int .i64 ((i : Nat) : Int)), .val (.pointer (pK kH ao i 0)), .val (.pointer (pK kH ao i 0)), .val (.int .i64 (l.getD i zH).n), .val (.slice bo l.length bap), .val (.int .i64 ((i : Nat) : Int)), .val (.pointer (pK kH bo i 0)), .val (.pointer (pK kH bo i 0)), .val (.int .i64 (l.getD i zH).n), .val (.bool false), .val (.bool false), .val (.slice ao l.length cap), .val (.int .i64 ((i : Nat) : Int)), .val (.pointer (pK kH ao i 0)), .val (.pointer (pK kH ao i 1)), .val (.agg (idA (l.getD i zH).id)), .val (.slice bo l.length bap), .val (.int .i64 ((i : Nat) : Int)), .val (.pointer (pK kH bo i 0)), .val (.pointer (pK kH bo i 1)), .val (.agg (idA (l.getD i zH).id)), .val (.bool false), .val (.bool false), .val (.bool false), .val (.slice ao l.length cap), .val (.int .i64 ((i : Nat) : Int)), .val (.pointer (pK kH ao i 0)), .val (.pointer (pK kH ao i 17)), .val (.int .i64 (l.getD i zH).far), .val (.slice bo l.length bap), .val (.int .i64 ((i : Nat) : Int)), .val (.pointer (pK kH bo i 0)), .val (.pointer (pK kH bo i 17)), .val (.int .i64 (l.getD i zH).far), .val (.bool false)] follows (by kernel_rfl) rfl ?hAx4 (opsA_cons ?o0x4 (opsA_cons ?o1x4 (opsA_cons ?o2x4 (opsA_cons ?o3x4 (opsA_cons ?o4x4 (opsA_cons ?o5x4 (opsA_cons ?o6x4 (opsA_cons ?o7x4 (opsA_cons ?o8x4 (opsA_cons ?o9x4 (opsA_cons ?o10x4 (opsA_cons ?o11x4 (opsA_cons ?o12x4 (opsA_cons ?o13x4 (opsA_cons ?o14x4 (opsA_cons ?o15x4 (opsA_cons ?o16x4 (opsA_cons ?o17x4 (opsA_cons ?o18x4 (opsA_cons ?o19x4 (opsA_cons ?o20x4 (opsA_cons ?o21x4 (opsA_cons ?o22x4 (opsA_cons ?o23x4 (opsA_cons ?o24x4 (opsA_cons ?o25x4 (opsA_cons ?o26x4 (opsA_cons ?o27x4 (opsA_cons ?o28x4 (opsA_cons ?o29x4 (opsA_cons ?o30x4 (opsA_cons ?o31x4 (opsA_cons ?o32x4 (opsA_cons ?o33x4 (opsA_cons ?o34x4 (opsA_cons ?o35x4 opsA_nil)))))))))))))))))))))))))))))))))))) ?restx4
    case hAx4 =>
      intro ptrs
      simp only [full, foldSlots, filledE, postE, List.foldl_cons, List.foldl_nil, List.getD_cons_zero, List.getD_cons_succ, fill_val, List.set_cons_zero, List.set_cons_succ]
      exact rfl
    case o0x4 => exact fun _ _ _ _ => opE_move (v := .slice ao l.length cap) _ rfl rfl rfl
    case o1x4 => exact fun _ _ _ _ => opE_move (v := .int .i64 ((i : Nat) : Int)) _ rfl rfl rfl
    case o2x4 => exact fun _ _ hw _ => opE_value (v := .pointer (pK kH ao i 0)) rfl (run_ixK rH (HA.gro (GG.drew.trans hw)) _ _ rfl rfl i rfl (by omega))
    case o3x4 => exact fun _ _ hw _ => opE_value (v := .pointer (pK kH ao i 0)) rfl (run_fdK (HA.gro (GG.drew.trans hw)) 26 _ 0 0 (fdH_0 _) rfl i rfl (by omega))
    case o4x4 => exact fun _ _ hw _ => opE_value (v := .int .i64 (l.getD i zH).n) rfl (run_ldKHn (HA.gro (GG.drew.trans hw)) _ rfl i rfl (by omega))
    case o5x4 => exact fun _ _ _ _ => opE_move (v := .slice bo l.length bap) _ rfl rfl rfl
    case o6x4 => exact fun _ _ _ _ => opE_move (v := .int .i64 ((i : Nat) : Int)) _ rfl rfl rfl
    case o7x4 => exact fun _ _ hw _ => opE_value (v := .pointer (pK kH bo i 0)) rfl (run_ixK rD (HB.gro (GG.drew.trans hw)) _ _ rfl rfl i rfl (by omega))
    case o8x4 => exact fun _ _ hw _ => opE_value (v := .pointer (pK kH bo i 0)) rfl (run_fdK (HB.gro (GG.drew.trans hw)) 28 _ 0 0 (fdD_0 _) rfl i rfl (by omega))
    case o9x4 => exact fun _ _ hw _ => opE_value (v := .int .i64 (l.getD i zH).n) rfl (run_ldKHn (HB.gro (GG.drew.trans hw)) _ rfl i rfl (by omega))
    case o10x4 => exact fun _ _ _ _ => opE_value (v := .bool false) rfl (run_neq_k 3 .i64 _ _ _ rfl Try.underlying3 (l.getD i zH).n (l.getD i zH).n rfl rfl false (decide_eq_true rfl) _)
    case o11x4 => exact fun _ _ _ _ => opE_move (v := .bool false) _ rfl rfl rfl
    case o12x4 => exact fun _ _ _ _ => opE_move (v := .slice ao l.length cap) _ rfl rfl rfl
    case o13x4 => exact fun _ _ _ _ => opE_move (v := .int .i64 ((i : Nat) : Int)) _ rfl rfl rfl
    case o14x4 => exact fun _ _ hw _ => opE_value (v := .pointer (pK kH ao i 0)) rfl (run_ixK rH (HA.gro (GG.drew.trans hw)) _ _ rfl rfl i rfl (by omega))
    case o15x4 => exact fun _ _ hw _ => opE_value (v := .pointer (pK kH ao i 1)) rfl (run_fdK (HA.gro (GG.drew.trans hw)) 26 _ 1 1 (fdH_1 _) rfl i rfl (by omega))
    case o16x4 => exact fun _ _ hw _ => opE_value (v := .agg (idA (l.getD i zH).id)) rfl (run_ldKHi (HA.gro (GG.drew.trans hw)) _ rfl i rfl (by omega))
    case o17x4 => exact fun _ _ _ _ => opE_move (v := .slice bo l.length bap) _ rfl rfl rfl
    case o18x4 => exact fun _ _ _ _ => opE_move (v := .int .i64 ((i : Nat) : Int)) _ rfl rfl rfl
    case o19x4 => exact fun _ _ hw _ => opE_value (v := .pointer (pK kH bo i 0)) rfl (run_ixK rD (HB.gro (GG.drew.trans hw)) _ _ rfl rfl i rfl (by omega))
    case o20x4 => exact fun _ _ hw _ => opE_value (v := .pointer (pK kH bo i 1)) rfl (run_fdK (HB.gro (GG.drew.trans hw)) 28 _ 1 1 (fdD_1 _) rfl i rfl (by omega))
    case o21x4 => exact fun _ _ hw _ => opE_value (v := .agg (idA (l.getD i zH).id)) rfl (run_ldKHi (HB.gro (GG.drew.trans hw)) _ rfl i rfl (by omega))
    case o22x4 => exact fun _ _ _ _ => opE_value (v := .bool false) rfl (run_neI _ _ _ rfl _ _ rfl rfl (atH HA hil).id (atH HA hil).id false (decide_eq_true rfl))
    case o23x4 => exact fun _ _ _ _ => opE_pick (v := .bool false) _ _ _ rfl rfl false rfl rfl
    case o24x4 => exact fun _ _ _ _ => opE_move (v := .bool false) _ rfl rfl rfl
    case o25x4 => exact fun _ _ _ _ => opE_move (v := .slice ao l.length cap) _ rfl rfl rfl
    case o26x4 => exact fun _ _ _ _ => opE_move (v := .int .i64 ((i : Nat) : Int)) _ rfl rfl rfl
    case o27x4 => exact fun _ _ hw _ => opE_value (v := .pointer (pK kH ao i 0)) rfl (run_ixK rH (HA.gro (GG.drew.trans hw)) _ _ rfl rfl i rfl (by omega))
    case o28x4 => exact fun _ _ hw _ => opE_value (v := .pointer (pK kH ao i 17)) rfl (run_fdK (HA.gro (GG.drew.trans hw)) 26 _ 2 17 (fdH_2 _) rfl i rfl (by omega))
    case o29x4 => exact fun _ _ hw _ => opE_value (v := .int .i64 (l.getD i zH).far) rfl (run_ldKHf (HA.gro (GG.drew.trans hw)) _ rfl i rfl (by omega))
    case o30x4 => exact fun _ _ _ _ => opE_move (v := .slice bo l.length bap) _ rfl rfl rfl
    case o31x4 => exact fun _ _ _ _ => opE_move (v := .int .i64 ((i : Nat) : Int)) _ rfl rfl rfl
    case o32x4 => exact fun _ _ hw _ => opE_value (v := .pointer (pK kH bo i 0)) rfl (run_ixK rD (HB.gro (GG.drew.trans hw)) _ _ rfl rfl i rfl (by omega))
    case o33x4 => exact fun _ _ hw _ => opE_value (v := .pointer (pK kH bo i 17)) rfl (run_fdK (HB.gro (GG.drew.trans hw)) 28 _ 2 17 (fdD_2 _) rfl i rfl (by omega))
    case o34x4 => exact fun _ _ hw _ => opE_value (v := .int .i64 (l.getD i zH).far) rfl (run_ldKHf (HB.gro (GG.drew.trans hw)) _ rfl i rfl (by omega))
    case o35x4 => exact fun _ _ _ _ => opE_value (v := .bool false) rfl (run_neq_k 2 .i64 _ _ _ rfl Try.underlying2 (l.getD i zH).far (l.getD i zH).far rfl rfl false (decide_eq_true rfl) _)
    intro ptrs w1 GD hxE
    simp only [List.drop_succ_cons, List.drop_zero]
    replace GG := GG.drew.trans GD
    clear GD
    refine s_val 52 rfl rfl (.bool false) (rfl) ?_
    refine nr ?_; intro U h; simp only [z0, z1] at h; subst h
    refine wpList_nil ?_
    refine then_n ?_
    refine wp_cond_false rfl ?_
    refine wp_skip ?_
    refine blk_n ?_
    refine then_n ?_
    refine wp_region_lit ?_
    refine s_val 53 rfl rfl (.int .i64 ((i + 1 : Nat) : Int)) (run_addI 3 _ _ _ rfl ((i : Nat) : Int) 1 ((i + 1 : Nat) : Int) rfl rfl (by omega) (by omega) (by omega) _) ?_
    refine nr ?_; intro U h; simp only [z0, z1] at h; subst h
    refine s_val 13 rfl rfl (.int .i64 ((i + 1 : Nat) : Int)) (rfl) ?_
    refine nr ?_; intro U h; simp only [z0, z1] at h; subst h
    refine wpList_nil ?_
    refine then_n ?_
    exact ⟨l.length + 1 - (i + 1), by omega, i + 1, (fun kz => ([us1 0, .int .i64 ((i : Nat) : Int), .bool true, .int .i64 ((i : Nat) : Int), .slice ao l.length cap, .int .i64 ((i : Nat) : Int), .pointer (pK kH ao i 0), .pointer (pK kH ao i 0), .int .i64 (l.getD i zH).n, .slice bo l.length bap, .int .i64 ((i : Nat) : Int), .pointer (pK kH bo i 0), .pointer (pK kH bo i 0), .int .i64 (l.getD i zH).n, .bool false, .bool false, .slice ao l.length cap, .int .i64 ((i : Nat) : Int), .pointer (pK kH ao i 0), .pointer (pK kH ao i 1), .agg (idA (l.getD i zH).id), .slice bo l.length bap, .int .i64 ((i : Nat) : Int), .pointer (pK kH bo i 0), .pointer (pK kH bo i 1), .agg (idA (l.getD i zH).id), .bool false, .bool false, .bool false, .slice ao l.length cap, .int .i64 ((i : Nat) : Int), .pointer (pK kH ao i 0), .pointer (pK kH ao i 17), .int .i64 (l.getD i zH).far, .slice bo l.length bap, .int .i64 ((i : Nat) : Int), .pointer (pK kH bo i 0), .pointer (pK kH bo i 17), .int .i64 (l.getD i zH).far, .bool false, .bool false, .int .i64 ((i + 1 : Nat) : Int)] : List Value).getD kz undef), rfl, rfl, by omega, GG⟩
set_option maxRecDepth 100000 in
set_option maxHeartbeats 4000000 in
theorem fixed_any (w : World) : Calls Try.prog 11 #[] w (fun e w' => e = .returned (.bool true) ∧ Gro w w') := by
  refine s_enter Try.func11 rfl Try.ntmps11 [] [undef, undef, undef, undef, undef, undef, undef, undef, undef, undef, undef, undef, undef, undef, undef, undef, undef, undef, undef, undef, undef, undef, undef, undef, undef, undef, undef, undef, undef, undef, undef, undef, undef, undef, undef, undef, undef] rfl ?_
  have GG := Gro.refl w
  refine wp_seq ?_
  refine wp_region_lit ?_
  refine s_val 0 rfl rfl (.bool false) (rfl) ?_
  refine nr ?_; intro U h; simp only [z0] at h; subst h
  refine wpList_nil ?_
  refine then_n ?_
  refine wp_seq ?_
  refine wp_region_lit ?_
  refine s_callv 4 rfl rfl _ 22 Try.call22 rfl rfl _ rfl [.int .u8 5] rfl (n_any 5 (by decide) _) ?_
  intro w1 G
  replace GG := GG.trans G
  clear G
  refine nr ?_; intro U h; simp only [z0, z1] at h; subst h
  refine s_callv 5 rfl rfl _ 22 Try.call22 rfl rfl _ rfl [.int .u8 3] rfl (n_any 3 (by decide) _) ?_
  intro w2 G
  replace GG := GG.trans G
  clear G
  refine nr ?_; intro U h; simp only [z0, z1] at h; subst h
  refine s_val 6 rfl rfl (.agg (hdA (mkH 1 3 0))) (run_bd 26 _ rfl [(0, .int .i64 1), (1, .agg (idA 3))] rfl _ (bdH01 _ _ _)) ?_
  refine nr ?_; intro U h; simp only [z0, z1] at h; subst h
  refine s_callv 7 rfl rfl _ 22 Try.call22 rfl rfl _ rfl [.int .u8 3] rfl (n_any 3 (by decide) _) ?_
  intro w3 G
  replace GG := GG.trans G
  clear G
  refine nr ?_; intro U h; simp only [z0, z1] at h; subst h
  refine s_val 8 rfl rfl (.agg (hdA (mkH 2 3 0))) (run_bd 26 _ rfl [(0, .int .i64 2), (1, .agg (idA 3))] rfl _ (bdH01 _ _ _)) ?_
  refine nr ?_; intro U h; simp only [z0, z1] at h; subst h
  refine s_bsl 9 rfl rfl 24 2 _ rfl [(0, .agg (hdA (mkH 1 3 0))), (1, .agg (hdA (mkH 2 3 0)))] rfl ([(mkH 1 3 0), (mkH 2 3 0)].flatMap kH.E).toArray 26 (bsH2 (mkH 1 3 0) (mkH 2 3 0) _) ?_
  intro w4 q1 G eq1 kq1
  have bq1 := size_base GG eq1
  replace GG := GG.trans G
  clear G
  have HR1 : RK kH _ (some ⟨q1, 0, none⟩) 2 [(mkH 1 3 0), (mkH 2 3 0)] := RK.blk kq1 (two_all (mkH_ok ⟨by decide, by decide⟩ (by decide) ⟨by decide, by decide⟩) (mkH_ok ⟨by decide, by decide⟩ (by decide) ⟨by decide, by decide⟩)) (Nat.le_refl _)
  clear eq1
  refine nr ?_; intro U h; simp only [z0, z1] at h; subst h
  refine s_callv 10 rfl rfl _ 8 Try.call8 rfl rfl _ rfl [.agg (idA 5), .slice (some ⟨q1, 0, none⟩) 2 2] rfl (Calls.valV (best_any _ 5 (by decide) _ _ [(mkH 1 3 0), (mkH 2 3 0)] HR1 (by decide)) (congrArg (fun x => Value.agg (hdA x)) (show bestH 5 [(mkH 1 3 0), (mkH 2 3 0)] = (mkH 1 3 1) from rfl))) ?_
  intro w5 G
  replace HR1 := HR1.gro G
  replace GG := GG.trans G
  clear G
  refine nr ?_; intro U h; simp only [z0, z1] at h; subst h
  refine s_alloc 1 rfl rfl 26 rfl _ zeroH (hdA zH) rfl ?_
  intro w6 g1 G eg1 kg1
  have bg1 := size_base GG eg1
  have dHR1g1 := HR1.ne eg1
  replace HR1 := HR1.gro G
  replace GG := GG.trans G
  clear G
  clear eg1
  refine nr ?_; intro U h; simp only [z0, z1] at h; subst h
  refine s_store rfl rfl 26 _ _ rfl g1 0 rfl (.agg (hdA (mkH 1 3 1))) rfl 26 _ kg1 (hdA (mkH 1 3 1)) rfl (siH' _) (hdA_fit _ _) (hdA_one _) (hdA (mkH 1 3 1)) (splice_whole _ _ (hdA_sz _ _)) ?_
  intro w7 St
  have kS := kg1
  replace HR1 := HR1.st St dHR1g1
  replace GG := GG.store St bg1
  replace kg1 := St.new
  clear St
  refine wpList_nil ?_
  refine then_n ?_
  refine wp_seq ?_
  refine wp_region_lit ?_
  refine s_callv 11 rfl rfl _ 22 Try.call22 rfl rfl _ rfl [.int .u8 5] rfl (n_any 5 (by decide) _) ?_
  intro w8 G
  replace kg1 := G.has kg1
  replace HR1 := HR1.gro G
  replace GG := GG.trans G
  clear G
  refine nr ?_; intro U h; simp only [z0, z1] at h; subst h
  refine s_callv 12 rfl rfl _ 22 Try.call22 rfl rfl _ rfl [.int .u8 3] rfl (n_any 3 (by decide) _) ?_
  intro w9 G
  replace kg1 := G.has kg1
  replace HR1 := HR1.gro G
  replace GG := GG.trans G
  clear G
  refine nr ?_; intro U h; simp only [z0, z1] at h; subst h
  refine s_val 13 rfl rfl (.agg (hdA (mkH 1 3 5))) (run_bd 26 _ rfl [(0, .int .i64 1), (1, .agg (idA 3)), (2, .int .i64 5)] rfl _ (bdH012 _ _ _ _)) ?_
  refine nr ?_; intro U h; simp only [z0, z1] at h; subst h
  refine s_bsl 14 rfl rfl 24 1 _ rfl [(0, .agg (hdA (mkH 1 3 5)))] rfl ([(mkH 1 3 5)].flatMap kH.E).toArray 26 (bsH (mkH 1 3 5) _) ?_
  intro w10 q2 G eq2 kq2
  have bq2 := size_base GG eq2
  replace kg1 := G.has kg1
  replace HR1 := HR1.gro G
  replace GG := GG.trans G
  clear G
  have HR2 : RK kH _ (some ⟨q2, 0, none⟩) 1 [(mkH 1 3 5)] := RK.blk kq2 (one_all (mkH_ok ⟨by decide, by decide⟩ (by decide) ⟨by decide, by decide⟩)) (Nat.le_refl _)
  clear eq2
  refine nr ?_; intro U h; simp only [z0, z1] at h; subst h
  refine s_callv 15 rfl rfl _ 8 Try.call8 rfl rfl _ rfl [.agg (idA 5), .slice (some ⟨q2, 0, none⟩) 1 1] rfl (Calls.valV (best_any _ 5 (by decide) _ _ [(mkH 1 3 5)] HR2 (by decide)) (congrArg (fun x => Value.agg (hdA x)) (show bestH 5 [(mkH 1 3 5)] = (mkH 1 3 6) from rfl))) ?_
  intro w11 G
  replace kg1 := G.has kg1
  replace HR1 := HR1.gro G
  replace HR2 := HR2.gro G
  replace GG := GG.trans G
  clear G
  refine nr ?_; intro U h; simp only [z0, z1] at h; subst h
  refine s_alloc 2 rfl rfl 26 rfl _ zeroH (hdA zH) rfl ?_
  intro w12 g2 G eg2 kg2
  have bg2 := size_base GG eg2
  have dg1g2 := lt_new kg1 eg2
  have dHR1g2 := HR1.ne eg2
  have dHR2g2 := HR2.ne eg2
  replace kg1 := G.has kg1
  replace HR1 := HR1.gro G
  replace HR2 := HR2.gro G
  replace GG := GG.trans G
  clear G
  clear eg2
  refine nr ?_; intro U h; simp only [z0, z1] at h; subst h
  refine s_store rfl rfl 26 _ _ rfl g2 0 rfl (.agg (hdA (mkH 1 3 6))) rfl 26 _ kg2 (hdA (mkH 1 3 6)) rfl (siH' _) (hdA_fit _ _) (hdA_one _) (hdA (mkH 1 3 6)) (splice_whole _ _ (hdA_sz _ _)) ?_
  intro w13 St
  have kS := kg2
  replace kg1 := St.has (by omega) kg1
  replace HR1 := HR1.st St dHR1g2
  replace HR2 := HR2.st St dHR2g2
  replace GG := GG.store St bg2
  replace kg2 := St.new
  clear St
  refine wpList_nil ?_
  refine then_n ?_
  refine wp_seq ?_
  refine wp_region_lit ?_
  refine s_callv 16 rfl rfl _ 22 Try.call22 rfl rfl _ rfl [.int .u8 5] rfl (n_any 5 (by decide) _) ?_
  intro w14 G
  replace kg1 := G.has kg1
  replace kg2 := G.has kg2
  replace HR1 := HR1.gro G
  replace HR2 := HR2.gro G
  replace GG := GG.trans G
  clear G
  refine nr ?_; intro U h; simp only [z0, z1] at h; subst h
  refine s_callv 17 rfl rfl _ 22 Try.call22 rfl rfl _ rfl [.int .u8 3] rfl (n_any 3 (by decide) _) ?_
  intro w15 G
  replace kg1 := G.has kg1
  replace kg2 := G.has kg2
  replace HR1 := HR1.gro G
  replace HR2 := HR2.gro G
  replace GG := GG.trans G
  clear G
  refine nr ?_; intro U h; simp only [z0, z1] at h; subst h
  refine s_val 18 rfl rfl (.agg (hdA (mkH 1 3 6))) (run_bd 26 _ rfl [(0, .int .i64 1), (1, .agg (idA 3)), (2, .int .i64 6)] rfl _ (bdH012 _ _ _ _)) ?_
  refine nr ?_; intro U h; simp only [z0, z1] at h; subst h
  refine s_bsl 19 rfl rfl 24 1 _ rfl [(0, .agg (hdA (mkH 1 3 6)))] rfl ([(mkH 1 3 6)].flatMap kH.E).toArray 26 (bsH (mkH 1 3 6) _) ?_
  intro w16 q3 G eq3 kq3
  have bq3 := size_base GG eq3
  replace kg1 := G.has kg1
  replace kg2 := G.has kg2
  replace HR1 := HR1.gro G
  replace HR2 := HR2.gro G
  replace GG := GG.trans G
  clear G
  have HR3 : RK kH _ (some ⟨q3, 0, none⟩) 1 [(mkH 1 3 6)] := RK.blk kq3 (one_all (mkH_ok ⟨by decide, by decide⟩ (by decide) ⟨by decide, by decide⟩)) (Nat.le_refl _)
  clear eq3
  refine nr ?_; intro U h; simp only [z0, z1] at h; subst h
  refine s_callv 20 rfl rfl _ 8 Try.call8 rfl rfl _ rfl [.agg (idA 5), .slice (some ⟨q3, 0, none⟩) 1 1] rfl (Calls.valV (best_any _ 5 (by decide) _ _ [(mkH 1 3 6)] HR3 (by decide)) (congrArg (fun x => Value.agg (hdA x)) (show bestH 5 [(mkH 1 3 6)] = (mkH (-1) 5 0) from rfl))) ?_
  intro w17 G
  replace kg1 := G.has kg1
  replace kg2 := G.has kg2
  replace HR1 := HR1.gro G
  replace HR2 := HR2.gro G
  replace HR3 := HR3.gro G
  replace GG := GG.trans G
  clear G
  refine nr ?_; intro U h; simp only [z0, z1] at h; subst h
  refine s_alloc 3 rfl rfl 26 rfl _ zeroH (hdA zH) rfl ?_
  intro w18 g3 G eg3 kg3
  have bg3 := size_base GG eg3
  have dg1g3 := lt_new kg1 eg3
  have dg2g3 := lt_new kg2 eg3
  have dHR1g3 := HR1.ne eg3
  have dHR2g3 := HR2.ne eg3
  have dHR3g3 := HR3.ne eg3
  replace kg1 := G.has kg1
  replace kg2 := G.has kg2
  replace HR1 := HR1.gro G
  replace HR2 := HR2.gro G
  replace HR3 := HR3.gro G
  replace GG := GG.trans G
  clear G
  clear eg3
  refine nr ?_; intro U h; simp only [z0, z1] at h; subst h
  refine s_store rfl rfl 26 _ _ rfl g3 0 rfl (.agg (hdA (mkH (-1) 5 0))) rfl 26 _ kg3 (hdA (mkH (-1) 5 0)) rfl (siH' _) (hdA_fit _ _) (hdA_one _) (hdA (mkH (-1) 5 0)) (splice_whole _ _ (hdA_sz _ _)) ?_
  intro w19 St
  have kS := kg3
  replace kg1 := St.has (by omega) kg1
  replace kg2 := St.has (by omega) kg2
  replace HR1 := HR1.st St dHR1g3
  replace HR2 := HR2.st St dHR2g3
  replace HR3 := HR3.st St dHR3g3
  replace GG := GG.store St bg3
  replace kg3 := St.new
  clear St
  refine wpList_nil ?_
  refine then_n ?_
  refine wp_seq ?_
  refine wp_region_exA (A := ?Ax5) 15 [(0, 21), (1, 22), (2, 23), (3, 24), (4, 25), (5, 26), (6, 27), (7, 28), (8, 29), (9, 30), (10, 31), (11, 32), (12, 33), (13, 34), (14, 35)] [.val (.agg (hdA (mkH 1 3 1))), .val (.agg (idA 3)), .val (.agg (hdA (mkH 1 3 1))), .val (.bool true), .val (.bool true), .val (.agg (hdA (mkH 1 3 6))), .val (.agg (idA 3)), .val (.agg (hdA (mkH 1 3 6))), .val (.bool true), .val (.bool true), .val (.bool true), .val (.agg (hdA (mkH (-1) 5 0))), .val (.agg (idA 5)), .val (.agg (hdA (mkH (-1) 5 0))), .val (.bool true)] follows (by kernel_rfl) rfl ?hAx5 (opsA_cons ?o0x5 (opsA_cons ?o1x5 (opsA_cons ?o2x5 (opsA_cons ?o3x5 (opsA_cons ?o4x5 (opsA_cons ?o5x5 (opsA_cons ?o6x5 (opsA_cons ?o7x5 (opsA_cons ?o8x5 (opsA_cons ?o9x5 (opsA_cons ?o10x5 (opsA_cons ?o11x5 (opsA_cons ?o12x5 (opsA_cons ?o13x5 (opsA_cons ?o14x5 opsA_nil))))))))))))))) ?restx5
  case hAx5 =>
    intro ptrs
    simp only [full, foldSlots, filledE, postE, List.foldl_cons, List.foldl_nil, List.getD_cons_zero, List.getD_cons_succ, fill_val, List.set_cons_zero, List.set_cons_succ]
    exact rfl
  case o0x5 => exact fun _ _ hw _ => opE_value (v := .agg (hdA (mkH 1 3 1))) rfl (ldH0 _ rfl g1 rfl (hw.has kg1))
  case o1x5 =>
    intro ptrs w' hw hE
    exact opE_call (.val (.agg (idA 3))) rfl _ 22 Try.call22 rfl rfl _ rfl [.int .u8 3] rfl ((n_any 3 (by decide) _).mono fun e w' ⟨he, hg⟩ => ⟨_, he, hg, rfl⟩)
  case o2x5 => exact fun _ _ _ _ => opE_value (v := .agg (hdA (mkH 1 3 1))) rfl (run_bd 26 _ rfl [(0, .int .i64 1), (1, .agg (idA 3)), (2, .int .i64 1)] rfl _ (bdH012 _ _ _ _))
  case o3x5 => exact fun _ _ _ _ => opE_value (v := .bool true) rfl (run_eqH _ _ _ rfl _ _ rfl rfl (mkH_ok ⟨by decide, by decide⟩ (by decide) ⟨by decide, by decide⟩) (mkH_ok ⟨by decide, by decide⟩ (by decide) ⟨by decide, by decide⟩) true (eqH_self _))
  case o4x5 => exact fun _ _ _ _ => opE_move (v := .bool true) _ rfl rfl rfl
  case o5x5 => exact fun _ _ hw _ => opE_value (v := .agg (hdA (mkH 1 3 6))) rfl (ldH0 _ rfl g2 rfl (hw.has kg2))
  case o6x5 =>
    intro ptrs w' hw hE
    exact opE_call (.val (.agg (idA 3))) rfl _ 22 Try.call22 rfl rfl _ rfl [.int .u8 3] rfl ((n_any 3 (by decide) _).mono fun e w' ⟨he, hg⟩ => ⟨_, he, hg, rfl⟩)
  case o7x5 => exact fun _ _ _ _ => opE_value (v := .agg (hdA (mkH 1 3 6))) rfl (run_bd 26 _ rfl [(0, .int .i64 1), (1, .agg (idA 3)), (2, .int .i64 6)] rfl _ (bdH012 _ _ _ _))
  case o8x5 => exact fun _ _ _ _ => opE_value (v := .bool true) rfl (run_eqH _ _ _ rfl _ _ rfl rfl (mkH_ok ⟨by decide, by decide⟩ (by decide) ⟨by decide, by decide⟩) (mkH_ok ⟨by decide, by decide⟩ (by decide) ⟨by decide, by decide⟩) true (eqH_self _))
  case o9x5 => exact fun _ _ _ _ => opE_pick (v := .bool true) _ _ _ rfl rfl true rfl rfl
  case o10x5 => exact fun _ _ _ _ => opE_move (v := .bool true) _ rfl rfl rfl
  case o11x5 => exact fun _ _ hw _ => opE_value (v := .agg (hdA (mkH (-1) 5 0))) rfl (ldH0 _ rfl g3 rfl (hw.has kg3))
  case o12x5 =>
    intro ptrs w' hw hE
    exact opE_call (.val (.agg (idA 5))) rfl _ 22 Try.call22 rfl rfl _ rfl [.int .u8 5] rfl ((n_any 5 (by decide) _).mono fun e w' ⟨he, hg⟩ => ⟨_, he, hg, rfl⟩)
  case o13x5 => exact fun _ _ _ _ => opE_value (v := .agg (hdA (mkH (-1) 5 0))) rfl (run_bd 26 _ rfl [(0, .int .i64 (-1)), (1, .agg (idA 5))] rfl _ (bdH01 _ _ _))
  case o14x5 => exact fun _ _ _ _ => opE_value (v := .bool true) rfl (run_eqH _ _ _ rfl _ _ rfl rfl (mkH_ok ⟨by decide, by decide⟩ (by decide) ⟨by decide, by decide⟩) (mkH_ok ⟨by decide, by decide⟩ (by decide) ⟨by decide, by decide⟩) true (eqH_self _))
  intro ptrs w20 GD hxE
  simp only [List.drop_succ_cons, List.drop_zero]
  replace kg1 := GD.has kg1
  replace kg2 := GD.has kg2
  replace kg3 := GD.has kg3
  replace HR1 := HR1.gro ((Gro.refl _).drew.trans GD)
  replace HR2 := HR2.gro ((Gro.refl _).drew.trans GD)
  replace HR3 := HR3.gro ((Gro.refl _).drew.trans GD)
  replace GG := GG.drew.trans GD
  clear GD
  refine s_val 36 rfl rfl (.bool true) (rfl) ?_
  refine nr ?_; intro U h; simp only [z0, z1] at h; subst h
  refine s_val 0 rfl rfl (.bool true) (rfl) ?_
  refine nr ?_; intro U h; simp only [z0] at h; subst h
  refine wpList_nil ?_
  refine then_n ?_
  refine wp_ret ?_
  refine bodyPost_ret (results_tmp Try.results11 _ _ _) rfl ?_
  exact ⟨rfl, GG⟩
end Go.Proofs.Ytljihaihhnamfaa
