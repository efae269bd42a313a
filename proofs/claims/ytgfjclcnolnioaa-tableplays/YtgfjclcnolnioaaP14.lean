/- Each entry is found by its neighbours and by its ends. -/
import Derived.Test.YtgfjclcnolnioaaP13
namespace Go.Proofs.Ytgfjclcnolnioaa
open Classical
open Go.RowKit Go.Maps

theorem opX_apE {ops : Array Oper} {o : Oper} {A : Act} {w : World} {R : World → Prop} (kk : PostE) (hw : Region.wanted o (yielded ops A.tmps) = true) (s x : Operand) (ho : o.op = .call { callee := .builtin .append, args := #[s, x], argTypes := #[41, 41] }) {B : Nat} {ao : Option Addr} {cap : Nat} {l : List En} (hs : A.eval s = .slice ao l.length cap) (hown : OE w B ao cap l)
    {ao' : Option Addr} {cap' : Nat} {l' : List En} (hx : A.eval x = .slice ao' l'.length cap') (hsrc : RE w ao' cap' l') (hb : l.length + l'.length ≤ 1000000) (hB : B ≤ w.heap.size)
    (H : ∀ ao2 cap2 w', OE w' B ao2 cap2 (l ++ l') → GroS (blk ao) w w' → (∀ k ∈ blk ao, B ≤ k) → R w' ∧ kk.p (.slice ao2 (l ++ l').length cap2) w') : OpX Try.prog ops R kk o A w := by
  obtain ⟨ao2, cap2, w', hr, h1, h2, _, _⟩ := run_appY rE o.type w hown.own hsrc.xc (by omega) (by decide) hB
  rw [← flE_app, ← List.length_append] at h1
  rw [← List.length_append] at hr
  exact ⟨hw, by rw [exec_app s x ho hs hx hr]; exact H ao2 cap2 w' ⟨h1, hown.all.app hsrc.all⟩ h2 hown.own.base⟩
def ownB (B : Nat) (L : List En) : PostE := PostE.ex (fun v x => ∃ ao cap, v = .slice ao L.length cap ∧ OE x B ao cap L) (fun _ _ _ G ⟨a, c, h1, h2⟩ => ⟨a, c, h1, h2.gro G⟩)
theorem fill_ownB (B : Nat) (L : List En) (v : Value) : (ownB B L).fill v = v := rfl
/-- How many entries go over the first neighbours. -/
def vsum (L : List En) : Nat → Nat
  | 0 => 0
  | i + 1 => vsum L i + (L.filter (viaF (((i : Nat) : Int) - 1))).length
def osum (na nb : Int) : Nat → Nat
  | 0 => 0
  | i + 1 => osum na nb i + if (decide (0 ≤ ((i : Nat) : Int) - 1) && (decide (na = ((i : Nat) : Int) - 1) || decide (nb = ((i : Nat) : Int) - 1))) = true then 1 else 0
def ucnt (x : En) : Nat := (if 0 ≤ x.na then 1 else 0) + (if 0 ≤ x.nb then 1 else 0)
theorem vsum_cons (x : En) (L : List En) : ∀ i, vsum (x :: L) i = osum x.na x.nb i + vsum L i
  | 0 => rfl
  | i + 1 => by
    show vsum (x :: L) i + _ = (osum x.na x.nb i + _) + (vsum L i + _)
    rw [vsum_cons x L i, List.filter_cons]
    have e : viaF (((i : Nat) : Int) - 1) x = (decide (0 ≤ ((i : Nat) : Int) - 1) && (decide (x.na = ((i : Nat) : Int) - 1) || decide (x.nb = ((i : Nat) : Int) - 1))) := rfl
    rw [e]
    split
    · rw [List.length_cons]; omega
    · omega
theorem vsum_nil : ∀ i, vsum [] i = 0
  | 0 => rfl
  | i + 1 => by show vsum [] i + 0 = 0; rw [vsum_nil i]
theorem osum_8 (na nb : Int) (h1 : -1 ≤ na ∧ na < 6) (h2 : -1 ≤ nb ∧ nb < 6) (h3 : na ≠ nb) : osum na nb 8 = (if 0 ≤ na then 1 else 0) + (if 0 ≤ nb then 1 else 0) := by
  have e1 : na = -1 ∨ na = 0 ∨ na = 1 ∨ na = 2 ∨ na = 3 ∨ na = 4 ∨ na = 5 := by omega
  have e2 : nb = -1 ∨ nb = 0 ∨ nb = 1 ∨ nb = 2 ∨ nb = 3 ∨ nb = 4 ∨ nb = 5 := by omega
  rcases e1 with rfl | rfl | rfl | rfl | rfl | rfl | rfl <;> rcases e2 with rfl | rfl | rfl | rfl | rfl | rfl | rfl <;> first | exact absurd rfl h3 | decide
theorem vsum_all : ∀ L : List En, (∀ x ∈ L, rgt x = true) → vsum L 8 = (L.map ucnt).sum
  | [], _ => vsum_nil 8
  | x :: L, h => by
    obtain ⟨_, h1, h2, h3⟩ := rgt_iff.1 (h x List.mem_cons_self)
    rw [vsum_cons, osum_8 _ _ h1 h2 h3, vsum_all L fun y hy => h y (List.mem_cons_of_mem _ hy), List.map_cons, List.sum_cons]
    rfl
theorem usum_le : ∀ L : List En, (L.map ucnt).sum ≤ 2 * L.length
  | [] => Nat.le_refl _
  | x :: L => by
    have := usum_le L
    have h : ucnt x ≤ 2 := by unfold ucnt; split <;> split <;> omega
    rw [List.map_cons, List.sum_cons, List.length_cons]
    omega
theorem usum_step (L : List En) (j : Nat) (hj : j < L.length) : ((L.take (j + 1)).map ucnt).sum = ((L.take j).map ucnt).sum + ucnt (L.getD j zE) := by
  have hg : L.getD j zE = L[j] := by simp [List.getD_eq_getElem?_getD, hj]
  rw [List.take_add_one, List.getElem?_eq_getElem hj, Option.toList_some, List.map_append, List.sum_append, hg]
  simp
def eqc (x : En) (l : List En) : Nat := l.countP fun y => eqE y x
theorem eqc_step (x : En) (M : List En) (k : Nat) (hk : k < M.length) : eqc x (M.take (k + 1)) = eqc x (M.take k) + if M.getD k zE = x then 1 else 0 := by
  have hg : M.getD k zE = M[k] := by simp [List.getD_eq_getElem?_getD, hk]
  unfold eqc
  rw [List.take_add_one, List.getElem?_eq_getElem hk, Option.toList_some, List.countP_append, hg]
  by_cases e : M[k] = x
  · simp [e]
  · simp [e]
theorem eqc_1 {x : En} : ∀ {l : List En}, l.Nodup → x ∈ l → eqc x l = 1
  | [], _, h => by cases h
  | y :: r, hn, h => by
    rw [List.nodup_cons] at hn
    unfold eqc
    rw [List.countP_cons]
    by_cases e : y = x
    · have h0 : r.countP (fun y => eqE y x) = 0 := by
        rw [List.countP_eq_zero]
        intro z hz he
        have : z = x := by simpa using he
        exact hn.1 (by rw [e, ← this]; exact hz)
      rw [h0, e]
      simp
    · have hr : x ∈ r := (List.mem_cons.1 h).resolve_left (fun e2 => e e2.symm)
      have := eqc_1 hn.2 hr
      unfold eqc at this
      rw [this]
      simp [e]
theorem eqc_le (x : En) (l : List En) (k : Nat) : eqc x (l.take k) ≤ k := Nat.le_trans List.countP_le_length (by rw [List.length_take]; omega)
theorem eqc_2 {L : List En} (hn : KN L) {x : En} (hx : x ∈ L) : eqc x (L.filter (toF x.a) ++ L.filter (toF x.b)) = 2 := by
  have h1 : eqc x (L.filter (toF x.a)) = 1 := eqc_1 (List.Nodup.sublist List.filter_sublist hn.nodup) (List.mem_filter.2 ⟨hx, by simp [toF]⟩)
  have h2 : eqc x (L.filter (toF x.b)) = 1 := eqc_1 (List.Nodup.sublist List.filter_sublist hn.nodup) (List.mem_filter.2 ⟨hx, by simp [toF]⟩)
  unfold eqc at *
  rw [List.countP_append, h1, h2]
theorem getD_in {L : List En} {j : Nat} (hj : j < L.length) : L.getD j zE ∈ L := by
  have hg : L.getD j zE = L[j] := by simp [List.getD_eq_getElem?_getD, hj]
  rw [hg]
  exact List.getElem_mem hj
theorem via_nb {L : List En} {n : Int} {j : Nat} (hj : j < (L.filter (viaF n)).length) (h : ¬ ((L.filter (viaF n)).getD j zE).na = n) : ((L.filter (viaF n)).getD j zE).nb = n := by
  have := (List.mem_filter.1 (getD_in hj)).2
  unfold viaF at this
  simp only [Bool.and_eq_true, Bool.or_eq_true, decide_eq_true_eq] at this
  exact this.2.resolve_left h
set_option maxRecDepth 100000 in
set_option maxHeartbeats 4000000 in
theorem tableParts_any (w : World) (ao : Option Addr) (cap : Nat) (l : List En) (H : RE w ao cap l) (hl : l.length ≤ maxLen) : Calls Try.prog 6 #[.slice ao l.length cap] w (fun e w' => e = .returned (.bool true) ∧ Gro w w') := by
  refine s_enter Try.func6 rfl Try.ntmps6 [.slice ao l.length cap] [.slice ao l.length cap, undef, undef, undef, undef, undef, undef, undef, undef, undef, undef, undef, undef, undef, undef, undef, undef, undef, undef, undef, undef, undef, undef, undef, undef, undef, undef, undef, undef, undef, undef, undef, undef, undef, undef, undef, undef, undef, undef, undef, undef, undef, undef, undef, undef, undef, undef, undef, undef, undef, undef, undef, undef, undef, undef, undef, undef, undef, undef, undef, undef, undef, undef, undef, undef, undef, undef, undef, undef, undef, undef, undef, undef, undef, undef, undef, undef, undef, undef, undef, undef, undef, undef, undef, undef, undef, undef, undef, undef, undef, undef, undef, undef, undef, undef, undef, undef, undef, undef, undef, undef] rfl ?_
  have GG := Gro.refl w
  rw [maxL] at hl
  refine wp_seq ?_
  refine wp_region_lit ?_
  refine s_val 2 rfl rfl (.bool false) (rfl) ?_
  refine nr ?_; intro U h; simp only [z0, z1] at h; subst h
  refine wpList_nil ?_
  refine then_n ?_
  refine wp_seq ?_
  refine wp_region_lit ?_
  refine s_callx 16 rfl rfl _ 9 Try.call9 rfl rfl _ rfl [.int .i64 128] rfl (new_any 128 _) (by rintro _ _ ⟨_, _, he, _⟩; exact ⟨_, he⟩) ?_
  rintro v w1 ⟨t, b, he, G, kt, HTt, h1t, h2t⟩
  cases he
  have bt := Nat.le_trans GG.size h1t
  have bb := Nat.le_trans GG.size h2t
  clear h1t h2t
  replace GG := GG.trans G
  clear G
  refine nr ?_; intro U h; simp only [z0, z1] at h; subst h
  refine s_val 3 rfl rfl (.pointer (some ⟨t, 0, none⟩)) (rfl) ?_
  refine nr ?_; intro U h; simp only [z0, z1] at h; subst h
  refine wpList_nil ?_
  refine then_n ?_
  refine wp_seq ?_
  refine wp_seq ?_
  refine wp_region_opq ?_
  intro OPS hY
  have y2 := hY 2 19 rfl
  clear hY
  refine s_val 17 rfl rfl (.pointer (some ⟨t, 0, none⟩)) (rfl) ?_
  refine nr ?_; intro U h; simp only [z0, z1] at h; subst h
  refine s_val 18 rfl rfl (.bool false) (run_eqnp 23 _ _ _ rfl _ rfl rfl Try.underlying23 _) ?_
  refine nr ?_; intro U h; simp only [z0, z1] at h; subst h
  refine s_val 19 rfl rfl (.bool false) (rfl) ?_
  refine nr ?_; intro U h; simp only [z0, z1] at h; subst h
  refine s_gcallvY 20 rfl rfl y2 rfl _ 11 Try.call11 rfl rfl _ rfl [] rfl (fixed_any _) ?_
  intro w2 G
  replace kt := G.has kt
  replace HTt := HTt.gro G
  replace GG := GG.trans G
  clear G
  refine nr ?_; intro U h; simp only [z0, z1] at h; subst h
  refine s_gvalY 21 rfl rfl y2 rfl (.bool false) (run_nt _ _ rfl true rfl) ?_
  refine nr ?_; intro U h; simp only [z0, z1] at h; subst h
  refine s_val 22 rfl rfl (.bool false) (rfl) ?_
  refine nr ?_; intro U h; simp only [z0, z1] at h; subst h
  refine wpList_nil ?_
  refine then_n ?_
  refine wp_cond_false rfl ?_
  refine wp_skip ?_
  refine then_n ?_
  refine wp_seq ?_
  refine wp_seq ?_
  refine wp_region_lit ?_
  refine s_val 23 rfl rfl (.slice ao l.length cap) (rfl) ?_
  refine nr ?_; intro U h; simp only [z0, z1] at h; subst h
  refine s_val 24 rfl rfl (.int .i64 ((l.length : Nat) : Int)) (run_len Try.underlying41 _ rfl _ _ _ rfl _) ?_
  refine nr ?_; intro U h; simp only [z0, z1] at h; subst h
  refine s_val 25 rfl rfl (.int .i64 0) (rfl) ?_
  refine nr ?_; intro U h; simp only [z0, z1] at h; subst h
  refine wpList_nil ?_
  refine then_n ?_
  refine wp_block ?_
  refine wp_loopN (fun mz az wv => ∃ (i : Nat) (L : List En) (us1 : Nat → Value), mz = l.length + 1 - i ∧ az = ⟨[.slice ao l.length cap, undef, .bool false, .pointer (some ⟨t, 0, none⟩), undef, us1 0, undef, undef, undef, undef, undef, undef, undef, undef, undef, undef, .pointer (some ⟨t, 0, none⟩), .pointer (some ⟨t, 0, none⟩), .bool false, .bool false, .bool true, .bool false, .bool false, .slice ao l.length cap, .int .i64 ((l.length : Nat) : Int), .int .i64 ((i : Nat) : Int), us1 1, us1 2, us1 3, us1 4, us1 5, us1 6, us1 7, undef, undef, undef, undef, undef, undef, undef, undef, undef, undef, undef, undef, undef, undef, undef, undef, undef, undef, undef, undef, undef, undef, undef, undef, undef, undef, undef, undef, undef, undef, undef, undef, undef, undef, undef, undef, undef, undef, undef, undef, undef, undef, undef, undef, undef, undef, undef, undef, undef, undef, undef, undef, undef, undef, undef, undef, undef, undef, undef, undef, undef, undef, undef, undef, undef, undef, undef, undef].toArray, []⟩ ∧ i ≤ l.length ∧ Gro w wv ∧ wv.heap[t]? = some (.cells (tbA 128 b) 59 (0, 0)) ∧ TM wv b L ∧ TI 128 L) ?_ _ ⟨0, [], (fun kz => ([undef, undef, undef, undef, undef, undef, undef, undef] : List Value).getD kz undef), rfl, rfl, Nat.zero_le _, GG, kt, HTt, TI.nil 128⟩
  clear GG kt HTt
  rintro mz az wv ⟨i, L, us1, rfl, rfl, hi, GG, kt, HTt, hTI⟩
  refine wp_seq ?_
  refine wp_region_lit ?_
  cases hj1 : decide (((i : Nat) : Int) < ((l.length : Nat) : Int))
  · have hje : i = l.length := by have := of_decide_eq_false hj1; omega
    refine s_val 26 rfl rfl (.bool false) (run_lssT 3 _ _ _ rfl ((i : Nat) : Int) ((l.length : Nat) : Int) rfl rfl false hj1 _) ?_
    refine nr ?_; intro U h; simp only [z0, z1] at h; subst h
    refine wpList_nil ?_
    refine then_n ?_
    refine wp_seq ?_
    refine wp_cond_false rfl ?_
    refine wp_exit ?_
    refine then_x ?_
    refine then_x ?_
    refine blk_x ?_
    refine then_n ?_
    refine wp_seq ?_
    refine wp_region_lit ?_
    refine s_val 6 rfl rfl (.int .i64 0) (rfl) ?_
    refine nr ?_; intro U h; simp only [z0, z1] at h; subst h
    refine wpList_nil ?_
    refine then_n ?_
    refine wp_seq ?_
    refine wp_seq ?_
    refine wp_region_lit ?_
    refine s_val 7 rfl rfl (.int .i64 (-1)) (rfl) ?_
    refine nr ?_; intro U h; simp only [z0, z1] at h; subst h
    refine wpList_nil ?_
    refine then_n ?_
    refine wp_block ?_
    have hLf := hTI.fit
    refine wp_loopN (fun mz az wx => ∃ (p : Nat) (v : Nat) (n : Int) (us2 : Nat → Value), mz = 8 - p + 1 ∧ az = ⟨[.slice ao l.length cap, undef, us2 0, .pointer (some ⟨t, 0, none⟩), undef, us1 0, .int .i64 ((v : Nat) : Int), .int .i64 n, undef, us2 1, undef, undef, undef, undef, undef, undef, .pointer (some ⟨t, 0, none⟩), .pointer (some ⟨t, 0, none⟩), .bool false, .bool false, .bool true, .bool false, .bool false, .slice ao l.length cap, .int .i64 ((l.length : Nat) : Int), .int .i64 ((i : Nat) : Int), .bool false, us1 2, us1 3, us1 4, us1 5, us1 6, us1 7, us2 2, us2 3, us2 4, us2 5, us2 6, us2 7, us2 8, us2 9, us2 10, us2 11, us2 12, us2 13, us2 14, us2 15, us2 16, us2 17, us2 18, us2 19, us2 20, us2 21, us2 22, us2 23, us2 24, us2 25, us2 26, undef, undef, undef, undef, undef, undef, undef, undef, undef, undef, undef, undef, undef, undef, undef, undef, undef, undef, undef, undef, undef, undef, undef, undef, undef, undef, undef, undef, undef, undef, undef, undef, undef, undef, undef, undef, undef, undef, undef, undef, undef, undef, undef].toArray, []⟩ ∧ n = ((p : Nat) : Int) - 1 ∧ p ≤ 8 ∧ v = vsum L p ∧ v ≤ 128 * p ∧ Gro w wx ∧ wx.heap[t]? = some (.cells (tbA 128 b) 59 (0, 0)) ∧ TM wx b L) ?_ _ ⟨0, 0, -1, (fun kz => ([.bool false, undef, undef, undef, undef, undef, undef, undef, undef, undef, undef, undef, undef, undef, undef, undef, undef, undef, undef, undef, undef, undef, undef, undef, undef, undef, undef] : List Value).getD kz undef), rfl, rfl, rfl, by decide, rfl, Nat.le_refl _, GG, kt, HTt⟩
    clear GG kt HTt
    rintro mz az wx ⟨p, v, n, us2, rfl, rfl, hn, hi8, hv, hvb, GG, kt, HTt⟩
    refine wp_seq ?_
    refine wp_seq ?_
    refine wp_region_lit ?_
    refine s_val 33 rfl rfl (.int .i64 n) (rfl) ?_
    refine nr ?_; intro U h; simp only [z0, z1] at h; subst h
    cases hi1 : decide (n < 7)
    · refine s_val 34 rfl rfl (.bool false) (run_lssT 3 _ _ _ rfl n 7 rfl rfl false hi1 _) ?_
      refine nr ?_; intro U h; simp only [z0, z1] at h; subst h
      refine wpList_nil ?_
      refine then_n ?_
      refine wp_cond_false rfl ?_
      refine wp_exit ?_
      refine then_x ?_
      refine then_x ?_
      refine blk_x ?_
      refine then_n ?_
      refine wp_seq ?_
      refine wp_region_lit ?_
      refine s_val 10 rfl rfl (.int .i64 0) (rfl) ?_
      refine nr ?_; intro U h; simp only [z0, z1] at h; subst h
      refine wpList_nil ?_
      refine then_n ?_
      refine wp_seq ?_
      refine wp_seq ?_
      refine wp_region_lit ?_
      refine s_val 58 rfl rfl (.pointer (some ⟨t, 0, none⟩)) (rfl) ?_
      refine nr ?_; intro U h; simp only [z0, z1] at h; subst h
      refine s_callx 59 rfl rfl _ 26 Try.call26 rfl rfl _ rfl [.pointer (some ⟨t, 0, none⟩)] rfl (all_any _ t b 128 L (kt) (HTt) hTI.ris (Nat.le_trans hTI.fit (by decide))) (by rintro _ _ ⟨_, _, he, _⟩; exact ⟨_, he⟩) ?_
      rintro v w3 ⟨ao12, cap12, he, G, HO12⟩
      cases he
      replace HO12 := HO12.mono GG.size
      replace kt := G.has kt
      replace HTt := HTt.gro G
      replace GG := GG.trans G
      clear G
      have HR12 := HO12.re
      refine nr ?_; intro U h; simp only [z0, z1] at h; subst h
      refine s_val 60 rfl rfl (.int .i64 ((L.length : Nat) : Int)) (run_len Try.underlying41 _ rfl _ _ _ rfl _) ?_
      refine nr ?_; intro U h; simp only [z0, z1] at h; subst h
      refine s_val 61 rfl rfl (.int .i64 0) (rfl) ?_
      refine nr ?_; intro U h; simp only [z0, z1] at h; subst h
      refine wpList_nil ?_
      refine then_n ?_
      refine wp_block ?_
      have hi8e : p = 8 := by have := of_decide_eq_false hi1; omega
      subst hi8e
      refine wp_loopN (fun mz az wz => ∃ (j : Nat) (u : Nat) (us3 : Nat → Value), mz = L.length + 1 - j ∧ az = ⟨[.slice ao l.length cap, undef, us3 0, .pointer (some ⟨t, 0, none⟩), undef, us1 0, .int .i64 ((v : Nat) : Int), .int .i64 n, undef, us2 1, .int .i64 ((u : Nat) : Int), undef, us3 1, us3 2, undef, us3 3, .pointer (some ⟨t, 0, none⟩), .pointer (some ⟨t, 0, none⟩), .bool false, .bool false, .bool true, .bool false, .bool false, .slice ao l.length cap, .int .i64 ((l.length : Nat) : Int), .int .i64 ((i : Nat) : Int), .bool false, us1 2, us1 3, us1 4, us1 5, us1 6, us1 7, .int .i64 n, .bool false, us2 4, us2 5, us2 6, us2 7, us2 8, us2 9, us2 10, us2 11, us2 12, us2 13, us2 14, us2 15, us2 16, us2 17, us2 18, us2 19, us2 20, us2 21, us2 22, us2 23, us2 24, us2 25, us2 26, .pointer (some ⟨t, 0, none⟩), .slice ao12 L.length cap12, .int .i64 ((L.length : Nat) : Int), .int .i64 ((j : Nat) : Int), us3 4, us3 5, us3 6, us3 7, us3 8, us3 9, us3 10, us3 11, us3 12, us3 13, us3 14, us3 15, us3 16, us3 17, us3 18, us3 19, us3 20, us3 21, us3 22, us3 23, us3 24, us3 25, us3 26, us3 27, us3 28, us3 29, us3 30, us3 31, us3 32, us3 33, us3 34, us3 35, us3 36, us3 37, us3 38, us3 39, undef, undef, undef].toArray, []⟩ ∧ j ≤ L.length ∧ u = ((L.take j).map ucnt).sum ∧ u ≤ 2 * j ∧ Gro w wz ∧ wz.heap[t]? = some (.cells (tbA 128 b) 59 (0, 0)) ∧ TM wz b L ∧ RE wz ao12 cap12 L) ?_ _ ⟨0, 0, (fun kz => ([us2 0, undef, undef, undef, undef, undef, undef, undef, undef, undef, undef, undef, undef, undef, undef, undef, undef, undef, undef, undef, undef, undef, undef, undef, undef, undef, undef, undef, undef, undef, undef, undef, undef, undef, undef, undef, undef, undef, undef, undef] : List Value).getD kz undef), rfl, rfl, Nat.zero_le _, rfl, Nat.le_refl _, GG, kt, HTt, HR12⟩
      clear GG kt HTt HR12
      rintro mz az wz ⟨j, u, us3, rfl, rfl, hj, hu, hub, GG, kt, HTt, HR12⟩
      refine wp_seq ?_
      refine wp_region_lit ?_
      cases hs1 : decide (((j : Nat) : Int) < ((L.length : Nat) : Int))
      · have hse : j = L.length := by have := of_decide_eq_false hs1; omega
        refine s_val 62 rfl rfl (.bool false) (run_lssT 3 _ _ _ rfl ((j : Nat) : Int) ((L.length : Nat) : Int) rfl rfl false hs1 _) ?_
        refine nr ?_; intro U h; simp only [z0, z1] at h; subst h
        refine wpList_nil ?_
        refine then_n ?_
        refine wp_seq ?_
        refine wp_cond_false rfl ?_
        refine wp_exit ?_
        refine then_x ?_
        refine then_x ?_
        refine blk_x ?_
        refine then_n ?_
        refine wp_seq ?_
        refine wp_region_lit ?_
        refine s_val 98 rfl rfl (.int .i64 ((v : Nat) : Int)) (rfl) ?_
        refine nr ?_; intro U h; simp only [z0, z1] at h; subst h
        refine s_val 99 rfl rfl (.int .i64 ((u : Nat) : Int)) (rfl) ?_
        refine nr ?_; intro U h; simp only [z0, z1] at h; subst h
        refine s_val 100 rfl rfl (.bool true) (run_eq_k 3 .i64 _ _ _ rfl Try.underlying3 ((v : Nat) : Int) ((u : Nat) : Int) rfl rfl true (decide_eq_true (by rw [hv, hu, hse, List.take_length, vsum_all L hTI.rgt])) _) ?_
        refine nr ?_; intro U h; simp only [z0, z1] at h; subst h
        refine s_val 2 rfl rfl (.bool true) (rfl) ?_
        refine nr ?_; intro U h; simp only [z0, z1] at h; subst h
        refine wpList_nil ?_
        refine then_n ?_
        refine wp_ret ?_
        refine bodyPost_ret (results_tmp Try.results6 _ _ _) rfl ?_
        exact ⟨rfl, GG⟩
      · have hsl : j < L.length := by have := of_decide_eq_true hs1; omega
        refine s_val 62 rfl rfl (.bool true) (run_lssT 3 _ _ _ rfl ((j : Nat) : Int) ((L.length : Nat) : Int) rfl rfl true hs1 _) ?_
        refine nr ?_; intro U h; simp only [z0, z1] at h; subst h
        refine wpList_nil ?_
        refine then_n ?_
        refine wp_seq ?_
        refine wp_cond_true rfl ?_
        refine wp_skip ?_
        refine then_n ?_
        refine wp_seq ?_
        refine wp_block ?_
        refine wp_seq ?_
        refine wp_region_lit ?_
        refine s_val 63 rfl rfl (.pointer (pE ao12 j 0)) (run_ixE (HR12) _ _ rfl rfl j rfl (by omega)) ?_
        refine nr ?_; intro U h; simp only [z0, z1] at h; subst h
        refine s_val 64 rfl rfl (.agg (enA (L.getD j zE))) (run_ldE (HR12) _ rfl j rfl (by omega)) ?_
        refine nr ?_; intro U h; simp only [z0, z1] at h; subst h
        refine s_alloc 12 rfl rfl 33 rfl _ zero33 (enA zE) rfl ?_
        intro w4 g1 G eg1 kg1
        have bg1 := size_base GG eg1
        have dtg1 := lt_new kt eg1
        have dHTtg1 := HTt.ne eg1
        have dHR12g1 := HR12.ne eg1
        replace kt := G.has kt
        replace HTt := HTt.gro G
        replace HR12 := HR12.gro G
        replace GG := GG.trans G
        clear G
        clear eg1
        refine nr ?_; intro U h; simp only [z0, z1] at h; subst h
        refine s_store rfl rfl 33 _ _ rfl g1 0 rfl (.agg (enA (L.getD j zE))) rfl 33 _ kg1 (enA (L.getD j zE)) rfl (si33' _) (enA_fit _ _) (enA_one _) (enA (L.getD j zE)) (splice_whole _ _ (enA_sz _ _)) ?_
        intro w5 St
        have kS := kg1
        replace kt := St.has (by omega) kt
        replace HTt := HTt.st St dHTtg1
        replace HR12 := HR12.st St dHR12g1
        replace GG := GG.store St bg1
        replace kg1 := St.new
        clear St
        refine wpList_nil ?_
        refine then_n ?_
        refine wp_seq ?_
        refine wp_seq ?_
        refine wp_region_lit ?_
        refine s_val 65 rfl rfl (.pointer (some ⟨g1, 49, none⟩)) (run_fld 33 _ 3 rfl g1 0 rfl 49 (by kernel_rfl)) ?_
        refine nr ?_; intro U h; simp only [z0, z1] at h; subst h
        refine s_val 66 rfl rfl (.int .i64 ((L.getD j zE).na)) (ldEna _ rfl g1 rfl (kg1)) ?_
        refine nr ?_; intro U h; simp only [z0, z1] at h; subst h
        cases hna : decide (0 ≤ (L.getD j zE).na)
        · refine s_val 67 rfl rfl (.bool false) (run_geqT 3 _ _ _ rfl ((L.getD j zE).na) 0 rfl rfl false hna _) ?_
          refine nr ?_; intro U h; simp only [z0, z1] at h; subst h
          refine wpList_nil ?_
          refine then_n ?_
          refine wp_cond_false rfl ?_
          refine wp_skip ?_
          refine then_n ?_
          refine wp_seq ?_
          refine wp_seq ?_
          refine wp_region_lit ?_
          refine s_val 70 rfl rfl (.pointer (some ⟨g1, 50, none⟩)) (run_fld 33 _ 4 rfl g1 0 rfl 50 (by kernel_rfl)) ?_
          refine nr ?_; intro U h; simp only [z0, z1] at h; subst h
          refine s_val 71 rfl rfl (.int .i64 ((L.getD j zE).nb)) (ldEnb _ rfl g1 rfl (kg1)) ?_
          refine nr ?_; intro U h; simp only [z0, z1] at h; subst h
          cases hnb : decide (0 ≤ (L.getD j zE).nb)
          · refine s_val 72 rfl rfl (.bool false) (run_geqT 3 _ _ _ rfl ((L.getD j zE).nb) 0 rfl rfl false hnb _) ?_
            refine nr ?_; intro U h; simp only [z0, z1] at h; subst h
            refine wpList_nil ?_
            refine then_n ?_
            refine wp_cond_false rfl ?_
            refine wp_skip ?_
            refine then_n ?_
            refine wp_seq ?_
            refine wp_region_lit ?_
            refine s_val 13 rfl rfl (.int .i64 0) (rfl) ?_
            refine nr ?_; intro U h; simp only [z0, z1] at h; subst h
            refine wpList_nil ?_
            refine then_n ?_
            refine wp_seq ?_
            refine wp_seq ?_
            obtain ⟨BB, hB⟩ : ∃ B, w5.heap.size = B := ⟨_, rfl⟩
            have hwB : w.heap.size ≤ BB := hB ▸ GG.size
            have hl1 := List.length_filter_le (toF (L.getD j zE).a) L
            have hl2 := List.length_filter_le (toF (L.getD j zE).b) L
            have hMM : (L.filter (toF (L.getD j zE).a) ++ L.filter (toF (L.getD j zE).b)).length ≤ 256 := by rw [List.length_append]; omega
            have hxL := getD_in hsl
            have hxo := HTt.all _ hxL
            refine wp_region_pm (A := ?Ax3) (fun _ x => Gro w5.drew x) 11 [(0, 75), (1, 76), (2, 77), (3, 78), (4, 79), (5, 80), (6, 81), (7, 82), (8, 83), (9, 84), (10, 85)] [.val (.pointer (some ⟨t, 0, none⟩)), .val (.pointer (some ⟨g1, 17, none⟩)), .val (.agg (idA (L.getD j zE).a)), ownB BB (L.filter (toF (L.getD j zE).a)), .val (.pointer (some ⟨t, 0, none⟩)), .val (.pointer (some ⟨g1, 33, none⟩)), .val (.agg (idA (L.getD j zE).b)), ownB BB (L.filter (toF (L.getD j zE).b)), ownB BB (L.filter (toF (L.getD j zE).a) ++ L.filter (toF (L.getD j zE).b)), .val (.int .i64 (((L.filter (toF (L.getD j zE).a) ++ L.filter (toF (L.getD j zE).b)).length : Nat) : Int)), .val (.int .i64 0)] [(8, 3), (8, 7)] [8] follows (by kernel_rfl) rfl (by kernel_rfl) (by decide) (Gro.refl _) ?hAx3 (opsM_g (fun _ _ _ h _ g => h.trans g) ?p0x3 (opsM_g (fun _ _ _ h _ g => h.trans g) ?p1x3 (opsM_g (fun _ _ _ h _ g => h.trans g) ?p2x3 (opsM_g (fun _ _ _ h _ g => h.trans g) ?p3x3 (opsM_g (fun _ _ _ h _ g => h.trans g) ?p4x3 (opsM_g (fun _ _ _ h _ g => h.trans g) ?p5x3 (opsM_g (fun _ _ _ h _ g => h.trans g) ?p6x3 (opsM_g (fun _ _ _ h _ g => h.trans g) ?p7x3 (opsM_w ?p8x3 (opsM_g (fun _ _ _ h _ g => h.trans g) ?p9x3 (opsM_g (fun _ _ _ h _ g => h.trans g) ?p10x3 opsM_nil))))))))))) ?restx3
            case hAx3 =>
              intro ptrs
              simp only [full, foldSlots, filledE, postE, List.foldl_cons, List.foldl_nil, List.getD_cons_zero, List.getD_cons_succ, fill_val, fill_ownB, List.set_cons_zero, List.set_cons_succ]
              exact rfl
            case p0x3 => exact fun _ _ _ _ _ _ _ _ => opE_move (v := .pointer (some ⟨t, 0, none⟩)) _ rfl rfl rfl
            case p4x3 => exact fun _ _ _ _ _ _ _ _ => opE_move (v := .pointer (some ⟨t, 0, none⟩)) _ rfl rfl rfl
            case p10x3 => exact fun _ _ _ _ _ _ _ _ => opE_move (v := .int .i64 0) _ rfl rfl rfl
            case p1x3 => exact fun _ _ _ _ _ _ _ _ => opE_value (v := .pointer (some ⟨g1, 17, none⟩)) rfl (run_fld 33 _ 1 rfl g1 0 rfl 17 (by kernel_rfl))
            case p5x3 => exact fun _ _ _ _ _ _ _ _ => opE_value (v := .pointer (some ⟨g1, 33, none⟩)) rfl (run_fld 33 _ 2 rfl g1 0 rfl 33 (by kernel_rfl))
            case p2x3 => exact fun _ _ _ hw _ _ _ _ => opE_value (v := .agg (idA (L.getD j zE).a)) rfl (ldEa _ rfl g1 rfl (hw.has kg1))
            case p6x3 => exact fun _ _ _ hw _ _ _ _ => opE_value (v := .agg (idA (L.getD j zE).b)) rfl (ldEb _ rfl g1 rfl (hw.has kg1))
            case p3x3 => exact fun _ _ _ hw _ _ _ _ => opE_call (ownB BB (L.filter (toF (L.getD j zE).a))) rfl _ 21 Try.call21 rfl rfl _ rfl [.pointer (some ⟨t, 0, none⟩), .agg (idA (L.getD j zE).a)] rfl ((to_any _ t b 128 L (hw.has kt) (HTt.gro ((Gro.refl _).drew.trans hw)) (L.getD j zE).a hxo.a hTI.ris (Nat.le_trans hTI.fit (by decide))).mono fun e w' ⟨ao, cap, he, hg, hr⟩ => ⟨_, he, hg, ao, cap, rfl, hr.mono (Nat.le_trans (Nat.le_of_eq hB.symm) hw.size)⟩)
            case p7x3 => exact fun _ _ _ hw _ _ _ _ => opE_call (ownB BB (L.filter (toF (L.getD j zE).b))) rfl _ 21 Try.call21 rfl rfl _ rfl [.pointer (some ⟨t, 0, none⟩), .agg (idA (L.getD j zE).b)] rfl ((to_any _ t b 128 L (hw.has kt) (HTt.gro ((Gro.refl _).drew.trans hw)) (L.getD j zE).b hxo.b hTI.ris (Nat.le_trans hTI.fit (by decide))).mono fun e w' ⟨ao, cap, he, hg, hr⟩ => ⟨_, he, hg, ao, cap, rfl, hr.mono (Nat.le_trans (Nat.le_of_eq hB.symm) hw.size)⟩)
            case p8x3 =>
              intro L9 ptrs x hw _ _ _ hE
              obtain ⟨⟨ao2, cap2, h2, o2⟩, ⟨ao4, cap4, h4, o4⟩, _⟩ := hE
              refine opX_apE (ownB BB (L.filter (toF (L.getD j zE).a) ++ L.filter (toF (L.getD j zE).b))) rfl _ _ rfl (ao := ao2) (cap := cap2) (l := (L.filter (toF (L.getD j zE).a))) h2 o2 (ao' := ao4) (cap' := cap4) (l' := (L.filter (toF (L.getD j zE).b))) h4 o4.re (by omega) (Nat.le_trans (Nat.le_of_eq hB.symm) hw.size) ?_
              intro ao9 cap9 w' HO9 GS hbl
              refine ⟨⟨?_, StM.vals [0, 1, 2, 4, 5, 6, 9, 10] (by kernel_rfl) ⟨⟨_, rfl⟩, ⟨_, rfl⟩, ⟨_, rfl⟩, ⟨_, rfl⟩, ⟨_, rfl⟩, ⟨_, rfl⟩, ⟨_, rfl⟩, ⟨_, rfl⟩, trivial⟩⟩, ao9, cap9, rfl, HO9⟩
              exact GS.gro hw (fun k hk => by have := hbl k hk; exact Nat.le_trans (Nat.le_of_eq hB) this)
            case p9x3 =>
              intro L9 ptrs x hw _ _ _ hE
              obtain ⟨⟨ao8, cap8, h8, o8⟩, _⟩ := hE
              refine opE_value (v := .int .i64 (((L.filter (toF (L.getD j zE).a) ++ L.filter (toF (L.getD j zE).b)).length : Nat) : Int)) rfl (run_len Try.underlying41 _ rfl ao8 _ cap8 ?_ _)
              exact h8
            intro ptrs w6 GD hxE
            simp only [List.drop_succ_cons, List.drop_zero]
            replace kt := GD.has kt
            replace kg1 := GD.has kg1
            replace HTt := HTt.gro ((Gro.refl _).drew.trans GD)
            replace HR12 := HR12.gro ((Gro.refl _).drew.trans GD)
            replace GG := GG.drew.trans GD
            obtain ⟨⟨ao9, cap9, hx9, HM⟩, _⟩ := hxE
            simp only [hx9]
            clear hx9 GD
            refine wpList_nil ?_
            refine then_n ?_
            refine wp_block ?_
            refine wp_loopN (fun mz az wq => ∃ (k : Nat) (c : Nat) (us4 : Nat → Value), mz = (L.filter (toF (L.getD j zE).a) ++ L.filter (toF (L.getD j zE).b)).length + 1 - k ∧ az = ⟨[.slice ao l.length cap, undef, us3 0, .pointer (some ⟨t, 0, none⟩), undef, us1 0, .int .i64 ((v : Nat) : Int), .int .i64 n, undef, us2 1, .int .i64 ((u : Nat) : Int), undef, .pointer (some ⟨g1, 0, none⟩), .int .i64 ((c : Nat) : Int), undef, us4 0, .pointer (some ⟨t, 0, none⟩), .pointer (some ⟨t, 0, none⟩), .bool false, .bool false, .bool true, .bool false, .bool false, .slice ao l.length cap, .int .i64 ((l.length : Nat) : Int), .int .i64 ((i : Nat) : Int), .bool false, us1 2, us1 3, us1 4, us1 5, us1 6, us1 7, .int .i64 n, .bool false, us2 4, us2 5, us2 6, us2 7, us2 8, us2 9, us2 10, us2 11, us2 12, us2 13, us2 14, us2 15, us2 16, us2 17, us2 18, us2 19, us2 20, us2 21, us2 22, us2 23, us2 24, us2 25, us2 26, .pointer (some ⟨t, 0, none⟩), .slice ao12 L.length cap12, .int .i64 ((L.length : Nat) : Int), .int .i64 ((j : Nat) : Int), .bool true, .pointer (pE ao12 j 0), .agg (enA (L.getD j zE)), .pointer (some ⟨g1, 49, none⟩), .int .i64 ((L.getD j zE).na), .bool false, us3 10, us3 11, .pointer (some ⟨g1, 50, none⟩), .int .i64 ((L.getD j zE).nb), .bool false, us3 15, us3 16, .pointer (some ⟨t, 0, none⟩), .pointer (some ⟨g1, 17, none⟩), .agg (idA ((L.getD j zE).a)), ptrs 3, .pointer (some ⟨t, 0, none⟩), .pointer (some ⟨g1, 33, none⟩), .agg (idA (L.getD j zE).b), ptrs 7, .slice ao9 ((L.filter (toF (L.getD j zE).a) ++ L.filter (toF (L.getD j zE).b)).length) cap9, .int .i64 (((L.filter (toF (L.getD j zE).a) ++ L.filter (toF (L.getD j zE).b)).length : Nat) : Int), .int .i64 ((k : Nat) : Int), us4 1, us4 2, us4 3, us4 4, us4 5, us4 6, us4 7, us4 8, us4 9, us3 37, us3 38, us3 39, undef, undef, undef].toArray, []⟩ ∧ k ≤ (L.filter (toF (L.getD j zE).a) ++ L.filter (toF (L.getD j zE).b)).length ∧ c = eqc (L.getD j zE) ((L.filter (toF (L.getD j zE).a) ++ L.filter (toF (L.getD j zE).b)).take k) ∧ Gro w wq ∧ wq.heap[t]? = some (.cells (tbA 128 b) 59 (0, 0)) ∧ TM wq b L ∧ wq.heap[g1]? = some (.cells (enA (L.getD j zE)) 33 (0, 0)) ∧ RE wq ao12 cap12 L ∧ OE wq BB ao9 cap9 (L.filter (toF (L.getD j zE).a) ++ L.filter (toF (L.getD j zE).b))) ?_ _ ⟨0, 0, (fun kz => ([us3 3, us3 28, us3 29, us3 30, us3 31, us3 32, us3 33, us3 34, us3 35, us3 36] : List Value).getD kz undef), rfl, rfl, Nat.zero_le _, rfl, GG, kt, HTt, kg1, HR12, HM⟩
            clear GG kt kg1 HTt HR12 HM
            rintro mz az wq ⟨k, c, us4, rfl, rfl, hk, hc, GG, kt, HTt, kg1, HR12, HM⟩
            have hMl := eqc_le (L.getD j zE) (L.filter (toF (L.getD j zE).a) ++ L.filter (toF (L.getD j zE).b)) k
            have hMb := hMM
            refine wp_seq ?_
            refine wp_region_lit ?_
            cases hk1 : decide (((k : Nat) : Int) < (((L.filter (toF (L.getD j zE).a) ++ L.filter (toF (L.getD j zE).b)).length : Nat) : Int))
            · have hke : k = (L.filter (toF (L.getD j zE).a) ++ L.filter (toF (L.getD j zE).b)).length := by have := of_decide_eq_false hk1; omega
              refine s_val 86 rfl rfl (.bool false) (run_lssT 3 _ _ _ rfl ((k : Nat) : Int) (((L.filter (toF (L.getD j zE).a) ++ L.filter (toF (L.getD j zE).b)).length : Nat) : Int) rfl rfl false hk1 _) ?_
              refine nr ?_; intro U h; simp only [z0, z1] at h; subst h
              refine wpList_nil ?_
              refine then_n ?_
              refine wp_seq ?_
              refine wp_cond_false rfl ?_
              refine wp_exit ?_
              refine then_x ?_
              refine then_x ?_
              refine blk_x ?_
              refine then_n ?_
              refine wp_seq ?_
              refine wp_region_lit ?_
              refine s_val 95 rfl rfl (.int .i64 ((c : Nat) : Int)) (rfl) ?_
              refine nr ?_; intro U h; simp only [z0, z1] at h; subst h
              refine s_val 96 rfl rfl (.bool false) (run_neq_k 3 .i64 _ _ _ rfl Try.underlying3 ((c : Nat) : Int) 2 rfl rfl false (decide_eq_true (by rw [hc, hke, List.take_length, eqc_2 hTI.ris.kn hxL]; rfl)) _) ?_
              refine nr ?_; intro U h; simp only [z0, z1] at h; subst h
              refine wpList_nil ?_
              refine then_n ?_
              refine wp_cond_false rfl ?_
              refine wp_skip ?_
              refine blk_n ?_
              refine then_n ?_
              refine wp_region_lit ?_
              refine s_val 97 rfl rfl (.int .i64 ((j + 1 : Nat) : Int)) (run_addI 3 _ _ _ rfl ((j : Nat) : Int) 1 ((j + 1 : Nat) : Int) rfl rfl (by omega) (by omega) (by omega) _) ?_
              refine nr ?_; intro U h; simp only [z0, z1] at h; subst h
              refine s_val 61 rfl rfl (.int .i64 ((j + 1 : Nat) : Int)) (rfl) ?_
              refine nr ?_; intro U h; simp only [z0, z1] at h; subst h
              refine wpList_nil ?_
              refine then_n ?_
              have huc : ucnt (L.getD j zE) = 0 + 0 := by unfold ucnt; rw [if_neg (of_decide_eq_false hna), if_neg (of_decide_eq_false hnb)]
              have hus := usum_step L j hsl
              exact ⟨L.length + 1 - (j + 1), by omega, j + 1, u, (fun kz => ([us3 0, .pointer (some ⟨g1, 0, none⟩), .int .i64 ((c : Nat) : Int), us4 0, .bool true, .pointer (pE ao12 j 0), .agg (enA (L.getD j zE)), .pointer (some ⟨g1, 49, none⟩), .int .i64 ((L.getD j zE).na), .bool false, us3 10, us3 11, .pointer (some ⟨g1, 50, none⟩), .int .i64 ((L.getD j zE).nb), .bool false, us3 15, us3 16, .pointer (some ⟨t, 0, none⟩), .pointer (some ⟨g1, 17, none⟩), .agg (idA ((L.getD j zE).a)), ptrs 3, .pointer (some ⟨t, 0, none⟩), .pointer (some ⟨g1, 33, none⟩), .agg (idA (L.getD j zE).b), ptrs 7, .slice ao9 ((L.filter (toF (L.getD j zE).a) ++ L.filter (toF (L.getD j zE).b)).length) cap9, .int .i64 (((L.filter (toF (L.getD j zE).a) ++ L.filter (toF (L.getD j zE).b)).length : Nat) : Int), .int .i64 ((k : Nat) : Int), .bool false, us4 2, us4 3, us4 4, us4 5, us4 6, us4 7, us4 8, us4 9, .int .i64 ((c : Nat) : Int), .bool false, .int .i64 ((j + 1 : Nat) : Int)] : List Value).getD kz undef), rfl, rfl, by omega, by omega, by omega, GG, kt, HTt, HR12⟩
            · have hkl : k < (L.filter (toF (L.getD j zE).a) ++ L.filter (toF (L.getD j zE).b)).length := by have := of_decide_eq_true hk1; omega
              refine s_val 86 rfl rfl (.bool true) (run_lssT 3 _ _ _ rfl ((k : Nat) : Int) (((L.filter (toF (L.getD j zE).a) ++ L.filter (toF (L.getD j zE).b)).length : Nat) : Int) rfl rfl true hk1 _) ?_
              refine nr ?_; intro U h; simp only [z0, z1] at h; subst h
              refine wpList_nil ?_
              refine then_n ?_
              refine wp_seq ?_
              refine wp_cond_true rfl ?_
              refine wp_skip ?_
              refine then_n ?_
              refine wp_seq ?_
              refine wp_block ?_
              refine wp_seq ?_
              refine wp_region_lit ?_
              refine s_val 87 rfl rfl (.pointer (pE ao9 k 0)) (run_ixE (HM.re) _ _ rfl rfl k rfl (by omega)) ?_
              refine nr ?_; intro U h; simp only [z0, z1] at h; subst h
              refine s_val 88 rfl rfl (.agg (enA ((L.filter (toF (L.getD j zE).a) ++ L.filter (toF (L.getD j zE).b)).getD k zE))) (run_ldE (HM.re) _ rfl k rfl (by omega)) ?_
              refine nr ?_; intro U h; simp only [z0, z1] at h; subst h
              refine s_alloc 15 rfl rfl 33 rfl _ zero33 (enA zE) rfl ?_
              intro w7 g2 G eg2 kg2
              have bg2 := size_base GG eg2
              have dtg2 := lt_new kt eg2
              have dg1g2 := lt_new kg1 eg2
              have dHTtg2 := HTt.ne eg2
              have dHR12g2 := HR12.ne eg2
              have dHMg2 := HM.ne eg2
              replace kt := G.has kt
              replace kg1 := G.has kg1
              replace HTt := HTt.gro G
              replace HR12 := HR12.gro G
              replace HM := HM.gro G
              replace GG := GG.trans G
              clear G
              clear eg2
              refine nr ?_; intro U h; simp only [z0, z1] at h; subst h
              refine s_store rfl rfl 33 _ _ rfl g2 0 rfl (.agg (enA ((L.filter (toF (L.getD j zE).a) ++ L.filter (toF (L.getD j zE).b)).getD k zE))) rfl 33 _ kg2 (enA ((L.filter (toF (L.getD j zE).a) ++ L.filter (toF (L.getD j zE).b)).getD k zE)) rfl (si33' _) (enA_fit _ _) (enA_one _) (enA ((L.filter (toF (L.getD j zE).a) ++ L.filter (toF (L.getD j zE).b)).getD k zE)) (splice_whole _ _ (enA_sz _ _)) ?_
              intro w8 St
              have kS := kg2
              replace kt := St.has (by omega) kt
              replace kg1 := St.has (by omega) kg1
              replace HTt := HTt.st St dHTtg2
              replace HR12 := HR12.st St dHR12g2
              replace HM := HM.st St dHMg2
              replace GG := GG.store St bg2
              replace kg2 := St.new
              clear St
              refine wpList_nil ?_
              refine then_n ?_
              refine wp_seq ?_
              refine wp_region_lit ?_
              refine s_val 89 rfl rfl (.agg (enA ((L.filter (toF (L.getD j zE).a) ++ L.filter (toF (L.getD j zE).b)).getD k zE))) (ldE0 _ rfl g2 rfl (kg2)) ?_
              refine nr ?_; intro U h; simp only [z0, z1] at h; subst h
              refine s_val 90 rfl rfl (.agg (enA (L.getD j zE))) (ldE0 _ rfl g1 rfl (kg1)) ?_
              refine nr ?_; intro U h; simp only [z0, z1] at h; subst h
              cases hx : decide ((L.filter (toF (L.getD j zE).a) ++ L.filter (toF (L.getD j zE).b)).getD k zE = (L.getD j zE))
              · refine s_val 91 rfl rfl (.bool false) (run_eqE _ _ _ rfl _ _ rfl rfl (HM.all.at (by omega)) (HTt.all.at (by omega)) false hx) ?_
                refine nr ?_; intro U h; simp only [z0, z1] at h; subst h
                refine wpList_nil ?_
                refine then_n ?_
                refine wp_cond_false rfl ?_
                refine wp_skip ?_
                refine blk_n ?_
                refine then_n ?_
                refine wp_region_lit ?_
                refine s_val 94 rfl rfl (.int .i64 ((k + 1 : Nat) : Int)) (run_addI 3 _ _ _ rfl ((k : Nat) : Int) 1 ((k + 1 : Nat) : Int) rfl rfl (by omega) (by omega) (by omega) _) ?_
                refine nr ?_; intro U h; simp only [z0, z1] at h; subst h
                refine s_val 85 rfl rfl (.int .i64 ((k + 1 : Nat) : Int)) (rfl) ?_
                refine nr ?_; intro U h; simp only [z0, z1] at h; subst h
                refine wpList_nil ?_
                refine then_n ?_
                have hst := eqc_step (L.getD j zE) (L.filter (toF (L.getD j zE).a) ++ L.filter (toF (L.getD j zE).b)) k hkl
                rw [if_neg (of_decide_eq_false hx)] at hst
                exact ⟨(L.filter (toF (L.getD j zE).a) ++ L.filter (toF (L.getD j zE).b)).length + 1 - (k + 1), by omega, k + 1, c, (fun kz => ([.pointer (some ⟨g2, 0, none⟩), .bool true, .pointer (pE ao9 k 0), .agg (enA ((L.filter (toF (L.getD j zE).a) ++ L.filter (toF (L.getD j zE).b)).getD k zE)), .agg (enA ((L.filter (toF (L.getD j zE).a) ++ L.filter (toF (L.getD j zE).b)).getD k zE)), .agg (enA (L.getD j zE)), .bool false, us4 7, us4 8, .int .i64 ((k + 1 : Nat) : Int)] : List Value).getD kz undef), rfl, rfl, by omega, by omega, GG, kt, HTt, kg1, HR12, HM⟩
              · refine s_val 91 rfl rfl (.bool true) (run_eqE _ _ _ rfl _ _ rfl rfl (HM.all.at (by omega)) (HTt.all.at (by omega)) true hx) ?_
                refine nr ?_; intro U h; simp only [z0, z1] at h; subst h
                refine wpList_nil ?_
                refine then_n ?_
                refine wp_cond_true rfl ?_
                refine wp_region_lit ?_
                refine s_val 92 rfl rfl (.int .i64 ((c : Nat) : Int)) (rfl) ?_
                refine nr ?_; intro U h; simp only [z0, z1] at h; subst h
                refine s_val 93 rfl rfl (.int .i64 ((c + 1 : Nat) : Int)) (run_addI 3 _ _ _ rfl ((c : Nat) : Int) 1 ((c + 1 : Nat) : Int) rfl rfl (by omega) (by omega) (by omega) _) ?_
                refine nr ?_; intro U h; simp only [z0, z1] at h; subst h
                refine s_val 13 rfl rfl (.int .i64 ((c + 1 : Nat) : Int)) (rfl) ?_
                refine nr ?_; intro U h; simp only [z0, z1] at h; subst h
                refine wpList_nil ?_
                refine blk_n ?_
                refine then_n ?_
                refine wp_region_lit ?_
                refine s_val 94 rfl rfl (.int .i64 ((k + 1 : Nat) : Int)) (run_addI 3 _ _ _ rfl ((k : Nat) : Int) 1 ((k + 1 : Nat) : Int) rfl rfl (by omega) (by omega) (by omega) _) ?_
                refine nr ?_; intro U h; simp only [z0, z1] at h; subst h
                refine s_val 85 rfl rfl (.int .i64 ((k + 1 : Nat) : Int)) (rfl) ?_
                refine nr ?_; intro U h; simp only [z0, z1] at h; subst h
                refine wpList_nil ?_
                refine then_n ?_
                have hst := eqc_step (L.getD j zE) (L.filter (toF (L.getD j zE).a) ++ L.filter (toF (L.getD j zE).b)) k hkl
                rw [if_pos (of_decide_eq_true hx)] at hst
                exact ⟨(L.filter (toF (L.getD j zE).a) ++ L.filter (toF (L.getD j zE).b)).length + 1 - (k + 1), by omega, k + 1, c + 1, (fun kz => ([.pointer (some ⟨g2, 0, none⟩), .bool true, .pointer (pE ao9 k 0), .agg (enA ((L.filter (toF (L.getD j zE).a) ++ L.filter (toF (L.getD j zE).b)).getD k zE)), .agg (enA ((L.filter (toF (L.getD j zE).a) ++ L.filter (toF (L.getD j zE).b)).getD k zE)), .agg (enA (L.getD j zE)), .bool true, .int .i64 ((c : Nat) : Int), .int .i64 ((c + 1 : Nat) : Int), .int .i64 ((k + 1 : Nat) : Int)] : List Value).getD kz undef), rfl, rfl, by omega, by omega, GG, kt, HTt, kg1, HR12, HM⟩
          · refine s_val 72 rfl rfl (.bool true) (run_geqT 3 _ _ _ rfl ((L.getD j zE).nb) 0 rfl rfl true hnb _) ?_
            refine nr ?_; intro U h; simp only [z0, z1] at h; subst h
            refine wpList_nil ?_
            refine then_n ?_
            refine wp_cond_true rfl ?_
            refine wp_region_lit ?_
            refine s_val 73 rfl rfl (.int .i64 ((u : Nat) : Int)) (rfl) ?_
            refine nr ?_; intro U h; simp only [z0, z1] at h; subst h
            refine s_val 74 rfl rfl (.int .i64 ((u + 1 : Nat) : Int)) (run_addI 3 _ _ _ rfl ((u : Nat) : Int) 1 ((u + 1 : Nat) : Int) rfl rfl (by omega) (by omega) (by omega) _) ?_
            refine nr ?_; intro U h; simp only [z0, z1] at h; subst h
            refine s_val 10 rfl rfl (.int .i64 ((u + 1 : Nat) : Int)) (rfl) ?_
            refine nr ?_; intro U h; simp only [z0, z1] at h; subst h
            refine wpList_nil ?_
            refine then_n ?_
            refine wp_seq ?_
            refine wp_region_lit ?_
            refine s_val 13 rfl rfl (.int .i64 0) (rfl) ?_
            refine nr ?_; intro U h; simp only [z0, z1] at h; subst h
            refine wpList_nil ?_
            refine then_n ?_
            refine wp_seq ?_
            refine wp_seq ?_
            obtain ⟨BB, hB⟩ : ∃ B, w5.heap.size = B := ⟨_, rfl⟩
            have hwB : w.heap.size ≤ BB := hB ▸ GG.size
            have hl1 := List.length_filter_le (toF (L.getD j zE).a) L
            have hl2 := List.length_filter_le (toF (L.getD j zE).b) L
            have hMM : (L.filter (toF (L.getD j zE).a) ++ L.filter (toF (L.getD j zE).b)).length ≤ 256 := by rw [List.length_append]; omega
            have hxL := getD_in hsl
            have hxo := HTt.all _ hxL
            refine wp_region_pm (A := ?Ax4) (fun _ x => Gro w5.drew x) 11 [(0, 75), (1, 76), (2, 77), (3, 78), (4, 79), (5, 80), (6, 81), (7, 82), (8, 83), (9, 84), (10, 85)] [.val (.pointer (some ⟨t, 0, none⟩)), .val (.pointer (some ⟨g1, 17, none⟩)), .val (.agg (idA (L.getD j zE).a)), ownB BB (L.filter (toF (L.getD j zE).a)), .val (.pointer (some ⟨t, 0, none⟩)), .val (.pointer (some ⟨g1, 33, none⟩)), .val (.agg (idA (L.getD j zE).b)), ownB BB (L.filter (toF (L.getD j zE).b)), ownB BB (L.filter (toF (L.getD j zE).a) ++ L.filter (toF (L.getD j zE).b)), .val (.int .i64 (((L.filter (toF (L.getD j zE).a) ++ L.filter (toF (L.getD j zE).b)).length : Nat) : Int)), .val (.int .i64 0)] [(8, 3), (8, 7)] [8] follows (by kernel_rfl) rfl (by kernel_rfl) (by decide) (Gro.refl _) ?hAx4 (opsM_g (fun _ _ _ h _ g => h.trans g) ?p0x4 (opsM_g (fun _ _ _ h _ g => h.trans g) ?p1x4 (opsM_g (fun _ _ _ h _ g => h.trans g) ?p2x4 (opsM_g (fun _ _ _ h _ g => h.trans g) ?p3x4 (opsM_g (fun _ _ _ h _ g => h.trans g) ?p4x4 (opsM_g (fun _ _ _ h _ g => h.trans g) ?p5x4 (opsM_g (fun _ _ _ h _ g => h.trans g) ?p6x4 (opsM_g (fun _ _ _ h _ g => h.trans g) ?p7x4 (opsM_w ?p8x4 (opsM_g (fun _ _ _ h _ g => h.trans g) ?p9x4 (opsM_g (fun _ _ _ h _ g => h.trans g) ?p10x4 opsM_nil))))))))))) ?restx4
            case hAx4 =>
              intro ptrs
              simp only [full, foldSlots, filledE, postE, List.foldl_cons, List.foldl_nil, List.getD_cons_zero, List.getD_cons_succ, fill_val, fill_ownB, List.set_cons_zero, List.set_cons_succ]
              exact rfl
            case p0x4 => exact fun _ _ _ _ _ _ _ _ => opE_move (v := .pointer (some ⟨t, 0, none⟩)) _ rfl rfl rfl
            case p4x4 => exact fun _ _ _ _ _ _ _ _ => opE_move (v := .pointer (some ⟨t, 0, none⟩)) _ rfl rfl rfl
            case p10x4 => exact fun _ _ _ _ _ _ _ _ => opE_move (v := .int .i64 0) _ rfl rfl rfl
            case p1x4 => exact fun _ _ _ _ _ _ _ _ => opE_value (v := .pointer (some ⟨g1, 17, none⟩)) rfl (run_fld 33 _ 1 rfl g1 0 rfl 17 (by kernel_rfl))
            case p5x4 => exact fun _ _ _ _ _ _ _ _ => opE_value (v := .pointer (some ⟨g1, 33, none⟩)) rfl (run_fld 33 _ 2 rfl g1 0 rfl 33 (by kernel_rfl))
            case p2x4 => exact fun _ _ _ hw _ _ _ _ => opE_value (v := .agg (idA (L.getD j zE).a)) rfl (ldEa _ rfl g1 rfl (hw.has kg1))
            case p6x4 => exact fun _ _ _ hw _ _ _ _ => opE_value (v := .agg (idA (L.getD j zE).b)) rfl (ldEb _ rfl g1 rfl (hw.has kg1))
            case p3x4 => exact fun _ _ _ hw _ _ _ _ => opE_call (ownB BB (L.filter (toF (L.getD j zE).a))) rfl _ 21 Try.call21 rfl rfl _ rfl [.pointer (some ⟨t, 0, none⟩), .agg (idA (L.getD j zE).a)] rfl ((to_any _ t b 128 L (hw.has kt) (HTt.gro ((Gro.refl _).drew.trans hw)) (L.getD j zE).a hxo.a hTI.ris (Nat.le_trans hTI.fit (by decide))).mono fun e w' ⟨ao, cap, he, hg, hr⟩ => ⟨_, he, hg, ao, cap, rfl, hr.mono (Nat.le_trans (Nat.le_of_eq hB.symm) hw.size)⟩)
            case p7x4 => exact fun _ _ _ hw _ _ _ _ => opE_call (ownB BB (L.filter (toF (L.getD j zE).b))) rfl _ 21 Try.call21 rfl rfl _ rfl [.pointer (some ⟨t, 0, none⟩), .agg (idA (L.getD j zE).b)] rfl ((to_any _ t b 128 L (hw.has kt) (HTt.gro ((Gro.refl _).drew.trans hw)) (L.getD j zE).b hxo.b hTI.ris (Nat.le_trans hTI.fit (by decide))).mono fun e w' ⟨ao, cap, he, hg, hr⟩ => ⟨_, he, hg, ao, cap, rfl, hr.mono (Nat.le_trans (Nat.le_of_eq hB.symm) hw.size)⟩)
            case p8x4 =>
              intro L9 ptrs x hw _ _ _ hE
              obtain ⟨⟨ao2, cap2, h2, o2⟩, ⟨ao4, cap4, h4, o4⟩, _⟩ := hE
              refine opX_apE (ownB BB (L.filter (toF (L.getD j zE).a) ++ L.filter (toF (L.getD j zE).b))) rfl _ _ rfl (ao := ao2) (cap := cap2) (l := (L.filter (toF (L.getD j zE).a))) h2 o2 (ao' := ao4) (cap' := cap4) (l' := (L.filter (toF (L.getD j zE).b))) h4 o4.re (by omega) (Nat.le_trans (Nat.le_of_eq hB.symm) hw.size) ?_
              intro ao9 cap9 w' HO9 GS hbl
              refine ⟨⟨?_, StM.vals [0, 1, 2, 4, 5, 6, 9, 10] (by kernel_rfl) ⟨⟨_, rfl⟩, ⟨_, rfl⟩, ⟨_, rfl⟩, ⟨_, rfl⟩, ⟨_, rfl⟩, ⟨_, rfl⟩, ⟨_, rfl⟩, ⟨_, rfl⟩, trivial⟩⟩, ao9, cap9, rfl, HO9⟩
              exact GS.gro hw (fun k hk => by have := hbl k hk; exact Nat.le_trans (Nat.le_of_eq hB) this)
            case p9x4 =>
              intro L9 ptrs x hw _ _ _ hE
              obtain ⟨⟨ao8, cap8, h8, o8⟩, _⟩ := hE
              refine opE_value (v := .int .i64 (((L.filter (toF (L.getD j zE).a) ++ L.filter (toF (L.getD j zE).b)).length : Nat) : Int)) rfl (run_len Try.underlying41 _ rfl ao8 _ cap8 ?_ _)
              exact h8
            intro ptrs w6 GD hxE
            simp only [List.drop_succ_cons, List.drop_zero]
            replace kt := GD.has kt
            replace kg1 := GD.has kg1
            replace HTt := HTt.gro ((Gro.refl _).drew.trans GD)
            replace HR12 := HR12.gro ((Gro.refl _).drew.trans GD)
            replace GG := GG.drew.trans GD
            obtain ⟨⟨ao9, cap9, hx9, HM⟩, _⟩ := hxE
            simp only [hx9]
            clear hx9 GD
            refine wpList_nil ?_
            refine then_n ?_
            refine wp_block ?_
            refine wp_loopN (fun mz az wq => ∃ (k : Nat) (c : Nat) (us4 : Nat → Value), mz = (L.filter (toF (L.getD j zE).a) ++ L.filter (toF (L.getD j zE).b)).length + 1 - k ∧ az = ⟨[.slice ao l.length cap, undef, us3 0, .pointer (some ⟨t, 0, none⟩), undef, us1 0, .int .i64 ((v : Nat) : Int), .int .i64 n, undef, us2 1, .int .i64 ((u + 1 : Nat) : Int), undef, .pointer (some ⟨g1, 0, none⟩), .int .i64 ((c : Nat) : Int), undef, us4 0, .pointer (some ⟨t, 0, none⟩), .pointer (some ⟨t, 0, none⟩), .bool false, .bool false, .bool true, .bool false, .bool false, .slice ao l.length cap, .int .i64 ((l.length : Nat) : Int), .int .i64 ((i : Nat) : Int), .bool false, us1 2, us1 3, us1 4, us1 5, us1 6, us1 7, .int .i64 n, .bool false, us2 4, us2 5, us2 6, us2 7, us2 8, us2 9, us2 10, us2 11, us2 12, us2 13, us2 14, us2 15, us2 16, us2 17, us2 18, us2 19, us2 20, us2 21, us2 22, us2 23, us2 24, us2 25, us2 26, .pointer (some ⟨t, 0, none⟩), .slice ao12 L.length cap12, .int .i64 ((L.length : Nat) : Int), .int .i64 ((j : Nat) : Int), .bool true, .pointer (pE ao12 j 0), .agg (enA (L.getD j zE)), .pointer (some ⟨g1, 49, none⟩), .int .i64 ((L.getD j zE).na), .bool false, us3 10, us3 11, .pointer (some ⟨g1, 50, none⟩), .int .i64 ((L.getD j zE).nb), .bool true, .int .i64 ((u : Nat) : Int), .int .i64 ((u + 1 : Nat) : Int), .pointer (some ⟨t, 0, none⟩), .pointer (some ⟨g1, 17, none⟩), .agg (idA ((L.getD j zE).a)), ptrs 3, .pointer (some ⟨t, 0, none⟩), .pointer (some ⟨g1, 33, none⟩), .agg (idA (L.getD j zE).b), ptrs 7, .slice ao9 ((L.filter (toF (L.getD j zE).a) ++ L.filter (toF (L.getD j zE).b)).length) cap9, .int .i64 (((L.filter (toF (L.getD j zE).a) ++ L.filter (toF (L.getD j zE).b)).length : Nat) : Int), .int .i64 ((k : Nat) : Int), us4 1, us4 2, us4 3, us4 4, us4 5, us4 6, us4 7, us4 8, us4 9, us3 37, us3 38, us3 39, undef, undef, undef].toArray, []⟩ ∧ k ≤ (L.filter (toF (L.getD j zE).a) ++ L.filter (toF (L.getD j zE).b)).length ∧ c = eqc (L.getD j zE) ((L.filter (toF (L.getD j zE).a) ++ L.filter (toF (L.getD j zE).b)).take k) ∧ Gro w wq ∧ wq.heap[t]? = some (.cells (tbA 128 b) 59 (0, 0)) ∧ TM wq b L ∧ wq.heap[g1]? = some (.cells (enA (L.getD j zE)) 33 (0, 0)) ∧ RE wq ao12 cap12 L ∧ OE wq BB ao9 cap9 (L.filter (toF (L.getD j zE).a) ++ L.filter (toF (L.getD j zE).b))) ?_ _ ⟨0, 0, (fun kz => ([us3 3, us3 28, us3 29, us3 30, us3 31, us3 32, us3 33, us3 34, us3 35, us3 36] : List Value).getD kz undef), rfl, rfl, Nat.zero_le _, rfl, GG, kt, HTt, kg1, HR12, HM⟩
            clear GG kt kg1 HTt HR12 HM
            rintro mz az wq ⟨k, c, us4, rfl, rfl, hk, hc, GG, kt, HTt, kg1, HR12, HM⟩
            have hMl := eqc_le (L.getD j zE) (L.filter (toF (L.getD j zE).a) ++ L.filter (toF (L.getD j zE).b)) k
            have hMb := hMM
            refine wp_seq ?_
            refine wp_region_lit ?_
            cases hk1 : decide (((k : Nat) : Int) < (((L.filter (toF (L.getD j zE).a) ++ L.filter (toF (L.getD j zE).b)).length : Nat) : Int))
            · have hke : k = (L.filter (toF (L.getD j zE).a) ++ L.filter (toF (L.getD j zE).b)).length := by have := of_decide_eq_false hk1; omega
              refine s_val 86 rfl rfl (.bool false) (run_lssT 3 _ _ _ rfl ((k : Nat) : Int) (((L.filter (toF (L.getD j zE).a) ++ L.filter (toF (L.getD j zE).b)).length : Nat) : Int) rfl rfl false hk1 _) ?_
              refine nr ?_; intro U h; simp only [z0, z1] at h; subst h
              refine wpList_nil ?_
              refine then_n ?_
              refine wp_seq ?_
              refine wp_cond_false rfl ?_
              refine wp_exit ?_
              refine then_x ?_
              refine then_x ?_
              refine blk_x ?_
              refine then_n ?_
              refine wp_seq ?_
              refine wp_region_lit ?_
              refine s_val 95 rfl rfl (.int .i64 ((c : Nat) : Int)) (rfl) ?_
              refine nr ?_; intro U h; simp only [z0, z1] at h; subst h
              refine s_val 96 rfl rfl (.bool false) (run_neq_k 3 .i64 _ _ _ rfl Try.underlying3 ((c : Nat) : Int) 2 rfl rfl false (decide_eq_true (by rw [hc, hke, List.take_length, eqc_2 hTI.ris.kn hxL]; rfl)) _) ?_
              refine nr ?_; intro U h; simp only [z0, z1] at h; subst h
              refine wpList_nil ?_
              refine then_n ?_
              refine wp_cond_false rfl ?_
              refine wp_skip ?_
              refine blk_n ?_
              refine then_n ?_
              refine wp_region_lit ?_
              refine s_val 97 rfl rfl (.int .i64 ((j + 1 : Nat) : Int)) (run_addI 3 _ _ _ rfl ((j : Nat) : Int) 1 ((j + 1 : Nat) : Int) rfl rfl (by omega) (by omega) (by omega) _) ?_
              refine nr ?_; intro U h; simp only [z0, z1] at h; subst h
              refine s_val 61 rfl rfl (.int .i64 ((j + 1 : Nat) : Int)) (rfl) ?_
              refine nr ?_; intro U h; simp only [z0, z1] at h; subst h
              refine wpList_nil ?_
              refine then_n ?_
              have huc : ucnt (L.getD j zE) = 0 + 1 := by unfold ucnt; rw [if_neg (of_decide_eq_false hna), if_pos (of_decide_eq_true hnb)]
              have hus := usum_step L j hsl
              exact ⟨L.length + 1 - (j + 1), by omega, j + 1, u + 1, (fun kz => ([us3 0, .pointer (some ⟨g1, 0, none⟩), .int .i64 ((c : Nat) : Int), us4 0, .bool true, .pointer (pE ao12 j 0), .agg (enA (L.getD j zE)), .pointer (some ⟨g1, 49, none⟩), .int .i64 ((L.getD j zE).na), .bool false, us3 10, us3 11, .pointer (some ⟨g1, 50, none⟩), .int .i64 ((L.getD j zE).nb), .bool true, .int .i64 ((u : Nat) : Int), .int .i64 ((u + 1 : Nat) : Int), .pointer (some ⟨t, 0, none⟩), .pointer (some ⟨g1, 17, none⟩), .agg (idA ((L.getD j zE).a)), ptrs 3, .pointer (some ⟨t, 0, none⟩), .pointer (some ⟨g1, 33, none⟩), .agg (idA (L.getD j zE).b), ptrs 7, .slice ao9 ((L.filter (toF (L.getD j zE).a) ++ L.filter (toF (L.getD j zE).b)).length) cap9, .int .i64 (((L.filter (toF (L.getD j zE).a) ++ L.filter (toF (L.getD j zE).b)).length : Nat) : Int), .int .i64 ((k : Nat) : Int), .bool false, us4 2, us4 3, us4 4, us4 5, us4 6, us4 7, us4 8, us4 9, .int .i64 ((c : Nat) : Int), .bool false, .int .i64 ((j + 1 : Nat) : Int)] : List Value).getD kz undef), rfl, rfl, by omega, by omega, by omega, GG, kt, HTt, HR12⟩
            · have hkl : k < (L.filter (toF (L.getD j zE).a) ++ L.filter (toF (L.getD j zE).b)).length := by have := of_decide_eq_true hk1; omega
              refine s_val 86 rfl rfl (.bool true) (run_lssT 3 _ _ _ rfl ((k : Nat) : Int) (((L.filter (toF (L.getD j zE).a) ++ L.filter (toF (L.getD j zE).b)).length : Nat) : Int) rfl rfl true hk1 _) ?_
              refine nr ?_; intro U h; simp only [z0, z1] at h; subst h
              refine wpList_nil ?_
              refine then_n ?_
              refine wp_seq ?_
              refine wp_cond_true rfl ?_
              refine wp_skip ?_
              refine then_n ?_
              refine wp_seq ?_
              refine wp_block ?_
              refine wp_seq ?_
              refine wp_region_lit ?_
              refine s_val 87 rfl rfl (.pointer (pE ao9 k 0)) (run_ixE (HM.re) _ _ rfl rfl k rfl (by omega)) ?_
              refine nr ?_; intro U h; simp only [z0, z1] at h; subst h
              refine s_val 88 rfl rfl (.agg (enA ((L.filter (toF (L.getD j zE).a) ++ L.filter (toF (L.getD j zE).b)).getD k zE))) (run_ldE (HM.re) _ rfl k rfl (by omega)) ?_
              refine nr ?_; intro U h; simp only [z0, z1] at h; subst h
              refine s_alloc 15 rfl rfl 33 rfl _ zero33 (enA zE) rfl ?_
              intro w7 g2 G eg2 kg2
              have bg2 := size_base GG eg2
              have dtg2 := lt_new kt eg2
              have dg1g2 := lt_new kg1 eg2
              have dHTtg2 := HTt.ne eg2
              have dHR12g2 := HR12.ne eg2
              have dHMg2 := HM.ne eg2
              replace kt := G.has kt
              replace kg1 := G.has kg1
              replace HTt := HTt.gro G
              replace HR12 := HR12.gro G
              replace HM := HM.gro G
              replace GG := GG.trans G
              clear G
              clear eg2
              refine nr ?_; intro U h; simp only [z0, z1] at h; subst h
              refine s_store rfl rfl 33 _ _ rfl g2 0 rfl (.agg (enA ((L.filter (toF (L.getD j zE).a) ++ L.filter (toF (L.getD j zE).b)).getD k zE))) rfl 33 _ kg2 (enA ((L.filter (toF (L.getD j zE).a) ++ L.filter (toF (L.getD j zE).b)).getD k zE)) rfl (si33' _) (enA_fit _ _) (enA_one _) (enA ((L.filter (toF (L.getD j zE).a) ++ L.filter (toF (L.getD j zE).b)).getD k zE)) (splice_whole _ _ (enA_sz _ _)) ?_
              intro w8 St
              have kS := kg2
              replace kt := St.has (by omega) kt
              replace kg1 := St.has (by omega) kg1
              replace HTt := HTt.st St dHTtg2
              replace HR12 := HR12.st St dHR12g2
              replace HM := HM.st St dHMg2
              replace GG := GG.store St bg2
              replace kg2 := St.new
              clear St
              refine wpList_nil ?_
              refine then_n ?_
              refine wp_seq ?_
              refine wp_region_lit ?_
              refine s_val 89 rfl rfl (.agg (enA ((L.filter (toF (L.getD j zE).a) ++ L.filter (toF (L.getD j zE).b)).getD k zE))) (ldE0 _ rfl g2 rfl (kg2)) ?_
              refine nr ?_; intro U h; simp only [z0, z1] at h; subst h
              refine s_val 90 rfl rfl (.agg (enA (L.getD j zE))) (ldE0 _ rfl g1 rfl (kg1)) ?_
              refine nr ?_; intro U h; simp only [z0, z1] at h; subst h
              cases hx : decide ((L.filter (toF (L.getD j zE).a) ++ L.filter (toF (L.getD j zE).b)).getD k zE = (L.getD j zE))
              · refine s_val 91 rfl rfl (.bool false) (run_eqE _ _ _ rfl _ _ rfl rfl (HM.all.at (by omega)) (HTt.all.at (by omega)) false hx) ?_
                refine nr ?_; intro U h; simp only [z0, z1] at h; subst h
                refine wpList_nil ?_
                refine then_n ?_
                refine wp_cond_false rfl ?_
                refine wp_skip ?_
                refine blk_n ?_
                refine then_n ?_
                refine wp_region_lit ?_
                refine s_val 94 rfl rfl (.int .i64 ((k + 1 : Nat) : Int)) (run_addI 3 _ _ _ rfl ((k : Nat) : Int) 1 ((k + 1 : Nat) : Int) rfl rfl (by omega) (by omega) (by omega) _) ?_
                refine nr ?_; intro U h; simp only [z0, z1] at h; subst h
                refine s_val 85 rfl rfl (.int .i64 ((k + 1 : Nat) : Int)) (rfl) ?_
                refine nr ?_; intro U h; simp only [z0, z1] at h; subst h
                refine wpList_nil ?_
                refine then_n ?_
                have hst := eqc_step (L.getD j zE) (L.filter (toF (L.getD j zE).a) ++ L.filter (toF (L.getD j zE).b)) k hkl
                rw [if_neg (of_decide_eq_false hx)] at hst
                exact ⟨(L.filter (toF (L.getD j zE).a) ++ L.filter (toF (L.getD j zE).b)).length + 1 - (k + 1), by omega, k + 1, c, (fun kz => ([.pointer (some ⟨g2, 0, none⟩), .bool true, .pointer (pE ao9 k 0), .agg (enA ((L.filter (toF (L.getD j zE).a) ++ L.filter (toF (L.getD j zE).b)).getD k zE)), .agg (enA ((L.filter (toF (L.getD j zE).a) ++ L.filter (toF (L.getD j zE).b)).getD k zE)), .agg (enA (L.getD j zE)), .bool false, us4 7, us4 8, .int .i64 ((k + 1 : Nat) : Int)] : List Value).getD kz undef), rfl, rfl, by omega, by omega, GG, kt, HTt, kg1, HR12, HM⟩
              · refine s_val 91 rfl rfl (.bool true) (run_eqE _ _ _ rfl _ _ rfl rfl (HM.all.at (by omega)) (HTt.all.at (by omega)) true hx) ?_
                refine nr ?_; intro U h; simp only [z0, z1] at h; subst h
                refine wpList_nil ?_
                refine then_n ?_
                refine wp_cond_true rfl ?_
                refine wp_region_lit ?_
                refine s_val 92 rfl rfl (.int .i64 ((c : Nat) : Int)) (rfl) ?_
                refine nr ?_; intro U h; simp only [z0, z1] at h; subst h
                refine s_val 93 rfl rfl (.int .i64 ((c + 1 : Nat) : Int)) (run_addI 3 _ _ _ rfl ((c : Nat) : Int) 1 ((c + 1 : Nat) : Int) rfl rfl (by omega) (by omega) (by omega) _) ?_
                refine nr ?_; intro U h; simp only [z0, z1] at h; subst h
                refine s_val 13 rfl rfl (.int .i64 ((c + 1 : Nat) : Int)) (rfl) ?_
                refine nr ?_; intro U h; simp only [z0, z1] at h; subst h
                refine wpList_nil ?_
                refine blk_n ?_
                refine then_n ?_
                refine wp_region_lit ?_
                refine s_val 94 rfl rfl (.int .i64 ((k + 1 : Nat) : Int)) (run_addI 3 _ _ _ rfl ((k : Nat) : Int) 1 ((k + 1 : Nat) : Int) rfl rfl (by omega) (by omega) (by omega) _) ?_
                refine nr ?_; intro U h; simp only [z0, z1] at h; subst h
                refine s_val 85 rfl rfl (.int .i64 ((k + 1 : Nat) : Int)) (rfl) ?_
                refine nr ?_; intro U h; simp only [z0, z1] at h; subst h
                refine wpList_nil ?_
                refine then_n ?_
                have hst := eqc_step (L.getD j zE) (L.filter (toF (L.getD j zE).a) ++ L.filter (toF (L.getD j zE).b)) k hkl
                rw [if_pos (of_decide_eq_true hx)] at hst
                exact ⟨(L.filter (toF (L.getD j zE).a) ++ L.filter (toF (L.getD j zE).b)).length + 1 - (k + 1), by omega, k + 1, c + 1, (fun kz => ([.pointer (some ⟨g2, 0, none⟩), .bool true, .pointer (pE ao9 k 0), .agg (enA ((L.filter (toF (L.getD j zE).a) ++ L.filter (toF (L.getD j zE).b)).getD k zE)), .agg (enA ((L.filter (toF (L.getD j zE).a) ++ L.filter (toF (L.getD j zE).b)).getD k zE)), .agg (enA (L.getD j zE)), .bool true, .int .i64 ((c : Nat) : Int), .int .i64 ((c + 1 : Nat) : Int), .int .i64 ((k + 1 : Nat) : Int)] : List Value).getD kz undef), rfl, rfl, by omega, by omega, GG, kt, HTt, kg1, HR12, HM⟩
        · refine s_val 67 rfl rfl (.bool true) (run_geqT 3 _ _ _ rfl ((L.getD j zE).na) 0 rfl rfl true hna _) ?_
          refine nr ?_; intro U h; simp only [z0, z1] at h; subst h
          refine wpList_nil ?_
          refine then_n ?_
          refine wp_cond_true rfl ?_
          refine wp_region_lit ?_
          refine s_val 68 rfl rfl (.int .i64 ((u : Nat) : Int)) (rfl) ?_
          refine nr ?_; intro U h; simp only [z0, z1] at h; subst h
          refine s_val 69 rfl rfl (.int .i64 ((u + 1 : Nat) : Int)) (run_addI 3 _ _ _ rfl ((u : Nat) : Int) 1 ((u + 1 : Nat) : Int) rfl rfl (by omega) (by omega) (by omega) _) ?_
          refine nr ?_; intro U h; simp only [z0, z1] at h; subst h
          refine s_val 10 rfl rfl (.int .i64 ((u + 1 : Nat) : Int)) (rfl) ?_
          refine nr ?_; intro U h; simp only [z0, z1] at h; subst h
          refine wpList_nil ?_
          refine then_n ?_
          refine wp_seq ?_
          refine wp_seq ?_
          refine wp_region_lit ?_
          refine s_val 70 rfl rfl (.pointer (some ⟨g1, 50, none⟩)) (run_fld 33 _ 4 rfl g1 0 rfl 50 (by kernel_rfl)) ?_
          refine nr ?_; intro U h; simp only [z0, z1] at h; subst h
          refine s_val 71 rfl rfl (.int .i64 ((L.getD j zE).nb)) (ldEnb _ rfl g1 rfl (kg1)) ?_
          refine nr ?_; intro U h; simp only [z0, z1] at h; subst h
          cases hnb : decide (0 ≤ (L.getD j zE).nb)
          · refine s_val 72 rfl rfl (.bool false) (run_geqT 3 _ _ _ rfl ((L.getD j zE).nb) 0 rfl rfl false hnb _) ?_
            refine nr ?_; intro U h; simp only [z0, z1] at h; subst h
            refine wpList_nil ?_
            refine then_n ?_
            refine wp_cond_false rfl ?_
            refine wp_skip ?_
            refine then_n ?_
            refine wp_seq ?_
            refine wp_region_lit ?_
            refine s_val 13 rfl rfl (.int .i64 0) (rfl) ?_
            refine nr ?_; intro U h; simp only [z0, z1] at h; subst h
            refine wpList_nil ?_
            refine then_n ?_
            refine wp_seq ?_
            refine wp_seq ?_
            obtain ⟨BB, hB⟩ : ∃ B, w5.heap.size = B := ⟨_, rfl⟩
            have hwB : w.heap.size ≤ BB := hB ▸ GG.size
            have hl1 := List.length_filter_le (toF (L.getD j zE).a) L
            have hl2 := List.length_filter_le (toF (L.getD j zE).b) L
            have hMM : (L.filter (toF (L.getD j zE).a) ++ L.filter (toF (L.getD j zE).b)).length ≤ 256 := by rw [List.length_append]; omega
            have hxL := getD_in hsl
            have hxo := HTt.all _ hxL
            refine wp_region_pm (A := ?Ax5) (fun _ x => Gro w5.drew x) 11 [(0, 75), (1, 76), (2, 77), (3, 78), (4, 79), (5, 80), (6, 81), (7, 82), (8, 83), (9, 84), (10, 85)] [.val (.pointer (some ⟨t, 0, none⟩)), .val (.pointer (some ⟨g1, 17, none⟩)), .val (.agg (idA (L.getD j zE).a)), ownB BB (L.filter (toF (L.getD j zE).a)), .val (.pointer (some ⟨t, 0, none⟩)), .val (.pointer (some ⟨g1, 33, none⟩)), .val (.agg (idA (L.getD j zE).b)), ownB BB (L.filter (toF (L.getD j zE).b)), ownB BB (L.filter (toF (L.getD j zE).a) ++ L.filter (toF (L.getD j zE).b)), .val (.int .i64 (((L.filter (toF (L.getD j zE).a) ++ L.filter (toF (L.getD j zE).b)).length : Nat) : Int)), .val (.int .i64 0)] [(8, 3), (8, 7)] [8] follows (by kernel_rfl) rfl (by kernel_rfl) (by decide) (Gro.refl _) ?hAx5 (opsM_g (fun _ _ _ h _ g => h.trans g) ?p0x5 (opsM_g (fun _ _ _ h _ g => h.trans g) ?p1x5 (opsM_g (fun _ _ _ h _ g => h.trans g) ?p2x5 (opsM_g (fun _ _ _ h _ g => h.trans g) ?p3x5 (opsM_g (fun _ _ _ h _ g => h.trans g) ?p4x5 (opsM_g (fun _ _ _ h _ g => h.trans g) ?p5x5 (opsM_g (fun _ _ _ h _ g => h.trans g) ?p6x5 (opsM_g (fun _ _ _ h _ g => h.trans g) ?p7x5 (opsM_w ?p8x5 (opsM_g (fun _ _ _ h _ g => h.trans g) ?p9x5 (opsM_g (fun _ _ _ h _ g => h.trans g) ?p10x5 opsM_nil))))))))))) ?restx5
            case hAx5 =>
              intro ptrs
              simp only [full, foldSlots, filledE, postE, List.foldl_cons, List.foldl_nil, List.getD_cons_zero, List.getD_cons_succ, fill_val, fill_ownB, List.set_cons_zero, List.set_cons_succ]
              exact rfl
            case p0x5 => exact fun _ _ _ _ _ _ _ _ => opE_move (v := .pointer (some ⟨t, 0, none⟩)) _ rfl rfl rfl
            case p4x5 => exact fun _ _ _ _ _ _ _ _ => opE_move (v := .pointer (some ⟨t, 0, none⟩)) _ rfl rfl rfl
            case p10x5 => exact fun _ _ _ _ _ _ _ _ => opE_move (v := .int .i64 0) _ rfl rfl rfl
            case p1x5 => exact fun _ _ _ _ _ _ _ _ => opE_value (v := .pointer (some ⟨g1, 17, none⟩)) rfl (run_fld 33 _ 1 rfl g1 0 rfl 17 (by kernel_rfl))
            case p5x5 => exact fun _ _ _ _ _ _ _ _ => opE_value (v := .pointer (some ⟨g1, 33, none⟩)) rfl (run_fld 33 _ 2 rfl g1 0 rfl 33 (by kernel_rfl))
            case p2x5 => exact fun _ _ _ hw _ _ _ _ => opE_value (v := .agg (idA (L.getD j zE).a)) rfl (ldEa _ rfl g1 rfl (hw.has kg1))
            case p6x5 => exact fun _ _ _ hw _ _ _ _ => opE_value (v := .agg (idA (L.getD j zE).b)) rfl (ldEb _ rfl g1 rfl (hw.has kg1))
            case p3x5 => exact fun _ _ _ hw _ _ _ _ => opE_call (ownB BB (L.filter (toF (L.getD j zE).a))) rfl _ 21 Try.call21 rfl rfl _ rfl [.pointer (some ⟨t, 0, none⟩), .agg (idA (L.getD j zE).a)] rfl ((to_any _ t b 128 L (hw.has kt) (HTt.gro ((Gro.refl _).drew.trans hw)) (L.getD j zE).a hxo.a hTI.ris (Nat.le_trans hTI.fit (by decide))).mono fun e w' ⟨ao, cap, he, hg, hr⟩ => ⟨_, he, hg, ao, cap, rfl, hr.mono (Nat.le_trans (Nat.le_of_eq hB.symm) hw.size)⟩)
            case p7x5 => exact fun _ _ _ hw _ _ _ _ => opE_call (ownB BB (L.filter (toF (L.getD j zE).b))) rfl _ 21 Try.call21 rfl rfl _ rfl [.pointer (some ⟨t, 0, none⟩), .agg (idA (L.getD j zE).b)] rfl ((to_any _ t b 128 L (hw.has kt) (HTt.gro ((Gro.refl _).drew.trans hw)) (L.getD j zE).b hxo.b hTI.ris (Nat.le_trans hTI.fit (by decide))).mono fun e w' ⟨ao, cap, he, hg, hr⟩ => ⟨_, he, hg, ao, cap, rfl, hr.mono (Nat.le_trans (Nat.le_of_eq hB.symm) hw.size)⟩)
            case p8x5 =>
              intro L9 ptrs x hw _ _ _ hE
              obtain ⟨⟨ao2, cap2, h2, o2⟩, ⟨ao4, cap4, h4, o4⟩, _⟩ := hE
              refine opX_apE (ownB BB (L.filter (toF (L.getD j zE).a) ++ L.filter (toF (L.getD j zE).b))) rfl _ _ rfl (ao := ao2) (cap := cap2) (l := (L.filter (toF (L.getD j zE).a))) h2 o2 (ao' := ao4) (cap' := cap4) (l' := (L.filter (toF (L.getD j zE).b))) h4 o4.re (by omega) (Nat.le_trans (Nat.le_of_eq hB.symm) hw.size) ?_
              intro ao9 cap9 w' HO9 GS hbl
              refine ⟨⟨?_, StM.vals [0, 1, 2, 4, 5, 6, 9, 10] (by kernel_rfl) ⟨⟨_, rfl⟩, ⟨_, rfl⟩, ⟨_, rfl⟩, ⟨_, rfl⟩, ⟨_, rfl⟩, ⟨_, rfl⟩, ⟨_, rfl⟩, ⟨_, rfl⟩, trivial⟩⟩, ao9, cap9, rfl, HO9⟩
              exact GS.gro hw (fun k hk => by have := hbl k hk; exact Nat.le_trans (Nat.le_of_eq hB) this)
            case p9x5 =>
              intro L9 ptrs x hw _ _ _ hE
              obtain ⟨⟨ao8, cap8, h8, o8⟩, _⟩ := hE
              refine opE_value (v := .int .i64 (((L.filter (toF (L.getD j zE).a) ++ L.filter (toF (L.getD j zE).b)).length : Nat) : Int)) rfl (run_len Try.underlying41 _ rfl ao8 _ cap8 ?_ _)
              exact h8
            intro ptrs w6 GD hxE
            simp only [List.drop_succ_cons, List.drop_zero]
            replace kt := GD.has kt
            replace kg1 := GD.has kg1
            replace HTt := HTt.gro ((Gro.refl _).drew.trans GD)
            replace HR12 := HR12.gro ((Gro.refl _).drew.trans GD)
            replace GG := GG.drew.trans GD
            obtain ⟨⟨ao9, cap9, hx9, HM⟩, _⟩ := hxE
            simp only [hx9]
            clear hx9 GD
            refine wpList_nil ?_
            refine then_n ?_
            refine wp_block ?_
            refine wp_loopN (fun mz az wq => ∃ (k : Nat) (c : Nat) (us4 : Nat → Value), mz = (L.filter (toF (L.getD j zE).a) ++ L.filter (toF (L.getD j zE).b)).length + 1 - k ∧ az = ⟨[.slice ao l.length cap, undef, us3 0, .pointer (some ⟨t, 0, none⟩), undef, us1 0, .int .i64 ((v : Nat) : Int), .int .i64 n, undef, us2 1, .int .i64 ((u + 1 : Nat) : Int), undef, .pointer (some ⟨g1, 0, none⟩), .int .i64 ((c : Nat) : Int), undef, us4 0, .pointer (some ⟨t, 0, none⟩), .pointer (some ⟨t, 0, none⟩), .bool false, .bool false, .bool true, .bool false, .bool false, .slice ao l.length cap, .int .i64 ((l.length : Nat) : Int), .int .i64 ((i : Nat) : Int), .bool false, us1 2, us1 3, us1 4, us1 5, us1 6, us1 7, .int .i64 n, .bool false, us2 4, us2 5, us2 6, us2 7, us2 8, us2 9, us2 10, us2 11, us2 12, us2 13, us2 14, us2 15, us2 16, us2 17, us2 18, us2 19, us2 20, us2 21, us2 22, us2 23, us2 24, us2 25, us2 26, .pointer (some ⟨t, 0, none⟩), .slice ao12 L.length cap12, .int .i64 ((L.length : Nat) : Int), .int .i64 ((j : Nat) : Int), .bool true, .pointer (pE ao12 j 0), .agg (enA (L.getD j zE)), .pointer (some ⟨g1, 49, none⟩), .int .i64 ((L.getD j zE).na), .bool true, .int .i64 ((u : Nat) : Int), .int .i64 ((u + 1 : Nat) : Int), .pointer (some ⟨g1, 50, none⟩), .int .i64 ((L.getD j zE).nb), .bool false, us3 15, us3 16, .pointer (some ⟨t, 0, none⟩), .pointer (some ⟨g1, 17, none⟩), .agg (idA ((L.getD j zE).a)), ptrs 3, .pointer (some ⟨t, 0, none⟩), .pointer (some ⟨g1, 33, none⟩), .agg (idA (L.getD j zE).b), ptrs 7, .slice ao9 ((L.filter (toF (L.getD j zE).a) ++ L.filter (toF (L.getD j zE).b)).length) cap9, .int .i64 (((L.filter (toF (L.getD j zE).a) ++ L.filter (toF (L.getD j zE).b)).length : Nat) : Int), .int .i64 ((k : Nat) : Int), us4 1, us4 2, us4 3, us4 4, us4 5, us4 6, us4 7, us4 8, us4 9, us3 37, us3 38, us3 39, undef, undef, undef].toArray, []⟩ ∧ k ≤ (L.filter (toF (L.getD j zE).a) ++ L.filter (toF (L.getD j zE).b)).length ∧ c = eqc (L.getD j zE) ((L.filter (toF (L.getD j zE).a) ++ L.filter (toF (L.getD j zE).b)).take k) ∧ Gro w wq ∧ wq.heap[t]? = some (.cells (tbA 128 b) 59 (0, 0)) ∧ TM wq b L ∧ wq.heap[g1]? = some (.cells (enA (L.getD j zE)) 33 (0, 0)) ∧ RE wq ao12 cap12 L ∧ OE wq BB ao9 cap9 (L.filter (toF (L.getD j zE).a) ++ L.filter (toF (L.getD j zE).b))) ?_ _ ⟨0, 0, (fun kz => ([us3 3, us3 28, us3 29, us3 30, us3 31, us3 32, us3 33, us3 34, us3 35, us3 36] : List Value).getD kz undef), rfl, rfl, Nat.zero_le _, rfl, GG, kt, HTt, kg1, HR12, HM⟩
            clear GG kt kg1 HTt HR12 HM
            rintro mz az wq ⟨k, c, us4, rfl, rfl, hk, hc, GG, kt, HTt, kg1, HR12, HM⟩
            have hMl := eqc_le (L.getD j zE) (L.filter (toF (L.getD j zE).a) ++ L.filter (toF (L.getD j zE).b)) k
            have hMb := hMM
            refine wp_seq ?_
            refine wp_region_lit ?_
            cases hk1 : decide (((k : Nat) : Int) < (((L.filter (toF (L.getD j zE).a) ++ L.filter (toF (L.getD j zE).b)).length : Nat) : Int))
            · have hke : k = (L.filter (toF (L.getD j zE).a) ++ L.filter (toF (L.getD j zE).b)).length := by have := of_decide_eq_false hk1; omega
              refine s_val 86 rfl rfl (.bool false) (run_lssT 3 _ _ _ rfl ((k : Nat) : Int) (((L.filter (toF (L.getD j zE).a) ++ L.filter (toF (L.getD j zE).b)).length : Nat) : Int) rfl rfl false hk1 _) ?_
              refine nr ?_; intro U h; simp only [z0, z1] at h; subst h
              refine wpList_nil ?_
              refine then_n ?_
              refine wp_seq ?_
              refine wp_cond_false rfl ?_
              refine wp_exit ?_
              refine then_x ?_
              refine then_x ?_
              refine blk_x ?_
              refine then_n ?_
              refine wp_seq ?_
              refine wp_region_lit ?_
              refine s_val 95 rfl rfl (.int .i64 ((c : Nat) : Int)) (rfl) ?_
              refine nr ?_; intro U h; simp only [z0, z1] at h; subst h
              refine s_val 96 rfl rfl (.bool false) (run_neq_k 3 .i64 _ _ _ rfl Try.underlying3 ((c : Nat) : Int) 2 rfl rfl false (decide_eq_true (by rw [hc, hke, List.take_length, eqc_2 hTI.ris.kn hxL]; rfl)) _) ?_
              refine nr ?_; intro U h; simp only [z0, z1] at h; subst h
              refine wpList_nil ?_
              refine then_n ?_
              refine wp_cond_false rfl ?_
              refine wp_skip ?_
              refine blk_n ?_
              refine then_n ?_
              refine wp_region_lit ?_
              refine s_val 97 rfl rfl (.int .i64 ((j + 1 : Nat) : Int)) (run_addI 3 _ _ _ rfl ((j : Nat) : Int) 1 ((j + 1 : Nat) : Int) rfl rfl (by omega) (by omega) (by omega) _) ?_
              refine nr ?_; intro U h; simp only [z0, z1] at h; subst h
              refine s_val 61 rfl rfl (.int .i64 ((j + 1 : Nat) : Int)) (rfl) ?_
              refine nr ?_; intro U h; simp only [z0, z1] at h; subst h
              refine wpList_nil ?_
              refine then_n ?_
              have huc : ucnt (L.getD j zE) = 1 + 0 := by unfold ucnt; rw [if_pos (of_decide_eq_true hna), if_neg (of_decide_eq_false hnb)]
              have hus := usum_step L j hsl
              exact ⟨L.length + 1 - (j + 1), by omega, j + 1, u + 1, (fun kz => ([us3 0, .pointer (some ⟨g1, 0, none⟩), .int .i64 ((c : Nat) : Int), us4 0, .bool true, .pointer (pE ao12 j 0), .agg (enA (L.getD j zE)), .pointer (some ⟨g1, 49, none⟩), .int .i64 ((L.getD j zE).na), .bool true, .int .i64 ((u : Nat) : Int), .int .i64 ((u + 1 : Nat) : Int), .pointer (some ⟨g1, 50, none⟩), .int .i64 ((L.getD j zE).nb), .bool false, us3 15, us3 16, .pointer (some ⟨t, 0, none⟩), .pointer (some ⟨g1, 17, none⟩), .agg (idA ((L.getD j zE).a)), ptrs 3, .pointer (some ⟨t, 0, none⟩), .pointer (some ⟨g1, 33, none⟩), .agg (idA (L.getD j zE).b), ptrs 7, .slice ao9 ((L.filter (toF (L.getD j zE).a) ++ L.filter (toF (L.getD j zE).b)).length) cap9, .int .i64 (((L.filter (toF (L.getD j zE).a) ++ L.filter (toF (L.getD j zE).b)).length : Nat) : Int), .int .i64 ((k : Nat) : Int), .bool false, us4 2, us4 3, us4 4, us4 5, us4 6, us4 7, us4 8, us4 9, .int .i64 ((c : Nat) : Int), .bool false, .int .i64 ((j + 1 : Nat) : Int)] : List Value).getD kz undef), rfl, rfl, by omega, by omega, by omega, GG, kt, HTt, HR12⟩
            · have hkl : k < (L.filter (toF (L.getD j zE).a) ++ L.filter (toF (L.getD j zE).b)).length := by have := of_decide_eq_true hk1; omega
              refine s_val 86 rfl rfl (.bool true) (run_lssT 3 _ _ _ rfl ((k : Nat) : Int) (((L.filter (toF (L.getD j zE).a) ++ L.filter (toF (L.getD j zE).b)).length : Nat) : Int) rfl rfl true hk1 _) ?_
              refine nr ?_; intro U h; simp only [z0, z1] at h; subst h
              refine wpList_nil ?_
              refine then_n ?_
              refine wp_seq ?_
              refine wp_cond_true rfl ?_
              refine wp_skip ?_
              refine then_n ?_
              refine wp_seq ?_
              refine wp_block ?_
              refine wp_seq ?_
              refine wp_region_lit ?_
              refine s_val 87 rfl rfl (.pointer (pE ao9 k 0)) (run_ixE (HM.re) _ _ rfl rfl k rfl (by omega)) ?_
              refine nr ?_; intro U h; simp only [z0, z1] at h; subst h
              refine s_val 88 rfl rfl (.agg (enA ((L.filter (toF (L.getD j zE).a) ++ L.filter (toF (L.getD j zE).b)).getD k zE))) (run_ldE (HM.re) _ rfl k rfl (by omega)) ?_
              refine nr ?_; intro U h; simp only [z0, z1] at h; subst h
              refine s_alloc 15 rfl rfl 33 rfl _ zero33 (enA zE) rfl ?_
              intro w7 g2 G eg2 kg2
              have bg2 := size_base GG eg2
              have dtg2 := lt_new kt eg2
              have dg1g2 := lt_new kg1 eg2
              have dHTtg2 := HTt.ne eg2
              have dHR12g2 := HR12.ne eg2
              have dHMg2 := HM.ne eg2
              replace kt := G.has kt
              replace kg1 := G.has kg1
              replace HTt := HTt.gro G
              replace HR12 := HR12.gro G
              replace HM := HM.gro G
              replace GG := GG.trans G
              clear G
              clear eg2
              refine nr ?_; intro U h; simp only [z0, z1] at h; subst h
              refine s_store rfl rfl 33 _ _ rfl g2 0 rfl (.agg (enA ((L.filter (toF (L.getD j zE).a) ++ L.filter (toF (L.getD j zE).b)).getD k zE))) rfl 33 _ kg2 (enA ((L.filter (toF (L.getD j zE).a) ++ L.filter (toF (L.getD j zE).b)).getD k zE)) rfl (si33' _) (enA_fit _ _) (enA_one _) (enA ((L.filter (toF (L.getD j zE).a) ++ L.filter (toF (L.getD j zE).b)).getD k zE)) (splice_whole _ _ (enA_sz _ _)) ?_
              intro w8 St
              have kS := kg2
              replace kt := St.has (by omega) kt
              replace kg1 := St.has (by omega) kg1
              replace HTt := HTt.st St dHTtg2
              replace HR12 := HR12.st St dHR12g2
              replace HM := HM.st St dHMg2
              replace GG := GG.store St bg2
              replace kg2 := St.new
              clear St
              refine wpList_nil ?_
              refine then_n ?_
              refine wp_seq ?_
              refine wp_region_lit ?_
              refine s_val 89 rfl rfl (.agg (enA ((L.filter (toF (L.getD j zE).a) ++ L.filter (toF (L.getD j zE).b)).getD k zE))) (ldE0 _ rfl g2 rfl (kg2)) ?_
              refine nr ?_; intro U h; simp only [z0, z1] at h; subst h
              refine s_val 90 rfl rfl (.agg (enA (L.getD j zE))) (ldE0 _ rfl g1 rfl (kg1)) ?_
              refine nr ?_; intro U h; simp only [z0, z1] at h; subst h
              cases hx : decide ((L.filter (toF (L.getD j zE).a) ++ L.filter (toF (L.getD j zE).b)).getD k zE = (L.getD j zE))
              · refine s_val 91 rfl rfl (.bool false) (run_eqE _ _ _ rfl _ _ rfl rfl (HM.all.at (by omega)) (HTt.all.at (by omega)) false hx) ?_
                refine nr ?_; intro U h; simp only [z0, z1] at h; subst h
                refine wpList_nil ?_
                refine then_n ?_
                refine wp_cond_false rfl ?_
                refine wp_skip ?_
                refine blk_n ?_
                refine then_n ?_
                refine wp_region_lit ?_
                refine s_val 94 rfl rfl (.int .i64 ((k + 1 : Nat) : Int)) (run_addI 3 _ _ _ rfl ((k : Nat) : Int) 1 ((k + 1 : Nat) : Int) rfl rfl (by omega) (by omega) (by omega) _) ?_
                refine nr ?_; intro U h; simp only [z0, z1] at h; subst h
                refine s_val 85 rfl rfl (.int .i64 ((k + 1 : Nat) : Int)) (rfl) ?_
                refine nr ?_; intro U h; simp only [z0, z1] at h; subst h
                refine wpList_nil ?_
                refine then_n ?_
                have hst := eqc_step (L.getD j zE) (L.filter (toF (L.getD j zE).a) ++ L.filter (toF (L.getD j zE).b)) k hkl
                rw [if_neg (of_decide_eq_false hx)] at hst
                exact ⟨(L.filter (toF (L.getD j zE).a) ++ L.filter (toF (L.getD j zE).b)).length + 1 - (k + 1), by omega, k + 1, c, (fun kz => ([.pointer (some ⟨g2, 0, none⟩), .bool true, .pointer (pE ao9 k 0), .agg (enA ((L.filter (toF (L.getD j zE).a) ++ L.filter (toF (L.getD j zE).b)).getD k zE)), .agg (enA ((L.filter (toF (L.getD j zE).a) ++ L.filter (toF (L.getD j zE).b)).getD k zE)), .agg (enA (L.getD j zE)), .bool false, us4 7, us4 8, .int .i64 ((k + 1 : Nat) : Int)] : List Value).getD kz undef), rfl, rfl, by omega, by omega, GG, kt, HTt, kg1, HR12, HM⟩
              · refine s_val 91 rfl rfl (.bool true) (run_eqE _ _ _ rfl _ _ rfl rfl (HM.all.at (by omega)) (HTt.all.at (by omega)) true hx) ?_
                refine nr ?_; intro U h; simp only [z0, z1] at h; subst h
                refine wpList_nil ?_
                refine then_n ?_
                refine wp_cond_true rfl ?_
                refine wp_region_lit ?_
                refine s_val 92 rfl rfl (.int .i64 ((c : Nat) : Int)) (rfl) ?_
                refine nr ?_; intro U h; simp only [z0, z1] at h; subst h
                refine s_val 93 rfl rfl (.int .i64 ((c + 1 : Nat) : Int)) (run_addI 3 _ _ _ rfl ((c : Nat) : Int) 1 ((c + 1 : Nat) : Int) rfl rfl (by omega) (by omega) (by omega) _) ?_
                refine nr ?_; intro U h; simp only [z0, z1] at h; subst h
                refine s_val 13 rfl rfl (.int .i64 ((c + 1 : Nat) : Int)) (rfl) ?_
                refine nr ?_; intro U h; simp only [z0, z1] at h; subst h
                refine wpList_nil ?_
                refine blk_n ?_
                refine then_n ?_
                refine wp_region_lit ?_
                refine s_val 94 rfl rfl (.int .i64 ((k + 1 : Nat) : Int)) (run_addI 3 _ _ _ rfl ((k : Nat) : Int) 1 ((k + 1 : Nat) : Int) rfl rfl (by omega) (by omega) (by omega) _) ?_
                refine nr ?_; intro U h; simp only [z0, z1] at h; subst h
                refine s_val 85 rfl rfl (.int .i64 ((k + 1 : Nat) : Int)) (rfl) ?_
                refine nr ?_; intro U h; simp only [z0, z1] at h; subst h
                refine wpList_nil ?_
                refine then_n ?_
                have hst := eqc_step (L.getD j zE) (L.filter (toF (L.getD j zE).a) ++ L.filter (toF (L.getD j zE).b)) k hkl
                rw [if_pos (of_decide_eq_true hx)] at hst
                exact ⟨(L.filter (toF (L.getD j zE).a) ++ L.filter (toF (L.getD j zE).b)).length + 1 - (k + 1), by omega, k + 1, c + 1, (fun kz => ([.pointer (some ⟨g2, 0, none⟩), .bool true, .pointer (pE ao9 k 0), .agg (enA ((L.filter (toF (L.getD j zE).a) ++ L.filter (toF (L.getD j zE).b)).getD k zE)), .agg (enA ((L.filter (toF (L.getD j zE).a) ++ L.filter (toF (L.getD j zE).b)).getD k zE)), .agg (enA (L.getD j zE)), .bool true, .int .i64 ((c : Nat) : Int), .int .i64 ((c + 1 : Nat) : Int), .int .i64 ((k + 1 : Nat) : Int)] : List Value).getD kz undef), rfl, rfl, by omega, by omega, GG, kt, HTt, kg1, HR12, HM⟩
          · refine s_val 72 rfl rfl (.bool true) (run_geqT 3 _ _ _ rfl ((L.getD j zE).nb) 0 rfl rfl true hnb _) ?_
            refine nr ?_; intro U h; simp only [z0, z1] at h; subst h
            refine wpList_nil ?_
            refine then_n ?_
            refine wp_cond_true rfl ?_
            refine wp_region_lit ?_
            refine s_val 73 rfl rfl (.int .i64 ((u + 1 : Nat) : Int)) (rfl) ?_
            refine nr ?_; intro U h; simp only [z0, z1] at h; subst h
            refine s_val 74 rfl rfl (.int .i64 ((u + 1 + 1 : Nat) : Int)) (run_addI 3 _ _ _ rfl ((u + 1 : Nat) : Int) 1 ((u + 1 + 1 : Nat) : Int) rfl rfl (by omega) (by omega) (by omega) _) ?_
            refine nr ?_; intro U h; simp only [z0, z1] at h; subst h
            refine s_val 10 rfl rfl (.int .i64 ((u + 1 + 1 : Nat) : Int)) (rfl) ?_
            refine nr ?_; intro U h; simp only [z0, z1] at h; subst h
            refine wpList_nil ?_
            refine then_n ?_
            refine wp_seq ?_
            refine wp_region_lit ?_
            refine s_val 13 rfl rfl (.int .i64 0) (rfl) ?_
            refine nr ?_; intro U h; simp only [z0, z1] at h; subst h
            refine wpList_nil ?_
            refine then_n ?_
            refine wp_seq ?_
            refine wp_seq ?_
            obtain ⟨BB, hB⟩ : ∃ B, w5.heap.size = B := ⟨_, rfl⟩
            have hwB : w.heap.size ≤ BB := hB ▸ GG.size
            have hl1 := List.length_filter_le (toF (L.getD j zE).a) L
            have hl2 := List.length_filter_le (toF (L.getD j zE).b) L
            have hMM : (L.filter (toF (L.getD j zE).a) ++ L.filter (toF (L.getD j zE).b)).length ≤ 256 := by rw [List.length_append]; omega
            have hxL := getD_in hsl
            have hxo := HTt.all _ hxL
            refine wp_region_pm (A := ?Ax6) (fun _ x => Gro w5.drew x) 11 [(0, 75), (1, 76), (2, 77), (3, 78), (4, 79), (5, 80), (6, 81), (7, 82), (8, 83), (9, 84), (10, 85)] [.val (.pointer (some ⟨t, 0, none⟩)), .val (.pointer (some ⟨g1, 17, none⟩)), .val (.agg (idA (L.getD j zE).a)), ownB BB (L.filter (toF (L.getD j zE).a)), .val (.pointer (some ⟨t, 0, none⟩)), .val (.pointer (some ⟨g1, 33, none⟩)), .val (.agg (idA (L.getD j zE).b)), ownB BB (L.filter (toF (L.getD j zE).b)), ownB BB (L.filter (toF (L.getD j zE).a) ++ L.filter (toF (L.getD j zE).b)), .val (.int .i64 (((L.filter (toF (L.getD j zE).a) ++ L.filter (toF (L.getD j zE).b)).length : Nat) : Int)), .val (.int .i64 0)] [(8, 3), (8, 7)] [8] follows (by kernel_rfl) rfl (by kernel_rfl) (by decide) (Gro.refl _) ?hAx6 (opsM_g (fun _ _ _ h _ g => h.trans g) ?p0x6 (opsM_g (fun _ _ _ h _ g => h.trans g) ?p1x6 (opsM_g (fun _ _ _ h _ g => h.trans g) ?p2x6 (opsM_g (fun _ _ _ h _ g => h.trans g) ?p3x6 (opsM_g (fun _ _ _ h _ g => h.trans g) ?p4x6 (opsM_g (fun _ _ _ h _ g => h.trans g) ?p5x6 (opsM_g (fun _ _ _ h _ g => h.trans g) ?p6x6 (opsM_g (fun _ _ _ h _ g => h.trans g) ?p7x6 (opsM_w ?p8x6 (opsM_g (fun _ _ _ h _ g => h.trans g) ?p9x6 (opsM_g (fun _ _ _ h _ g => h.trans g) ?p10x6 opsM_nil))))))))))) ?restx6
            case hAx6 =>
              intro ptrs
              simp only [full, foldSlots, filledE, postE, List.foldl_cons, List.foldl_nil, List.getD_cons_zero, List.getD_cons_succ, fill_val, fill_ownB, List.set_cons_zero, List.set_cons_succ]
              exact rfl
            case p0x6 => exact fun _ _ _ _ _ _ _ _ => opE_move (v := .pointer (some ⟨t, 0, none⟩)) _ rfl rfl rfl
            case p4x6 => exact fun _ _ _ _ _ _ _ _ => opE_move (v := .pointer (some ⟨t, 0, none⟩)) _ rfl rfl rfl
            case p10x6 => exact fun _ _ _ _ _ _ _ _ => opE_move (v := .int .i64 0) _ rfl rfl rfl
            case p1x6 => exact fun _ _ _ _ _ _ _ _ => opE_value (v := .pointer (some ⟨g1, 17, none⟩)) rfl (run_fld 33 _ 1 rfl g1 0 rfl 17 (by kernel_rfl))
            case p5x6 => exact fun _ _ _ _ _ _ _ _ => opE_value (v := .pointer (some ⟨g1, 33, none⟩)) rfl (run_fld 33 _ 2 rfl g1 0 rfl 33 (by kernel_rfl))
            case p2x6 => exact fun _ _ _ hw _ _ _ _ => opE_value (v := .agg (idA (L.getD j zE).a)) rfl (ldEa _ rfl g1 rfl (hw.has kg1))
            case p6x6 => exact fun _ _ _ hw _ _ _ _ => opE_value (v := .agg (idA (L.getD j zE).b)) rfl (ldEb _ rfl g1 rfl (hw.has kg1))
            case p3x6 => exact fun _ _ _ hw _ _ _ _ => opE_call (ownB BB (L.filter (toF (L.getD j zE).a))) rfl _ 21 Try.call21 rfl rfl _ rfl [.pointer (some ⟨t, 0, none⟩), .agg (idA (L.getD j zE).a)] rfl ((to_any _ t b 128 L (hw.has kt) (HTt.gro ((Gro.refl _).drew.trans hw)) (L.getD j zE).a hxo.a hTI.ris (Nat.le_trans hTI.fit (by decide))).mono fun e w' ⟨ao, cap, he, hg, hr⟩ => ⟨_, he, hg, ao, cap, rfl, hr.mono (Nat.le_trans (Nat.le_of_eq hB.symm) hw.size)⟩)
            case p7x6 => exact fun _ _ _ hw _ _ _ _ => opE_call (ownB BB (L.filter (toF (L.getD j zE).b))) rfl _ 21 Try.call21 rfl rfl _ rfl [.pointer (some ⟨t, 0, none⟩), .agg (idA (L.getD j zE).b)] rfl ((to_any _ t b 128 L (hw.has kt) (HTt.gro ((Gro.refl _).drew.trans hw)) (L.getD j zE).b hxo.b hTI.ris (Nat.le_trans hTI.fit (by decide))).mono fun e w' ⟨ao, cap, he, hg, hr⟩ => ⟨_, he, hg, ao, cap, rfl, hr.mono (Nat.le_trans (Nat.le_of_eq hB.symm) hw.size)⟩)
            case p8x6 =>
              intro L9 ptrs x hw _ _ _ hE
              obtain ⟨⟨ao2, cap2, h2, o2⟩, ⟨ao4, cap4, h4, o4⟩, _⟩ := hE
              refine opX_apE (ownB BB (L.filter (toF (L.getD j zE).a) ++ L.filter (toF (L.getD j zE).b))) rfl _ _ rfl (ao := ao2) (cap := cap2) (l := (L.filter (toF (L.getD j zE).a))) h2 o2 (ao' := ao4) (cap' := cap4) (l' := (L.filter (toF (L.getD j zE).b))) h4 o4.re (by omega) (Nat.le_trans (Nat.le_of_eq hB.symm) hw.size) ?_
              intro ao9 cap9 w' HO9 GS hbl
              refine ⟨⟨?_, StM.vals [0, 1, 2, 4, 5, 6, 9, 10] (by kernel_rfl) ⟨⟨_, rfl⟩, ⟨_, rfl⟩, ⟨_, rfl⟩, ⟨_, rfl⟩, ⟨_, rfl⟩, ⟨_, rfl⟩, ⟨_, rfl⟩, ⟨_, rfl⟩, trivial⟩⟩, ao9, cap9, rfl, HO9⟩
              exact GS.gro hw (fun k hk => by have := hbl k hk; exact Nat.le_trans (Nat.le_of_eq hB) this)
            case p9x6 =>
              intro L9 ptrs x hw _ _ _ hE
              obtain ⟨⟨ao8, cap8, h8, o8⟩, _⟩ := hE
              refine opE_value (v := .int .i64 (((L.filter (toF (L.getD j zE).a) ++ L.filter (toF (L.getD j zE).b)).length : Nat) : Int)) rfl (run_len Try.underlying41 _ rfl ao8 _ cap8 ?_ _)
              exact h8
            intro ptrs w6 GD hxE
            simp only [List.drop_succ_cons, List.drop_zero]
            replace kt := GD.has kt
            replace kg1 := GD.has kg1
            replace HTt := HTt.gro ((Gro.refl _).drew.trans GD)
            replace HR12 := HR12.gro ((Gro.refl _).drew.trans GD)
            replace GG := GG.drew.trans GD
            obtain ⟨⟨ao9, cap9, hx9, HM⟩, _⟩ := hxE
            simp only [hx9]
            clear hx9 GD
            refine wpList_nil ?_
            refine then_n ?_
            refine wp_block ?_
            refine wp_loopN (fun mz az wq => ∃ (k : Nat) (c : Nat) (us4 : Nat → Value), mz = (L.filter (toF (L.getD j zE).a) ++ L.filter (toF (L.getD j zE).b)).length + 1 - k ∧ az = ⟨[.slice ao l.length cap, undef, us3 0, .pointer (some ⟨t, 0, none⟩), undef, us1 0, .int .i64 ((v : Nat) : Int), .int .i64 n, undef, us2 1, .int .i64 ((u + 1 + 1 : Nat) : Int), undef, .pointer (some ⟨g1, 0, none⟩), .int .i64 ((c : Nat) : Int), undef, us4 0, .pointer (some ⟨t, 0, none⟩), .pointer (some ⟨t, 0, none⟩), .bool false, .bool false, .bool true, .bool false, .bool false, .slice ao l.length cap, .int .i64 ((l.length : Nat) : Int), .int .i64 ((i : Nat) : Int), .bool false, us1 2, us1 3, us1 4, us1 5, us1 6, us1 7, .int .i64 n, .bool false, us2 4, us2 5, us2 6, us2 7, us2 8, us2 9, us2 10, us2 11, us2 12, us2 13, us2 14, us2 15, us2 16, us2 17, us2 18, us2 19, us2 20, us2 21, us2 22, us2 23, us2 24, us2 25, us2 26, .pointer (some ⟨t, 0, none⟩), .slice ao12 L.length cap12, .int .i64 ((L.length : Nat) : Int), .int .i64 ((j : Nat) : Int), .bool true, .pointer (pE ao12 j 0), .agg (enA (L.getD j zE)), .pointer (some ⟨g1, 49, none⟩), .int .i64 ((L.getD j zE).na), .bool true, .int .i64 ((u : Nat) : Int), .int .i64 ((u + 1 : Nat) : Int), .pointer (some ⟨g1, 50, none⟩), .int .i64 ((L.getD j zE).nb), .bool true, .int .i64 ((u + 1 : Nat) : Int), .int .i64 ((u + 1 + 1 : Nat) : Int), .pointer (some ⟨t, 0, none⟩), .pointer (some ⟨g1, 17, none⟩), .agg (idA ((L.getD j zE).a)), ptrs 3, .pointer (some ⟨t, 0, none⟩), .pointer (some ⟨g1, 33, none⟩), .agg (idA (L.getD j zE).b), ptrs 7, .slice ao9 ((L.filter (toF (L.getD j zE).a) ++ L.filter (toF (L.getD j zE).b)).length) cap9, .int .i64 (((L.filter (toF (L.getD j zE).a) ++ L.filter (toF (L.getD j zE).b)).length : Nat) : Int), .int .i64 ((k : Nat) : Int), us4 1, us4 2, us4 3, us4 4, us4 5, us4 6, us4 7, us4 8, us4 9, us3 37, us3 38, us3 39, undef, undef, undef].toArray, []⟩ ∧ k ≤ (L.filter (toF (L.getD j zE).a) ++ L.filter (toF (L.getD j zE).b)).length ∧ c = eqc (L.getD j zE) ((L.filter (toF (L.getD j zE).a) ++ L.filter (toF (L.getD j zE).b)).take k) ∧ Gro w wq ∧ wq.heap[t]? = some (.cells (tbA 128 b) 59 (0, 0)) ∧ TM wq b L ∧ wq.heap[g1]? = some (.cells (enA (L.getD j zE)) 33 (0, 0)) ∧ RE wq ao12 cap12 L ∧ OE wq BB ao9 cap9 (L.filter (toF (L.getD j zE).a) ++ L.filter (toF (L.getD j zE).b))) ?_ _ ⟨0, 0, (fun kz => ([us3 3, us3 28, us3 29, us3 30, us3 31, us3 32, us3 33, us3 34, us3 35, us3 36] : List Value).getD kz undef), rfl, rfl, Nat.zero_le _, rfl, GG, kt, HTt, kg1, HR12, HM⟩
            clear GG kt kg1 HTt HR12 HM
            rintro mz az wq ⟨k, c, us4, rfl, rfl, hk, hc, GG, kt, HTt, kg1, HR12, HM⟩
            have hMl := eqc_le (L.getD j zE) (L.filter (toF (L.getD j zE).a) ++ L.filter (toF (L.getD j zE).b)) k
            have hMb := hMM
            refine wp_seq ?_
            refine wp_region_lit ?_
            cases hk1 : decide (((k : Nat) : Int) < (((L.filter (toF (L.getD j zE).a) ++ L.filter (toF (L.getD j zE).b)).length : Nat) : Int))
            · have hke : k = (L.filter (toF (L.getD j zE).a) ++ L.filter (toF (L.getD j zE).b)).length := by have := of_decide_eq_false hk1; omega
              refine s_val 86 rfl rfl (.bool false) (run_lssT 3 _ _ _ rfl ((k : Nat) : Int) (((L.filter (toF (L.getD j zE).a) ++ L.filter (toF (L.getD j zE).b)).length : Nat) : Int) rfl rfl false hk1 _) ?_
              refine nr ?_; intro U h; simp only [z0, z1] at h; subst h
              refine wpList_nil ?_
              refine then_n ?_
              refine wp_seq ?_
              refine wp_cond_false rfl ?_
              refine wp_exit ?_
              refine then_x ?_
              refine then_x ?_
              refine blk_x ?_
              refine then_n ?_
              refine wp_seq ?_
              refine wp_region_lit ?_
              refine s_val 95 rfl rfl (.int .i64 ((c : Nat) : Int)) (rfl) ?_
              refine nr ?_; intro U h; simp only [z0, z1] at h; subst h
              refine s_val 96 rfl rfl (.bool false) (run_neq_k 3 .i64 _ _ _ rfl Try.underlying3 ((c : Nat) : Int) 2 rfl rfl false (decide_eq_true (by rw [hc, hke, List.take_length, eqc_2 hTI.ris.kn hxL]; rfl)) _) ?_
              refine nr ?_; intro U h; simp only [z0, z1] at h; subst h
              refine wpList_nil ?_
              refine then_n ?_
              refine wp_cond_false rfl ?_
              refine wp_skip ?_
              refine blk_n ?_
              refine then_n ?_
              refine wp_region_lit ?_
              refine s_val 97 rfl rfl (.int .i64 ((j + 1 : Nat) : Int)) (run_addI 3 _ _ _ rfl ((j : Nat) : Int) 1 ((j + 1 : Nat) : Int) rfl rfl (by omega) (by omega) (by omega) _) ?_
              refine nr ?_; intro U h; simp only [z0, z1] at h; subst h
              refine s_val 61 rfl rfl (.int .i64 ((j + 1 : Nat) : Int)) (rfl) ?_
              refine nr ?_; intro U h; simp only [z0, z1] at h; subst h
              refine wpList_nil ?_
              refine then_n ?_
              have huc : ucnt (L.getD j zE) = 1 + 1 := by unfold ucnt; rw [if_pos (of_decide_eq_true hna), if_pos (of_decide_eq_true hnb)]
              have hus := usum_step L j hsl
              exact ⟨L.length + 1 - (j + 1), by omega, j + 1, u + 1 + 1, (fun kz => ([us3 0, .pointer (some ⟨g1, 0, none⟩), .int .i64 ((c : Nat) : Int), us4 0, .bool true, .pointer (pE ao12 j 0), .agg (enA (L.getD j zE)), .pointer (some ⟨g1, 49, none⟩), .int .i64 ((L.getD j zE).na), .bool true, .int .i64 ((u : Nat) : Int), .int .i64 ((u + 1 : Nat) : Int), .pointer (some ⟨g1, 50, none⟩), .int .i64 ((L.getD j zE).nb), .bool true, .int .i64 ((u + 1 : Nat) : Int), .int .i64 ((u + 1 + 1 : Nat) : Int), .pointer (some ⟨t, 0, none⟩), .pointer (some ⟨g1, 17, none⟩), .agg (idA ((L.getD j zE).a)), ptrs 3, .pointer (some ⟨t, 0, none⟩), .pointer (some ⟨g1, 33, none⟩), .agg (idA (L.getD j zE).b), ptrs 7, .slice ao9 ((L.filter (toF (L.getD j zE).a) ++ L.filter (toF (L.getD j zE).b)).length) cap9, .int .i64 (((L.filter (toF (L.getD j zE).a) ++ L.filter (toF (L.getD j zE).b)).length : Nat) : Int), .int .i64 ((k : Nat) : Int), .bool false, us4 2, us4 3, us4 4, us4 5, us4 6, us4 7, us4 8, us4 9, .int .i64 ((c : Nat) : Int), .bool false, .int .i64 ((j + 1 : Nat) : Int)] : List Value).getD kz undef), rfl, rfl, by omega, by omega, by omega, GG, kt, HTt, HR12⟩
            · have hkl : k < (L.filter (toF (L.getD j zE).a) ++ L.filter (toF (L.getD j zE).b)).length := by have := of_decide_eq_true hk1; omega
              refine s_val 86 rfl rfl (.bool true) (run_lssT 3 _ _ _ rfl ((k : Nat) : Int) (((L.filter (toF (L.getD j zE).a) ++ L.filter (toF (L.getD j zE).b)).length : Nat) : Int) rfl rfl true hk1 _) ?_
              refine nr ?_; intro U h; simp only [z0, z1] at h; subst h
              refine wpList_nil ?_
              refine then_n ?_
              refine wp_seq ?_
              refine wp_cond_true rfl ?_
              refine wp_skip ?_
              refine then_n ?_
              refine wp_seq ?_
              refine wp_block ?_
              refine wp_seq ?_
              refine wp_region_lit ?_
              refine s_val 87 rfl rfl (.pointer (pE ao9 k 0)) (run_ixE (HM.re) _ _ rfl rfl k rfl (by omega)) ?_
              refine nr ?_; intro U h; simp only [z0, z1] at h; subst h
              refine s_val 88 rfl rfl (.agg (enA ((L.filter (toF (L.getD j zE).a) ++ L.filter (toF (L.getD j zE).b)).getD k zE))) (run_ldE (HM.re) _ rfl k rfl (by omega)) ?_
              refine nr ?_; intro U h; simp only [z0, z1] at h; subst h
              refine s_alloc 15 rfl rfl 33 rfl _ zero33 (enA zE) rfl ?_
              intro w7 g2 G eg2 kg2
              have bg2 := size_base GG eg2
              have dtg2 := lt_new kt eg2
              have dg1g2 := lt_new kg1 eg2
              have dHTtg2 := HTt.ne eg2
              have dHR12g2 := HR12.ne eg2
              have dHMg2 := HM.ne eg2
              replace kt := G.has kt
              replace kg1 := G.has kg1
              replace HTt := HTt.gro G
              replace HR12 := HR12.gro G
              replace HM := HM.gro G
              replace GG := GG.trans G
              clear G
              clear eg2
              refine nr ?_; intro U h; simp only [z0, z1] at h; subst h
              refine s_store rfl rfl 33 _ _ rfl g2 0 rfl (.agg (enA ((L.filter (toF (L.getD j zE).a) ++ L.filter (toF (L.getD j zE).b)).getD k zE))) rfl 33 _ kg2 (enA ((L.filter (toF (L.getD j zE).a) ++ L.filter (toF (L.getD j zE).b)).getD k zE)) rfl (si33' _) (enA_fit _ _) (enA_one _) (enA ((L.filter (toF (L.getD j zE).a) ++ L.filter (toF (L.getD j zE).b)).getD k zE)) (splice_whole _ _ (enA_sz _ _)) ?_
              intro w8 St
              have kS := kg2
              replace kt := St.has (by omega) kt
              replace kg1 := St.has (by omega) kg1
              replace HTt := HTt.st St dHTtg2
              replace HR12 := HR12.st St dHR12g2
              replace HM := HM.st St dHMg2
              replace GG := GG.store St bg2
              replace kg2 := St.new
              clear St
              refine wpList_nil ?_
              refine then_n ?_
              refine wp_seq ?_
              refine wp_region_lit ?_
              refine s_val 89 rfl rfl (.agg (enA ((L.filter (toF (L.getD j zE).a) ++ L.filter (toF (L.getD j zE).b)).getD k zE))) (ldE0 _ rfl g2 rfl (kg2)) ?_
              refine nr ?_; intro U h; simp only [z0, z1] at h; subst h
              refine s_val 90 rfl rfl (.agg (enA (L.getD j zE))) (ldE0 _ rfl g1 rfl (kg1)) ?_
              refine nr ?_; intro U h; simp only [z0, z1] at h; subst h
              cases hx : decide ((L.filter (toF (L.getD j zE).a) ++ L.filter (toF (L.getD j zE).b)).getD k zE = (L.getD j zE))
              · refine s_val 91 rfl rfl (.bool false) (run_eqE _ _ _ rfl _ _ rfl rfl (HM.all.at (by omega)) (HTt.all.at (by omega)) false hx) ?_
                refine nr ?_; intro U h; simp only [z0, z1] at h; subst h
                refine wpList_nil ?_
                refine then_n ?_
                refine wp_cond_false rfl ?_
                refine wp_skip ?_
                refine blk_n ?_
                refine then_n ?_
                refine wp_region_lit ?_
                refine s_val 94 rfl rfl (.int .i64 ((k + 1 : Nat) : Int)) (run_addI 3 _ _ _ rfl ((k : Nat) : Int) 1 ((k + 1 : Nat) : Int) rfl rfl (by omega) (by omega) (by omega) _) ?_
                refine nr ?_; intro U h; simp only [z0, z1] at h; subst h
                refine s_val 85 rfl rfl (.int .i64 ((k + 1 : Nat) : Int)) (rfl) ?_
                refine nr ?_; intro U h; simp only [z0, z1] at h; subst h
                refine wpList_nil ?_
                refine then_n ?_
                have hst := eqc_step (L.getD j zE) (L.filter (toF (L.getD j zE).a) ++ L.filter (toF (L.getD j zE).b)) k hkl
                rw [if_neg (of_decide_eq_false hx)] at hst
                exact ⟨(L.filter (toF (L.getD j zE).a) ++ L.filter (toF (L.getD j zE).b)).length + 1 - (k + 1), by omega, k + 1, c, (fun kz => ([.pointer (some ⟨g2, 0, none⟩), .bool true, .pointer (pE ao9 k 0), .agg (enA ((L.filter (toF (L.getD j zE).a) ++ L.filter (toF (L.getD j zE).b)).getD k zE)), .agg (enA ((L.filter (toF (L.getD j zE).a) ++ L.filter (toF (L.getD j zE).b)).getD k zE)), .agg (enA (L.getD j zE)), .bool false, us4 7, us4 8, .int .i64 ((k + 1 : Nat) : Int)] : List Value).getD kz undef), rfl, rfl, by omega, by omega, GG, kt, HTt, kg1, HR12, HM⟩
              · refine s_val 91 rfl rfl (.bool true) (run_eqE _ _ _ rfl _ _ rfl rfl (HM.all.at (by omega)) (HTt.all.at (by omega)) true hx) ?_
                refine nr ?_; intro U h; simp only [z0, z1] at h; subst h
                refine wpList_nil ?_
                refine then_n ?_
                refine wp_cond_true rfl ?_
                refine wp_region_lit ?_
                refine s_val 92 rfl rfl (.int .i64 ((c : Nat) : Int)) (rfl) ?_
                refine nr ?_; intro U h; simp only [z0, z1] at h; subst h
                refine s_val 93 rfl rfl (.int .i64 ((c + 1 : Nat) : Int)) (run_addI 3 _ _ _ rfl ((c : Nat) : Int) 1 ((c + 1 : Nat) : Int) rfl rfl (by omega) (by omega) (by omega) _) ?_
                refine nr ?_; intro U h; simp only [z0, z1] at h; subst h
                refine s_val 13 rfl rfl (.int .i64 ((c + 1 : Nat) : Int)) (rfl) ?_
                refine nr ?_; intro U h; simp only [z0, z1] at h; subst h
                refine wpList_nil ?_
                refine blk_n ?_
                refine then_n ?_
                refine wp_region_lit ?_
                refine s_val 94 rfl rfl (.int .i64 ((k + 1 : Nat) : Int)) (run_addI 3 _ _ _ rfl ((k : Nat) : Int) 1 ((k + 1 : Nat) : Int) rfl rfl (by omega) (by omega) (by omega) _) ?_
                refine nr ?_; intro U h; simp only [z0, z1] at h; subst h
                refine s_val 85 rfl rfl (.int .i64 ((k + 1 : Nat) : Int)) (rfl) ?_
                refine nr ?_; intro U h; simp only [z0, z1] at h; subst h
                refine wpList_nil ?_
                refine then_n ?_
                have hst := eqc_step (L.getD j zE) (L.filter (toF (L.getD j zE).a) ++ L.filter (toF (L.getD j zE).b)) k hkl
                rw [if_pos (of_decide_eq_true hx)] at hst
                exact ⟨(L.filter (toF (L.getD j zE).a) ++ L.filter (toF (L.getD j zE).b)).length + 1 - (k + 1), by omega, k + 1, c + 1, (fun kz => ([.pointer (some ⟨g2, 0, none⟩), .bool true, .pointer (pE ao9 k 0), .agg (enA ((L.filter (toF (L.getD j zE).a) ++ L.filter (toF (L.getD j zE).b)).getD k zE)), .agg (enA ((L.filter (toF (L.getD j zE).a) ++ L.filter (toF (L.getD j zE).b)).getD k zE)), .agg (enA (L.getD j zE)), .bool true, .int .i64 ((c : Nat) : Int), .int .i64 ((c + 1 : Nat) : Int), .int .i64 ((k + 1 : Nat) : Int)] : List Value).getD kz undef), rfl, rfl, by omega, by omega, GG, kt, HTt, kg1, HR12, HM⟩
    · have hi7 : p < 8 := by have := of_decide_eq_true hi1; omega
      refine s_val 34 rfl rfl (.bool true) (run_lssT 3 _ _ _ rfl n 7 rfl rfl true hi1 _) ?_
      refine nr ?_; intro U h; simp only [z0, z1] at h; subst h
      refine wpList_nil ?_
      refine then_n ?_
      refine wp_cond_true rfl ?_
      refine wp_skip ?_
      refine then_n ?_
      refine wp_seq ?_
      refine wp_block ?_
      refine wp_seq ?_
      refine wp_region_lit ?_
      refine s_val 37 rfl rfl (.pointer (some ⟨t, 0, none⟩)) (rfl) ?_
      refine nr ?_; intro U h; simp only [z0, z1] at h; subst h
      refine s_val 38 rfl rfl (.int .i64 n) (rfl) ?_
      refine nr ?_; intro U h; simp only [z0, z1] at h; subst h
      refine s_callx 39 rfl rfl _ 19 Try.call19 rfl rfl _ rfl [.pointer (some ⟨t, 0, none⟩), .int .i64 n] rfl (via_any _ t b 128 L (kt) (HTt) n hTI.ris (Nat.le_trans hTI.fit (by decide))) (by rintro _ _ ⟨_, _, he, _⟩; exact ⟨_, he⟩) ?_
      rintro v w3 ⟨ao12, cap12, he, G, HO12⟩
      cases he
      replace HO12 := HO12.mono GG.size
      replace kt := G.has kt
      replace HTt := HTt.gro G
      replace GG := GG.trans G
      clear G
      have HR12 := HO12.re
      refine nr ?_; intro U h; simp only [z0, z1] at h; subst h
      refine s_val 40 rfl rfl (.int .i64 (((L.filter (viaF n)).length : Nat) : Int)) (run_len Try.underlying41 _ rfl _ _ _ rfl _) ?_
      refine nr ?_; intro U h; simp only [z0, z1] at h; subst h
      refine s_val 41 rfl rfl (.int .i64 0) (rfl) ?_
      refine nr ?_; intro U h; simp only [z0, z1] at h; subst h
      refine wpList_nil ?_
      refine then_n ?_
      refine wp_block ?_
      have hvl := List.length_filter_le (viaF n) L
      refine wp_loopN (fun mz az wy => ∃ (j : Nat) (us3 : Nat → Value), mz = (L.filter (viaF n)).length + 1 - j ∧ az = ⟨[.slice ao l.length cap, undef, us3 0, .pointer (some ⟨t, 0, none⟩), undef, us1 0, .int .i64 ((v + j : Nat) : Int), .int .i64 n, undef, us3 1, undef, undef, undef, undef, undef, undef, .pointer (some ⟨t, 0, none⟩), .pointer (some ⟨t, 0, none⟩), .bool false, .bool false, .bool true, .bool false, .bool false, .slice ao l.length cap, .int .i64 ((l.length : Nat) : Int), .int .i64 ((i : Nat) : Int), .bool false, us1 2, us1 3, us1 4, us1 5, us1 6, us1 7, .int .i64 n, .bool true, us2 4, us2 5, .pointer (some ⟨t, 0, none⟩), .int .i64 n, .slice ao12 ((L.filter (viaF n)).length) cap12, .int .i64 (((L.filter (viaF n)).length : Nat) : Int), .int .i64 ((j : Nat) : Int), us3 2, us3 3, us3 4, us3 5, us3 6, us3 7, us3 8, us3 9, us3 10, us3 11, us3 12, us3 13, us3 14, us3 15, us3 16, us3 17, undef, undef, undef, undef, undef, undef, undef, undef, undef, undef, undef, undef, undef, undef, undef, undef, undef, undef, undef, undef, undef, undef, undef, undef, undef, undef, undef, undef, undef, undef, undef, undef, undef, undef, undef, undef, undef, undef, undef, undef, undef, undef, undef].toArray, []⟩ ∧ j ≤ (L.filter (viaF n)).length ∧ Gro w wy ∧ wy.heap[t]? = some (.cells (tbA 128 b) 59 (0, 0)) ∧ TM wy b L ∧ RE wy ao12 cap12 (L.filter (viaF n))) ?_ _ ⟨0, (fun kz => ([us2 0, us2 1, us2 11, us2 12, us2 13, us2 14, us2 15, us2 16, us2 17, us2 18, us2 19, us2 20, us2 21, us2 22, us2 23, us2 24, us2 25, us2 26] : List Value).getD kz undef), rfl, rfl, Nat.zero_le _, GG, kt, HTt, HR12⟩
      clear GG kt HTt HR12
      rintro mz az wy ⟨j, us3, rfl, rfl, hj, GG, kt, HTt, HR12⟩
      refine wp_seq ?_
      refine wp_region_lit ?_
      cases hq1 : decide (((j : Nat) : Int) < (((L.filter (viaF n)).length : Nat) : Int))
      · have hqe : j = (L.filter (viaF n)).length := by have := of_decide_eq_false hq1; omega
        refine s_val 42 rfl rfl (.bool false) (run_lssT 3 _ _ _ rfl ((j : Nat) : Int) (((L.filter (viaF n)).length : Nat) : Int) rfl rfl false hq1 _) ?_
        refine nr ?_; intro U h; simp only [z0, z1] at h; subst h
        refine wpList_nil ?_
        refine then_n ?_
        refine wp_seq ?_
        refine wp_cond_false rfl ?_
        refine wp_exit ?_
        refine then_x ?_
        refine then_x ?_
        refine blk_x ?_
        refine blk_n ?_
        refine then_n ?_
        refine wp_region_lit ?_
        refine s_val 35 rfl rfl (.int .i64 n) (rfl) ?_
        refine nr ?_; intro U h; simp only [z0, z1] at h; subst h
        refine s_val 36 rfl rfl (.int .i64 (n + 1)) (run_addI 3 _ _ _ rfl n 1 (n + 1) rfl rfl (by omega) (by omega) (by omega) _) ?_
        refine nr ?_; intro U h; simp only [z0, z1] at h; subst h
        refine s_val 7 rfl rfl (.int .i64 (n + 1)) (rfl) ?_
        refine nr ?_; intro U h; simp only [z0, z1] at h; subst h
        refine wpList_nil ?_
        refine then_n ?_
        have hvl := List.length_filter_le (viaF n) L
        exact ⟨8 - (p + 1) + 1, by omega, p + 1, v + j, n + 1, (fun kz => ([us3 0, us3 1, .int .i64 n, .bool true, .int .i64 n, .int .i64 (n + 1), .pointer (some ⟨t, 0, none⟩), .int .i64 n, .slice ao12 ((L.filter (viaF n)).length) cap12, .int .i64 (((L.filter (viaF n)).length : Nat) : Int), .int .i64 ((j : Nat) : Int), .bool false, us3 3, us3 4, us3 5, us3 6, us3 7, us3 8, us3 9, us3 10, us3 11, us3 12, us3 13, us3 14, us3 15, us3 16, us3 17] : List Value).getD kz undef), rfl, rfl, by omega, by omega, by rw [hqe, hv, hn]; rfl, by omega, GG, kt, HTt⟩
      · have hql : j < (L.filter (viaF n)).length := by have := of_decide_eq_true hq1; omega
        refine s_val 42 rfl rfl (.bool true) (run_lssT 3 _ _ _ rfl ((j : Nat) : Int) (((L.filter (viaF n)).length : Nat) : Int) rfl rfl true hq1 _) ?_
        refine nr ?_; intro U h; simp only [z0, z1] at h; subst h
        refine wpList_nil ?_
        refine then_n ?_
        refine wp_seq ?_
        refine wp_cond_true rfl ?_
        refine wp_skip ?_
        refine then_n ?_
        refine wp_seq ?_
        refine wp_block ?_
        refine wp_seq ?_
        refine wp_region_lit ?_
        refine s_val 43 rfl rfl (.pointer (pE ao12 j 0)) (run_ixE (HR12) _ _ rfl rfl j rfl (by omega)) ?_
        refine nr ?_; intro U h; simp only [z0, z1] at h; subst h
        refine s_val 44 rfl rfl (.agg (enA ((L.filter (viaF n)).getD j zE))) (run_ldE (HR12) _ rfl j rfl (by omega)) ?_
        refine nr ?_; intro U h; simp only [z0, z1] at h; subst h
        refine s_alloc 9 rfl rfl 33 rfl _ zero33 (enA zE) rfl ?_
        intro w4 g1 G eg1 kg1
        have bg1 := size_base GG eg1
        have dtg1 := lt_new kt eg1
        have dHTtg1 := HTt.ne eg1
        have dHR12g1 := HR12.ne eg1
        replace kt := G.has kt
        replace HTt := HTt.gro G
        replace HR12 := HR12.gro G
        replace GG := GG.trans G
        clear G
        clear eg1
        refine nr ?_; intro U h; simp only [z0, z1] at h; subst h
        refine s_store rfl rfl 33 _ _ rfl g1 0 rfl (.agg (enA ((L.filter (viaF n)).getD j zE))) rfl 33 _ kg1 (enA ((L.filter (viaF n)).getD j zE)) rfl (si33' _) (enA_fit _ _) (enA_one _) (enA ((L.filter (viaF n)).getD j zE)) (splice_whole _ _ (enA_sz _ _)) ?_
        intro w5 St
        have kS := kg1
        replace kt := St.has (by omega) kt
        replace HTt := HTt.st St dHTtg1
        replace HR12 := HR12.st St dHR12g1
        replace GG := GG.store St bg1
        replace kg1 := St.new
        clear St
        refine wpList_nil ?_
        refine then_n ?_
        refine wp_seq ?_
        refine wp_region_lit ?_
        refine s_val 45 rfl rfl (.int .i64 ((v + j : Nat) : Int)) (rfl) ?_
        refine nr ?_; intro U h; simp only [z0, z1] at h; subst h
        refine s_val 46 rfl rfl (.int .i64 ((v + j + 1 : Nat) : Int)) (run_addI 3 _ _ _ rfl ((v + j : Nat) : Int) 1 ((v + j + 1 : Nat) : Int) rfl rfl (by omega) (by omega) (by omega) _) ?_
        refine nr ?_; intro U h; simp only [z0, z1] at h; subst h
        refine s_val 6 rfl rfl (.int .i64 ((v + j + 1 : Nat) : Int)) (rfl) ?_
        refine nr ?_; intro U h; simp only [z0, z1] at h; subst h
        refine wpList_nil ?_
        refine then_n ?_
        refine wp_seq ?_
        refine wp_region_opq ?_
        intro OPS hY
        have y4 := hY 4 51 rfl
        clear hY
        refine s_val 47 rfl rfl (.pointer (some ⟨g1, 49, none⟩)) (run_fld 33 _ 3 rfl g1 0 rfl 49 (by kernel_rfl)) ?_
        refine nr ?_; intro U h; simp only [z0, z1] at h; subst h
        refine s_val 48 rfl rfl (.int .i64 (((L.filter (viaF n)).getD j zE).na)) (ldEna _ rfl g1 rfl (kg1)) ?_
        refine nr ?_; intro U h; simp only [z0, z1] at h; subst h
        refine s_val 49 rfl rfl (.int .i64 n) (rfl) ?_
        refine nr ?_; intro U h; simp only [z0, z1] at h; subst h
        cases hna0 : decide (((L.filter (viaF n)).getD j zE).na = n)
        · have hnb0 := via_nb hql (of_decide_eq_false hna0)
          refine s_val 50 rfl rfl (.bool true) (run_neq_k 3 .i64 _ _ _ rfl Try.underlying3 (((L.filter (viaF n)).getD j zE).na) n rfl rfl true hna0 _) ?_
          refine nr ?_; intro U h; simp only [z0, z1] at h; subst h
          refine s_val 51 rfl rfl (.bool true) (rfl) ?_
          refine nr ?_; intro U h; simp only [z0, z1] at h; subst h
          refine s_gvalY 52 rfl rfl y4 rfl (.pointer (some ⟨g1, 50, none⟩)) (run_fld 33 _ 4 rfl g1 0 rfl 50 (by kernel_rfl)) ?_
          refine nr ?_; intro U h; simp only [z0, z1] at h; subst h
          refine s_gvalY 53 rfl rfl y4 rfl (.int .i64 (((L.filter (viaF n)).getD j zE).nb)) (ldEnb _ rfl g1 rfl (kg1)) ?_
          refine nr ?_; intro U h; simp only [z0, z1] at h; subst h
          refine s_gvalY 54 rfl rfl y4 rfl (.int .i64 n) (rfl) ?_
          refine nr ?_; intro U h; simp only [z0, z1] at h; subst h
          refine s_gvalY 55 rfl rfl y4 rfl (.bool false) (run_neq_k 3 .i64 _ _ _ rfl Try.underlying3 ((L.filter (viaF n)).getD j zE).nb n rfl rfl false (decide_eq_true hnb0) _) ?_
          refine nr ?_; intro U h; simp only [z0, z1] at h; subst h
          refine s_val 56 rfl rfl (.bool false) (rfl) ?_
          refine nr ?_; intro U h; simp only [z0, z1] at h; subst h
          refine wpList_nil ?_
          refine then_n ?_
          refine wp_cond_false rfl ?_
          refine wp_skip ?_
          refine blk_n ?_
          refine then_n ?_
          refine wp_region_lit ?_
          refine s_val 57 rfl rfl (.int .i64 ((j + 1 : Nat) : Int)) (run_addI 3 _ _ _ rfl ((j : Nat) : Int) 1 ((j + 1 : Nat) : Int) rfl rfl (by omega) (by omega) (by omega) _) ?_
          refine nr ?_; intro U h; simp only [z0, z1] at h; subst h
          refine s_val 41 rfl rfl (.int .i64 ((j + 1 : Nat) : Int)) (rfl) ?_
          refine nr ?_; intro U h; simp only [z0, z1] at h; subst h
          refine wpList_nil ?_
          refine then_n ?_
          exact ⟨(L.filter (viaF n)).length + 1 - (j + 1), by omega, j + 1, (fun kz => ([us3 0, .pointer (some ⟨g1, 0, none⟩), .bool true, .pointer (pE ao12 j 0), .agg (enA ((L.filter (viaF n)).getD j zE)), .int .i64 ((v + j : Nat) : Int), .int .i64 ((v + j + 1 : Nat) : Int), .pointer (some ⟨g1, 49, none⟩), .int .i64 (((L.filter (viaF n)).getD j zE).na), .int .i64 n, .bool true, .bool true, .pointer (some ⟨g1, 50, none⟩), .int .i64 (((L.filter (viaF n)).getD j zE).nb), .int .i64 n, .bool false, .bool false, .int .i64 ((j + 1 : Nat) : Int)] : List Value).getD kz undef), rfl, rfl, by omega, GG, kt, HTt, HR12⟩
        · refine s_val 50 rfl rfl (.bool false) (run_neq_k 3 .i64 _ _ _ rfl Try.underlying3 (((L.filter (viaF n)).getD j zE).na) n rfl rfl false hna0 _) ?_
          refine nr ?_; intro U h; simp only [z0, z1] at h; subst h
          refine s_val 51 rfl rfl (.bool false) (rfl) ?_
          refine nr ?_; intro U h; simp only [z0, z1] at h; subst h
          refine s_skipY 52 rfl rfl y4 rfl ?_
          refine nr ?_; intro U h; simp only [z0, z1] at h; subst h
          refine s_skipY 53 rfl rfl y4 rfl ?_
          refine nr ?_; intro U h; simp only [z0, z1] at h; subst h
          refine s_skipY 54 rfl rfl y4 rfl ?_
          refine nr ?_; intro U h; simp only [z0, z1] at h; subst h
          refine s_skipY 55 rfl rfl y4 rfl ?_
          refine nr ?_; intro U h; simp only [z0, z1] at h; subst h
          refine s_val 56 rfl rfl (.bool false) (rfl) ?_
          refine nr ?_; intro U h; simp only [z0, z1] at h; subst h
          refine wpList_nil ?_
          refine then_n ?_
          refine wp_cond_false rfl ?_
          refine wp_skip ?_
          refine blk_n ?_
          refine then_n ?_
          refine wp_region_lit ?_
          refine s_val 57 rfl rfl (.int .i64 ((j + 1 : Nat) : Int)) (run_addI 3 _ _ _ rfl ((j : Nat) : Int) 1 ((j + 1 : Nat) : Int) rfl rfl (by omega) (by omega) (by omega) _) ?_
          refine nr ?_; intro U h; simp only [z0, z1] at h; subst h
          refine s_val 41 rfl rfl (.int .i64 ((j + 1 : Nat) : Int)) (rfl) ?_
          refine nr ?_; intro U h; simp only [z0, z1] at h; subst h
          refine wpList_nil ?_
          refine then_n ?_
          exact ⟨(L.filter (viaF n)).length + 1 - (j + 1), by omega, j + 1, (fun kz => ([us3 0, .pointer (some ⟨g1, 0, none⟩), .bool true, .pointer (pE ao12 j 0), .agg (enA ((L.filter (viaF n)).getD j zE)), .int .i64 ((v + j : Nat) : Int), .int .i64 ((v + j + 1 : Nat) : Int), .pointer (some ⟨g1, 49, none⟩), .int .i64 (((L.filter (viaF n)).getD j zE).na), .int .i64 n, .bool false, .bool false, undef, undef, undef, undef, .bool false, .int .i64 ((j + 1 : Nat) : Int)] : List Value).getD kz undef), rfl, rfl, by omega, GG, kt, HTt, HR12⟩
  · have hjl : i < l.length := by have := of_decide_eq_true hj1; omega
    refine s_val 26 rfl rfl (.bool true) (run_lssT 3 _ _ _ rfl ((i : Nat) : Int) ((l.length : Nat) : Int) rfl rfl true hj1 _) ?_
    refine nr ?_; intro U h; simp only [z0, z1] at h; subst h
    refine wpList_nil ?_
    refine then_n ?_
    refine wp_seq ?_
    refine wp_cond_true rfl ?_
    refine wp_skip ?_
    refine then_n ?_
    refine wp_seq ?_
    refine wp_block ?_
    refine wp_seq ?_
    refine wp_region_lit ?_
    refine s_val 27 rfl rfl (.pointer (pE ao i 0)) (run_ixE (H.gro GG) _ _ rfl rfl i rfl (by omega)) ?_
    refine nr ?_; intro U h; simp only [z0, z1] at h; subst h
    refine s_val 28 rfl rfl (.agg (enA (l.getD i zE))) (run_ldE (H.gro GG) _ rfl i rfl (by omega)) ?_
    refine nr ?_; intro U h; simp only [z0, z1] at h; subst h
    refine s_alloc 5 rfl rfl 33 rfl _ zero33 (enA zE) rfl ?_
    intro w3 g1 G eg1 kg1
    have bg1 := size_base GG eg1
    have dtg1 := lt_new kt eg1
    have dHTtg1 := HTt.ne eg1
    replace kt := G.has kt
    replace HTt := HTt.gro G
    replace GG := GG.trans G
    clear G
    clear eg1
    refine nr ?_; intro U h; simp only [z0, z1] at h; subst h
    refine s_store rfl rfl 33 _ _ rfl g1 0 rfl (.agg (enA (l.getD i zE))) rfl 33 _ kg1 (enA (l.getD i zE)) rfl (si33' _) (enA_fit _ _) (enA_one _) (enA (l.getD i zE)) (splice_whole _ _ (enA_sz _ _)) ?_
    intro w4 St
    have kS := kg1
    replace kt := St.has (by omega) kt
    replace HTt := HTt.st St dHTtg1
    replace GG := GG.store St bg1
    replace kg1 := St.new
    clear St
    refine wpList_nil ?_
    refine then_n ?_
    refine wp_region_lit ?_
    refine s_val 29 rfl rfl (.pointer (some ⟨t, 0, none⟩)) (rfl) ?_
    refine nr ?_; intro U h; simp only [z0, z1] at h; subst h
    refine s_val 30 rfl rfl (.agg (enA (l.getD i zE))) (ldE0 _ rfl g1 rfl (kg1)) ?_
    refine nr ?_; intro U h; simp only [z0, z1] at h; subst h
    refine s_callx 31 rfl rfl _ 12 Try.call12 rfl rfl _ rfl [.pointer (some ⟨t, 0, none⟩), .agg (enA (l.getD i zE))] rfl (add_any _ t b 128 L (kt) (HTt) (l.getD i zE) (H.all.at (by omega))) (by rintro _ _ ⟨he, _⟩; exact ⟨_, he⟩) ?_
    rintro v w5 ⟨he, HT2, G2⟩
    cases he
    replace kt := G2.has kt (by simpa using HTt.nec kt)
    replace kg1 := G2.has kg1 (by simpa using HTt.nec kg1)
    replace GG := G2.gro GG (by simpa using bb)
    clear HTt G2
    have HTt := HT2
    clear HT2
    refine nr ?_; intro U h; simp only [z0, z1] at h; subst h
    refine wpList_nil ?_
    refine blk_n ?_
    refine then_n ?_
    refine wp_region_lit ?_
    refine s_val 32 rfl rfl (.int .i64 ((i + 1 : Nat) : Int)) (run_addI 3 _ _ _ rfl ((i : Nat) : Int) 1 ((i + 1 : Nat) : Int) rfl rfl (by omega) (by omega) (by omega) _) ?_
    refine nr ?_; intro U h; simp only [z0, z1] at h; subst h
    refine s_val 25 rfl rfl (.int .i64 ((i + 1 : Nat) : Int)) (rfl) ?_
    refine nr ?_; intro U h; simp only [z0, z1] at h; subst h
    refine wpList_nil ?_
    refine then_n ?_
    exact ⟨l.length + 1 - (i + 1), by omega, i + 1, addL 128 L (l.getD i zE), (fun kz => ([.pointer (some ⟨g1, 0, none⟩), .bool true, .pointer (pE ao i 0), .agg (enA (l.getD i zE)), .pointer (some ⟨t, 0, none⟩), .agg (enA (l.getD i zE)), .int .i64 (addC 128 L (l.getD i zE)), .int .i64 ((i + 1 : Nat) : Int)] : List Value).getD kz undef), rfl, rfl, by omega, GG, kt, HTt, hTI.add (H.all.at hjl)⟩
end Go.Proofs.Ytgfjclcnolnioaa
