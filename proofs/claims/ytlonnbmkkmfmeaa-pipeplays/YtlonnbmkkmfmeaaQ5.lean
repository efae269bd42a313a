/- A pipe that is filled (PipeFills); what comes from the front (PipeOrder). -/
import Derived.Test.YtlonnbmkkmfmeaaQ4
namespace Go.Proofs.Ytlonnbmkkmfmeaa
open Go.RowKit

/-- Rows of bytes of one's own, in a row of one's own. -/
structure LY (w : World) (B : Nat) (ao : Option Addr) (cap : Nat) (q : List RV) : Prop where
  row : OY w 30 1 B ao cap q.length (q.map RV.v)
  fr : ∀ x ∈ q, OB w 5 .u8 B x.ao x.cap x.l
section
variable {w w' : World} {B : Nat} {ao : Option Addr} {cap : Nat} {q : List RV}
theorem LY.nil (w : World) (B : Nat) : LY w B none 0 [] := ⟨OY.nil _ _ _ _, fun _ h => by cases h⟩
theorem LY.gros {S : List Nat} (H : LY w B ao cap q) (G : GroS S w w') (hr : ∀ k ∈ blk ao, k ∉ S) (hf : ∀ x ∈ q, ∀ ad, x.ao = some ad → ad.block ∉ S) : LY w' B ao cap q := ⟨H.row.gros G hr, fun x hx => (H.fr x hx).gros G (hf x hx)⟩
theorem LY.gro (H : LY w B ao cap q) (G : Gro w w') : LY w' B ao cap q := ⟨H.row.gro G, fun x hx => (H.fr x hx).gro G⟩
theorem LY.f5 (H : LY w B ao cap q) {S : List Nat} (hS : ∀ k ∈ S, ∃ c t', w.heap[k]? = some (.cells c t' (0, 0)) ∧ t' ≠ 5) : ∀ x ∈ q, ∀ ad, x.ao = some ad → ad.block ∉ S := fun x hx ad ha hm => by
  obtain ⟨cur, hc⟩ := (H.fr x hx).blk5 ha
  obtain ⟨c, t', h1, h2⟩ := hS _ hm
  exact ne_type h1 hc h2 rfl
theorem LY.own (H : LY w B ao cap q) : ∀ k ∈ blk ao, ∃ c t', w.heap[k]? = some (.cells c t' (0, 0)) ∧ t' ≠ 5 := fun k hk => by
  obtain ⟨_, cur, hc⟩ := H.row.at k hk
  exact ⟨_, _, hc, by decide⟩
theorem LY.at (H : LY w B ao cap q) {j : Nat} {x : RV} (hx : q[j]? = some x) : ∃ ad, ao = some ad ∧ w.cell? (ad.add j) = some (.slice x.ao x.l.length x.cap) := by
  have hj := (List.getElem?_eq_some_iff.1 hx).1
  obtain ⟨ad, ha⟩ := H.row.xc.some (by omega)
  exact ⟨ad, ha, H.row.xc.cell ad ha j _ (by rw [List.getElem?_map, hx]; rfl)⟩
theorem LY.lc (H : LY w B ao cap q) : LC w ao cap (q.map (·.l)) := lc_of H.row.xc fun x hx => (H.fr x hx).nc
theorem LY.app (H : LY w B ao cap q) {ao2 : Option Addr} {cap2 : Nat} {x : RV} (h2 : OY w' 30 1 B ao2 cap2 (q.length + 1) (q.map RV.v ++ [x.v])) (G : GroS (blk ao) w w') (hx : OB w 5 .u8 B x.ao x.cap x.l) : LY w' B ao2 cap2 (q ++ [x]) := by
  refine ⟨by simpa using h2, fun y hy => ?_⟩
  rcases List.mem_append.1 hy with hy | hy
  · exact (H.fr y hy).gros G (fun ad ha => H.f5 H.own y hy ad ha)
  · cases List.mem_singleton.1 hy
    refine hx.gros G (fun ad ha hm => ?_)
    obtain ⟨cur, hc⟩ := hx.blk5 ha
    obtain ⟨c, t', h1, h2⟩ := H.own _ hm
    exact ne_type h1 hc h2 rfl
theorem PK.ly {t : TypeId} {p : Nat} (H : PK t w p B ao cap q) : LY w B ao cap q := ⟨H.row, H.fr⟩
/-- A list beside a pipe, when the pipe changes. -/
theorem LY.put {t : TypeId} {p B' : Nat} {ro : Option Addr} {rc : Nat} {r : List RV} (H : LY w B ao cap q) (HP : PK t w p B' ro rc r) (G : GroS (p :: blk ro) w w') (hd : ∀ k ∈ blk ro, k ∉ blk ao) : LY w' B ao cap q :=
  H.gros G (fun k hk hm => by
    rcases List.mem_cons.1 hm with rfl | hm
    · exact H.row.ne HP.box HP.ty.1 hk
    · exact hd k hm hk) (H.f5 HP.own)
theorem LY.take {t : TypeId} {p B' : Nat} {ro : Option Addr} {rc : Nat} {r : List RV} (H : LY w B ao cap q) (HP : PK t w p B' ro rc r) (G : GroS [p] w w') : LY w' B ao cap q :=
  H.gros G (fun k hk hm => by
    cases List.mem_singleton.1 hm
    exact H.row.ne HP.box HP.ty.1 hk) (H.f5 fun k hk => by cases List.mem_singleton.1 hk; exact ⟨_, _, HP.box, HP.ty.2⟩)
/-- A pipe, when a list beside it grows. -/
theorem PK.beside {t : TypeId} {p B' : Nat} {ro : Option Addr} {rc : Nat} {r : List RV} (HP : PK t w p B' ro rc r) (H : LY w B ao cap q) (G : GroS (blk ao) w w') (hd : ∀ k ∈ blk ro, k ∉ blk ao) : PK t w' p B' ro rc r :=
  HP.gros G (H.row.ne HP.box HP.ty.1) hd (HP.f5 H.own)
theorem dis_put {w : World} {e : TypeId} {sz B : Nat} {ao ro ro2 : Option Addr} {cap n : Nat} {cs : List Value} {M : Nat} (h : OY w e sz B ao cap n cs) (hd : ∀ k ∈ blk ro, k ∉ blk ao) (hk : Kept M ro ro2) (hM : w.heap.size ≤ M) : ∀ k ∈ blk ro2, k ∉ blk ao := fun k h1 h2 => by
  rcases hk k h1 with h3 | h3
  · exact hd k h3 h2
  · have := h.lt k h2
    omega
theorem dis_app {w : World} {e : TypeId} {sz B : Nat} {ao ao2 ro : Option Addr} {cap n : Nat} {cs : List Value} {M : Nat} (h : OY w e sz B ro cap n cs) (hd : ∀ k ∈ blk ro, k ∉ blk ao) (hk : Kept M ao ao2) (hM : w.heap.size ≤ M) : ∀ k ∈ blk ro, k ∉ blk ao2 := fun k h1 h2 => by
  rcases hk k h2 with h3 | h3
  · exact hd k h1 h3
  · have := h.lt k h1
    omega
end
theorem map_at {q : List RV} {c : List (List Nat)} (h : q.map (·.l) = c) {j : Nat} {x : RV} (hx : q[j]? = some x) : c[j]? = some x.l := by
  rw [← h, List.getElem?_map, hx]
  rfl
theorem conv345n {o : Oper} {A : Act} (x : Operand) (ho : o.op = .convert 3 42 x) (n : Nat) (hn : n < 9223372036854775808) (hx : A.eval x = .int .i64 (n : Int)) (w : World) : (execOp A.eval o).run Try.prog w = .ok (.value (.int .u64 (n : Int))) w := by
  rw [conv345 x ho n hx w, uN_nat n hn]
set_option maxRecDepth 100000 in
set_option maxHeartbeats 4000000 in
theorem pipeFills_any (w : World) (ao : Option Addr) (cap : Nat) (l : List Nat) (HA : NC w .u8 ao cap l) (hal : l.length ≤ 140737488355000) (more : Int) : Calls Try.prog 4 #[.slice ao l.length cap, .int .i64 more] w fun e w' => e = .returned (.bool true) ∧ Gro w w' := by
  refine s_enter Try.func4 rfl Try.ntmps4 [.slice ao l.length cap, .int .i64 more] [.slice ao l.length cap, .int .i64 more, undef, undef, undef, undef, undef, undef, undef, undef, undef, undef, undef, undef, undef, undef, undef, undef, undef, undef, undef, undef, undef, undef, undef, undef, undef, undef, undef, undef, undef, undef, undef, undef, undef, undef, undef, undef, undef, undef, undef, undef, undef, undef, undef, undef, undef, undef, undef, undef, undef, undef, undef, undef, undef, undef, undef, undef, undef, undef, undef, undef, undef, undef, undef] rfl ?_
  have GG := Gro.refl w
  obtain ⟨n, hn⟩ : ∃ n, uN more % 300 = n := ⟨_, rfl⟩
  refine wp_seq ?_
  refine wp_region_lit ?_
  refine s_val 4 rfl rfl (.bool false) (rfl) ?_
  refine nr ?_; intro U h; simp only [z0, z1] at h; subst h
  refine wpList_nil ?_
  refine then_n ?_
  refine wp_seq ?_
  refine wp_region_lit ?_
  refine s_val 10 rfl rfl (.agg (c26 Sl.nil)) (run_bd 26 _ rfl [] rfl _ (by kernel_rfl)) ?_
  refine nr ?_; intro U h; simp only [z0, z1] at h; subst h
  refine s_box 11 rfl rfl 26 _ rfl _ rfl (c26 Sl.nil) rfl ?_
  intro w1 p G ep kp
  have bp := size_base GG ep
  clear ep
  replace GG := GG.trans G
  clear G
  have HP : PK 26 _ p w.heap.size none 0 [] := PK.new kp bp (by decide)
  clear kp
  refine nr ?_; intro U h; simp only [z0, z1] at h; subst h
  refine s_val 5 rfl rfl (.pointer (some ⟨p, 0, none⟩)) (rfl) ?_
  refine nr ?_; intro U h; simp only [z0, z1] at h; subst h
  refine wpList_nil ?_
  refine then_n ?_
  refine wp_seq ?_
  refine wp_region_lit ?_
  refine s_val 12 rfl rfl (.int .i64 more) (rfl) ?_
  refine nr ?_; intro U h; simp only [z0, z1] at h; subst h
  refine s_val 13 rfl rfl (.int .u64 ((uN more : Nat) : Int)) (conv345 _ rfl more rfl _) ?_
  refine nr ?_; intro U h; simp only [z0, z1] at h; subst h
  refine s_val 14 rfl rfl (.int .u64 ((n : Nat) : Int)) ((run_remN 42 42 _ _ rfl (uN more) 300 rfl rfl (by decide) _).trans (by rw [hn])) ?_
  refine nr ?_; intro U h; simp only [z0, z1] at h; subst h
  refine s_val 15 rfl rfl (.int .i64 ((n : Nat) : Int)) (conv453 _ rfl n (by omega) rfl _) ?_
  refine nr ?_; intro U h; simp only [z0, z1] at h; subst h
  refine s_val 6 rfl rfl (.int .i64 ((n : Nat) : Int)) (rfl) ?_
  refine nr ?_; intro U h; simp only [z0, z1] at h; subst h
  refine wpList_nil ?_
  refine then_n ?_
  refine wp_seq ?_
  refine wp_seq ?_
  refine wp_region_lit ?_
  refine s_val 16 rfl rfl (.int .i64 ((n : Nat) : Int)) (rfl) ?_
  refine nr ?_; intro U h; simp only [z0, z1] at h; subst h
  refine s_val 17 rfl rfl (.int .i64 0) (rfl) ?_
  refine nr ?_; intro U h; simp only [z0, z1] at h; subst h
  refine wpList_nil ?_
  refine then_n ?_
  refine wp_block ?_
  refine wp_loopN (fun mz az wv => ∃ (j : Nat) (ro : Option Addr) (rc : Nat) (q : List RV) (us1 : Nat → Value), mz = n - j ∧ az = ⟨[.slice ao l.length cap, .int .i64 more, undef, undef, us1 0, .pointer (some ⟨p, 0, none⟩), .int .i64 ((n : Nat) : Int), us1 1, undef, undef, .agg (c26 Sl.nil), .pointer (some ⟨p, 0, none⟩), .int .i64 more, .int .u64 ((uN more : Nat) : Int), .int .u64 ((n : Nat) : Int), .int .i64 ((n : Nat) : Int), .int .i64 ((n : Nat) : Int), .int .i64 ((j : Nat) : Int), us1 2, us1 3, us1 4, us1 5, us1 6, us1 7, us1 8, us1 9, us1 10, undef, undef, undef, undef, undef, undef, undef, undef, undef, undef, undef, undef, undef, undef, undef, undef, undef, undef, undef, undef, undef, undef, undef, undef, undef, undef, undef, undef, undef, undef, undef, undef, undef, undef, undef, undef, undef, undef].toArray, []⟩ ∧ j ≤ n ∧ q.length = min j 256 ∧ Gro w wv ∧ PK 26 wv p w.heap.size ro rc q) ?_ _ ⟨0, none, 0, [], (fun kz => ([.bool false, undef, undef, undef, undef, undef, undef, undef, undef, undef, undef] : List Value).getD kz undef), rfl, rfl, Nat.zero_le _, rfl, GG, HP⟩
  clear GG HP
  rintro mz az wv ⟨j, ro, rc, q, us1, rfl, rfl, hj, hqj, GG, HP⟩
  refine wp_seq ?_
  refine wp_region_lit ?_
  obtain ⟨p1, hp1⟩ : ∃ p, decide (((j : Nat) : Int) < ((n : Nat) : Int)) = p := ⟨_, rfl⟩
  refine s_val 18 rfl rfl (.bool p1) (run_lssT 3 _ _ _ rfl ((j : Nat) : Int) ((n : Nat) : Int) rfl rfl p1 hp1 _) ?_
  refine nr ?_; intro U h; simp only [z0, z1] at h; subst h
  cases p1
  · have hjn : j = n := by have := of_decide_eq_false hp1; omega
    refine wpList_nil ?_
    refine then_n ?_
    refine wp_seq ?_
    refine wp_cond_false rfl ?_
    refine wp_exit ?_
    refine then_x ?_
    refine then_x ?_
    refine blk_x ?_
    refine then_n ?_
    refine wp_seq ?_
    refine wp_region_lit ?_
    refine s_val 27 rfl rfl (.int .i64 ((n : Nat) : Int)) (rfl) ?_
    refine nr ?_; intro U h; simp only [z0, z1] at h; subst h
    refine s_val 28 rfl rfl (.int .i64 ((min n 256 : Nat) : Int)) (run_min64 _ _ _ rfl ((n : Nat) : Int) 256 _ rfl rfl (by omega) _) ?_
    refine nr ?_; intro U h; simp only [z0, z1] at h; subst h
    refine s_val 8 rfl rfl (.int .i64 ((min n 256 : Nat) : Int)) (rfl) ?_
    refine nr ?_; intro U h; simp only [z0, z1] at h; subst h
    refine wpList_nil ?_
    refine then_n ?_
    refine wp_seq ?_
    refine wp_region_opq ?_
    intro OPS hY
    have y1 := hY 1 30 rfl
    clear hY
    refine s_callv 29 rfl rfl _ 18 Try.call18 rfl rfl _ rfl [] rfl (fixed_true _) ?_
    intro w2 G
    replace HP := HP.gro G
    replace GG := GG.trans G
    clear G
    refine nr ?_; intro U h; simp only [z0, z1] at h; subst h
    refine s_val 30 rfl rfl (.bool true) (rfl) ?_
    refine nr ?_; intro U h; simp only [z0, z1] at h; subst h
    refine s_gvalY 31 rfl rfl y1 rfl (.pointer (some ⟨p, 0, none⟩)) (rfl) ?_
    refine nr ?_; intro U h; simp only [z0, z1] at h; subst h
    refine s_gcallvY 32 rfl rfl y1 rfl _ 17 Try.call17 rfl rfl _ rfl [.pointer (some ⟨p, 0, none⟩)] rfl (len_any _ p w.heap.size ro rc q HP) ?_
    intro w3 G
    replace HP := HP.gro G
    replace GG := GG.trans G
    clear G
    refine nr ?_; intro U h; simp only [z0, z1] at h; subst h
    refine s_gvalY 33 rfl rfl y1 rfl (.int .i64 ((min n 256 : Nat) : Int)) (rfl) ?_
    refine nr ?_; intro U h; simp only [z0, z1] at h; subst h
    refine s_gvalY 34 rfl rfl y1 rfl (.bool true) (run_eq_k 3 .i64 _ _ _ rfl Try.underlying3 ((q.length : Nat) : Int) ((min n 256 : Nat) : Int) rfl rfl true (decide_eq_true (by omega)) _) ?_
    refine nr ?_; intro U h; simp only [z0, z1] at h; subst h
    refine s_val 35 rfl rfl (.bool true) (rfl) ?_
    refine nr ?_; intro U h; simp only [z0, z1] at h; subst h
    refine s_val 9 rfl rfl (.bool true) (rfl) ?_
    refine nr ?_; intro U h; simp only [z0, z1] at h; subst h
    refine wpList_nil ?_
    refine then_n ?_
    refine wp_seq ?_
    refine wp_seq ?_
    refine wp_region_lit ?_
    refine s_val 36 rfl rfl (.pointer (some ⟨p, 0, none⟩)) (rfl) ?_
    refine nr ?_; intro U h; simp only [z0, z1] at h; subst h
    rcases (show n = 0 ∨ 256 ≤ n ∨ (0 < n ∧ n < 256) by omega) with h3 | h3 | h3
    · refine s_callv 37 rfl rfl _ 12 Try.call12 rfl rfl _ rfl [.pointer (some ⟨p, 0, none⟩), .int .i64 0] rfl (twice_none _ p w.heap.size ro rc q HP 0 (by omega)) ?_
      intro w4 G
      replace HP := HP.gro G
      replace GG := GG.trans G
      clear G
      refine nr ?_; intro U h; simp only [z0, z1] at h; subst h
      refine wpList_nil ?_
      refine then_n ?_
      refine wp_cond_false rfl ?_
      refine wp_skip ?_
      refine then_n ?_
      refine wp_seq ?_
      refine wp_region_opq ?_
      intro OPS hY
      have y1 := hY 1 41 rfl
      have y8 := hY 8 48 rfl
      have y14 := hY 14 54 rfl
      have y20 := hY 20 60 rfl
      clear hY
      refine s_val 40 rfl rfl (.bool true) (rfl) ?_
      refine nr ?_; intro U h; simp only [z0, z1] at h; subst h
      refine s_val 41 rfl rfl (.bool true) (rfl) ?_
      refine nr ?_; intro U h; simp only [z0, z1] at h; subst h
      refine s_gvalY 42 rfl rfl y1 rfl (.int .i64 ((min n 256 : Nat) : Int)) (rfl) ?_
      refine nr ?_; intro U h; simp only [z0, z1] at h; subst h
      refine s_gvalY 43 rfl rfl y1 rfl (.int .i64 ((n : Nat) : Int)) (rfl) ?_
      refine nr ?_; intro U h; simp only [z0, z1] at h; subst h
      refine s_gvalY 44 rfl rfl y1 rfl (.int .i64 ((min n 256 : Nat) : Int)) (run_min64 _ _ _ rfl ((n : Nat) : Int) 256 _ rfl rfl (by omega) _) ?_
      refine nr ?_; intro U h; simp only [z0, z1] at h; subst h
      refine s_gvalY 45 rfl rfl y1 rfl (.bool false) (run_gtrT 3 _ _ _ rfl ((min n 256 : Nat) : Int) ((min n 256 : Nat) : Int) rfl rfl false (by first | exact decide_eq_true (by omega) | exact decide_eq_false (by omega)) _) ?_
      refine nr ?_; intro U h; simp only [z0, z1] at h; subst h
      refine s_gvalY 46 rfl rfl y1 rfl (.int .i64 ((n : Nat) : Int)) (rfl) ?_
      refine nr ?_; intro U h; simp only [z0, z1] at h; subst h
      refine s_gvalY 47 rfl rfl y1 rfl (.bool false) (run_gtrT 3 _ _ _ rfl ((n : Nat) : Int) 0 rfl rfl false (by first | exact decide_eq_true (by omega) | exact decide_eq_false (by omega)) _) ?_
      refine nr ?_; intro U h; simp only [z0, z1] at h; subst h
      refine s_gvalY 48 rfl rfl y1 rfl (.bool false) (rfl) ?_
      refine nr ?_; intro U h; simp only [z0, z1] at h; subst h
      refine s_skipY 49 rfl rfl y8 rfl ?_
      refine nr ?_; intro U h; simp only [z0, z1] at h; subst h
      refine s_skipY 50 rfl rfl y8 rfl ?_
      refine nr ?_; intro U h; simp only [z0, z1] at h; subst h
      refine s_gvalY 51 rfl rfl y1 rfl (.bool false) (rfl) ?_
      refine nr ?_; intro U h; simp only [z0, z1] at h; subst h
      refine s_gvalY 52 rfl rfl y1 rfl (.bool true) (run_eqB 4 _ _ _ rfl false false rfl rfl Try.underlying4 true rfl _) ?_
      refine nr ?_; intro U h; simp only [z0, z1] at h; subst h
      refine s_val 53 rfl rfl (.bool true) (rfl) ?_
      refine nr ?_; intro U h; simp only [z0, z1] at h; subst h
      refine s_val 54 rfl rfl (.bool true) (rfl) ?_
      refine nr ?_; intro U h; simp only [z0, z1] at h; subst h
      refine s_gvalY 55 rfl rfl y14 rfl (.pointer (some ⟨p, 0, none⟩)) (rfl) ?_
      refine nr ?_; intro U h; simp only [z0, z1] at h; subst h
      refine s_gcallxY 56 rfl rfl y14 rfl _ 14 Try.call14 rfl rfl _ rfl [.pointer (some ⟨p, 0, none⟩)] rfl (fall_any _ p w.heap.size ro rc q HP) (fun _ _ ⟨_, _, he, _⟩ => ⟨_, he⟩) ?_
      rintro v w5 ⟨a5, c5, he, G, HP2, hkp⟩
      cases he
      replace GG := G.gro GG (by simpa using bp)
      clear G HP hkp
      have HP := HP2
      clear HP2
      refine nr ?_; intro U h; simp only [z0, z1] at h; subst h
      refine s_gvalY 57 rfl rfl y14 rfl (.int .i64 ((min n 256 : Nat) : Int)) (rfl) ?_
      refine nr ?_; intro U h; simp only [z0, z1] at h; subst h
      refine s_gvalY 58 rfl rfl y14 rfl (.bool true) (run_eq_k 3 .i64 _ _ _ rfl Try.underlying3 ((q.length : Nat) : Int) ((min n 256 : Nat) : Int) rfl rfl true (decide_eq_true (by omega)) _) ?_
      refine nr ?_; intro U h; simp only [z0, z1] at h; subst h
      refine s_val 59 rfl rfl (.bool true) (rfl) ?_
      refine nr ?_; intro U h; simp only [z0, z1] at h; subst h
      refine s_val 60 rfl rfl (.bool true) (rfl) ?_
      refine nr ?_; intro U h; simp only [z0, z1] at h; subst h
      refine s_gvalY 61 rfl rfl y20 rfl (.pointer (some ⟨p, 0, none⟩)) (rfl) ?_
      refine nr ?_; intro U h; simp only [z0, z1] at h; subst h
      refine s_gcallvY 62 rfl rfl y20 rfl _ 17 Try.call17 rfl rfl _ rfl [.pointer (some ⟨p, 0, none⟩)] rfl (len_any _ p w.heap.size a5 c5 [] HP) ?_
      intro w6 G
      replace HP := HP.gro G
      replace GG := GG.trans G
      clear G
      refine nr ?_; intro U h; simp only [z0, z1] at h; subst h
      refine s_gvalY 63 rfl rfl y20 rfl (.bool true) (run_eq_k 3 .i64 _ _ _ rfl Try.underlying3 _ _ rfl rfl true rfl _) ?_
      refine nr ?_; intro U h; simp only [z0, z1] at h; subst h
      refine s_val 64 rfl rfl (.bool true) (rfl) ?_
      refine nr ?_; intro U h; simp only [z0, z1] at h; subst h
      refine s_val 4 rfl rfl (.bool true) (rfl) ?_
      refine nr ?_; intro U h; simp only [z0, z1] at h; subst h
      refine wpList_nil ?_
      refine then_n ?_
      refine wp_ret ?_
      refine bodyPost_ret (results_tmp Try.results4 _ _ _) rfl ?_
      exact ⟨rfl, GG⟩
    · obtain ⟨x, hx⟩ : ∃ x, q[0]? = some x := ⟨_, List.getElem?_eq_getElem (by omega)⟩
      refine s_callv 37 rfl rfl _ 12 Try.call12 rfl rfl _ rfl [.pointer (some ⟨p, 0, none⟩), .int .i64 0] rfl (twice_full _ p w.heap.size ro rc q HP 0 0 (uN0 _) x hx (by omega)) ?_
      intro w4 G
      replace HP := HP.gro G
      replace GG := GG.trans G
      clear G
      refine nr ?_; intro U h; simp only [z0, z1] at h; subst h
      refine wpList_nil ?_
      refine then_n ?_
      refine wp_cond_false rfl ?_
      refine wp_skip ?_
      refine then_n ?_
      refine wp_seq ?_
      refine wp_region_opq ?_
      intro OPS hY
      have y1 := hY 1 41 rfl
      have y8 := hY 8 48 rfl
      have y14 := hY 14 54 rfl
      have y20 := hY 20 60 rfl
      clear hY
      refine s_val 40 rfl rfl (.bool true) (rfl) ?_
      refine nr ?_; intro U h; simp only [z0, z1] at h; subst h
      refine s_val 41 rfl rfl (.bool true) (rfl) ?_
      refine nr ?_; intro U h; simp only [z0, z1] at h; subst h
      refine s_gvalY 42 rfl rfl y1 rfl (.int .i64 ((min n 256 : Nat) : Int)) (rfl) ?_
      refine nr ?_; intro U h; simp only [z0, z1] at h; subst h
      refine s_gvalY 43 rfl rfl y1 rfl (.int .i64 ((n : Nat) : Int)) (rfl) ?_
      refine nr ?_; intro U h; simp only [z0, z1] at h; subst h
      refine s_gvalY 44 rfl rfl y1 rfl (.int .i64 ((min n 256 : Nat) : Int)) (run_min64 _ _ _ rfl ((n : Nat) : Int) 256 _ rfl rfl (by omega) _) ?_
      refine nr ?_; intro U h; simp only [z0, z1] at h; subst h
      refine s_gvalY 45 rfl rfl y1 rfl (.bool false) (run_gtrT 3 _ _ _ rfl ((min n 256 : Nat) : Int) ((min n 256 : Nat) : Int) rfl rfl false (by first | exact decide_eq_true (by omega) | exact decide_eq_false (by omega)) _) ?_
      refine nr ?_; intro U h; simp only [z0, z1] at h; subst h
      refine s_gvalY 46 rfl rfl y1 rfl (.int .i64 ((n : Nat) : Int)) (rfl) ?_
      refine nr ?_; intro U h; simp only [z0, z1] at h; subst h
      refine s_gvalY 47 rfl rfl y1 rfl (.bool true) (run_gtrT 3 _ _ _ rfl ((n : Nat) : Int) 0 rfl rfl true (by first | exact decide_eq_true (by omega) | exact decide_eq_false (by omega)) _) ?_
      refine nr ?_; intro U h; simp only [z0, z1] at h; subst h
      refine s_gvalY 48 rfl rfl y1 rfl (.bool true) (rfl) ?_
      refine nr ?_; intro U h; simp only [z0, z1] at h; subst h
      refine s_gvalY 49 rfl rfl y8 rfl (.int .i64 ((n : Nat) : Int)) (rfl) ?_
      refine nr ?_; intro U h; simp only [z0, z1] at h; subst h
      refine s_gvalY 50 rfl rfl y8 rfl (.bool false) (run_lssT 3 _ _ _ rfl ((n : Nat) : Int) 256 rfl rfl false (by first | exact decide_eq_true (by omega) | exact decide_eq_false (by omega)) _) ?_
      refine nr ?_; intro U h; simp only [z0, z1] at h; subst h
      refine s_gvalY 51 rfl rfl y1 rfl (.bool false) (rfl) ?_
      refine nr ?_; intro U h; simp only [z0, z1] at h; subst h
      refine s_gvalY 52 rfl rfl y1 rfl (.bool true) (run_eqB 4 _ _ _ rfl false false rfl rfl Try.underlying4 true rfl _) ?_
      refine nr ?_; intro U h; simp only [z0, z1] at h; subst h
      refine s_val 53 rfl rfl (.bool true) (rfl) ?_
      refine nr ?_; intro U h; simp only [z0, z1] at h; subst h
      refine s_val 54 rfl rfl (.bool true) (rfl) ?_
      refine nr ?_; intro U h; simp only [z0, z1] at h; subst h
      refine s_gvalY 55 rfl rfl y14 rfl (.pointer (some ⟨p, 0, none⟩)) (rfl) ?_
      refine nr ?_; intro U h; simp only [z0, z1] at h; subst h
      refine s_gcallxY 56 rfl rfl y14 rfl _ 14 Try.call14 rfl rfl _ rfl [.pointer (some ⟨p, 0, none⟩)] rfl (fall_any _ p w.heap.size ro rc q HP) (fun _ _ ⟨_, _, he, _⟩ => ⟨_, he⟩) ?_
      rintro v w5 ⟨a5, c5, he, G, HP2, hkp⟩
      cases he
      replace GG := G.gro GG (by simpa using bp)
      clear G HP hkp
      have HP := HP2
      clear HP2
      refine nr ?_; intro U h; simp only [z0, z1] at h; subst h
      refine s_gvalY 57 rfl rfl y14 rfl (.int .i64 ((min n 256 : Nat) : Int)) (rfl) ?_
      refine nr ?_; intro U h; simp only [z0, z1] at h; subst h
      refine s_gvalY 58 rfl rfl y14 rfl (.bool true) (run_eq_k 3 .i64 _ _ _ rfl Try.underlying3 ((q.length : Nat) : Int) ((min n 256 : Nat) : Int) rfl rfl true (decide_eq_true (by omega)) _) ?_
      refine nr ?_; intro U h; simp only [z0, z1] at h; subst h
      refine s_val 59 rfl rfl (.bool true) (rfl) ?_
      refine nr ?_; intro U h; simp only [z0, z1] at h; subst h
      refine s_val 60 rfl rfl (.bool true) (rfl) ?_
      refine nr ?_; intro U h; simp only [z0, z1] at h; subst h
      refine s_gvalY 61 rfl rfl y20 rfl (.pointer (some ⟨p, 0, none⟩)) (rfl) ?_
      refine nr ?_; intro U h; simp only [z0, z1] at h; subst h
      refine s_gcallvY 62 rfl rfl y20 rfl _ 17 Try.call17 rfl rfl _ rfl [.pointer (some ⟨p, 0, none⟩)] rfl (len_any _ p w.heap.size a5 c5 [] HP) ?_
      intro w6 G
      replace HP := HP.gro G
      replace GG := GG.trans G
      clear G
      refine nr ?_; intro U h; simp only [z0, z1] at h; subst h
      refine s_gvalY 63 rfl rfl y20 rfl (.bool true) (run_eq_k 3 .i64 _ _ _ rfl Try.underlying3 _ _ rfl rfl true rfl _) ?_
      refine nr ?_; intro U h; simp only [z0, z1] at h; subst h
      refine s_val 64 rfl rfl (.bool true) (rfl) ?_
      refine nr ?_; intro U h; simp only [z0, z1] at h; subst h
      refine s_val 4 rfl rfl (.bool true) (rfl) ?_
      refine nr ?_; intro U h; simp only [z0, z1] at h; subst h
      refine wpList_nil ?_
      refine then_n ?_
      refine wp_ret ?_
      refine bodyPost_ret (results_tmp Try.results4 _ _ _) rfl ?_
      exact ⟨rfl, GG⟩
    obtain ⟨x, hx⟩ : ∃ x, q[0]? = some x := ⟨_, List.getElem?_eq_getElem (by omega)⟩
    refine s_callx 37 rfl rfl _ 12 Try.call12 rfl rfl _ rfl [.pointer (some ⟨p, 0, none⟩), .int .i64 0] rfl (twice_ok _ p w.heap.size ro rc q HP 0 0 (uN0 _) x hx (by omega)) (fun _ _ ⟨_, _, _, he, _⟩ => ⟨_, he⟩) ?_
    rintro v w4 ⟨a2, c2, y, he, hy, G, HP2, HY, hkp⟩
    cases he
    replace GG := G.gro GG HP.sb
    clear G HP HY hkp
    have hl2 : (q ++ [y]).length = q.length + 1 := by simp
    have HP := HP2
    clear HP2
    refine nr ?_; intro U h; simp only [z0, z1] at h; subst h
    refine wpList_nil ?_
    refine then_n ?_
    refine wp_cond_true rfl ?_
    refine wp_region_lit ?_
    refine s_val 38 rfl rfl (.int .i64 ((min n 256 : Nat) : Int)) (rfl) ?_
    refine nr ?_; intro U h; simp only [z0, z1] at h; subst h
    refine s_val 39 rfl rfl (.int .i64 ((min n 256 + 1 : Nat) : Int)) (run_add64 _ _ _ rfl ((min n 256 : Nat) : Int) 1 _ rfl rfl (by omega) (by omega) (by omega) _) ?_
    refine nr ?_; intro U h; simp only [z0, z1] at h; subst h
    refine s_val 8 rfl rfl (.int .i64 ((min n 256 + 1 : Nat) : Int)) (rfl) ?_
    refine nr ?_; intro U h; simp only [z0, z1] at h; subst h
    refine wpList_nil ?_
    refine then_n ?_
    refine wp_seq ?_
    refine wp_region_opq ?_
    intro OPS hY
    have y1 := hY 1 41 rfl
    have y8 := hY 8 48 rfl
    have y14 := hY 14 54 rfl
    have y20 := hY 20 60 rfl
    clear hY
    refine s_val 40 rfl rfl (.bool true) (rfl) ?_
    refine nr ?_; intro U h; simp only [z0, z1] at h; subst h
    refine s_val 41 rfl rfl (.bool true) (rfl) ?_
    refine nr ?_; intro U h; simp only [z0, z1] at h; subst h
    refine s_gvalY 42 rfl rfl y1 rfl (.int .i64 ((min n 256 + 1 : Nat) : Int)) (rfl) ?_
    refine nr ?_; intro U h; simp only [z0, z1] at h; subst h
    refine s_gvalY 43 rfl rfl y1 rfl (.int .i64 ((n : Nat) : Int)) (rfl) ?_
    refine nr ?_; intro U h; simp only [z0, z1] at h; subst h
    refine s_gvalY 44 rfl rfl y1 rfl (.int .i64 ((min n 256 : Nat) : Int)) (run_min64 _ _ _ rfl ((n : Nat) : Int) 256 _ rfl rfl (by omega) _) ?_
    refine nr ?_; intro U h; simp only [z0, z1] at h; subst h
    refine s_gvalY 45 rfl rfl y1 rfl (.bool true) (run_gtrT 3 _ _ _ rfl ((min n 256 + 1 : Nat) : Int) ((min n 256 : Nat) : Int) rfl rfl true (by first | exact decide_eq_true (by omega) | exact decide_eq_false (by omega)) _) ?_
    refine nr ?_; intro U h; simp only [z0, z1] at h; subst h
    refine s_gvalY 46 rfl rfl y1 rfl (.int .i64 ((n : Nat) : Int)) (rfl) ?_
    refine nr ?_; intro U h; simp only [z0, z1] at h; subst h
    refine s_gvalY 47 rfl rfl y1 rfl (.bool true) (run_gtrT 3 _ _ _ rfl ((n : Nat) : Int) 0 rfl rfl true (by first | exact decide_eq_true (by omega) | exact decide_eq_false (by omega)) _) ?_
    refine nr ?_; intro U h; simp only [z0, z1] at h; subst h
    refine s_gvalY 48 rfl rfl y1 rfl (.bool true) (rfl) ?_
    refine nr ?_; intro U h; simp only [z0, z1] at h; subst h
    refine s_gvalY 49 rfl rfl y8 rfl (.int .i64 ((n : Nat) : Int)) (rfl) ?_
    refine nr ?_; intro U h; simp only [z0, z1] at h; subst h
    refine s_gvalY 50 rfl rfl y8 rfl (.bool true) (run_lssT 3 _ _ _ rfl ((n : Nat) : Int) 256 rfl rfl true (by first | exact decide_eq_true (by omega) | exact decide_eq_false (by omega)) _) ?_
    refine nr ?_; intro U h; simp only [z0, z1] at h; subst h
    refine s_gvalY 51 rfl rfl y1 rfl (.bool true) (rfl) ?_
    refine nr ?_; intro U h; simp only [z0, z1] at h; subst h
    refine s_gvalY 52 rfl rfl y1 rfl (.bool true) (run_eqB 4 _ _ _ rfl true true rfl rfl Try.underlying4 true rfl _) ?_
    refine nr ?_; intro U h; simp only [z0, z1] at h; subst h
    refine s_val 53 rfl rfl (.bool true) (rfl) ?_
    refine nr ?_; intro U h; simp only [z0, z1] at h; subst h
    refine s_val 54 rfl rfl (.bool true) (rfl) ?_
    refine nr ?_; intro U h; simp only [z0, z1] at h; subst h
    refine s_gvalY 55 rfl rfl y14 rfl (.pointer (some ⟨p, 0, none⟩)) (rfl) ?_
    refine nr ?_; intro U h; simp only [z0, z1] at h; subst h
    refine s_gcallxY 56 rfl rfl y14 rfl _ 14 Try.call14 rfl rfl _ rfl [.pointer (some ⟨p, 0, none⟩)] rfl (fall_any _ p w.heap.size a2 c2 (q ++ [y]) HP) (fun _ _ ⟨_, _, he, _⟩ => ⟨_, he⟩) ?_
    rintro v w5 ⟨a5, c5, he, G, HP2, hkp⟩
    cases he
    replace GG := G.gro GG (by simpa using bp)
    clear G HP hkp
    have HP := HP2
    clear HP2
    refine nr ?_; intro U h; simp only [z0, z1] at h; subst h
    refine s_gvalY 57 rfl rfl y14 rfl (.int .i64 ((min n 256 + 1 : Nat) : Int)) (rfl) ?_
    refine nr ?_; intro U h; simp only [z0, z1] at h; subst h
    refine s_gvalY 58 rfl rfl y14 rfl (.bool true) (run_eq_k 3 .i64 _ _ _ rfl Try.underlying3 (((q ++ [y]).length : Nat) : Int) ((min n 256 + 1 : Nat) : Int) rfl rfl true (decide_eq_true (by omega)) _) ?_
    refine nr ?_; intro U h; simp only [z0, z1] at h; subst h
    refine s_val 59 rfl rfl (.bool true) (rfl) ?_
    refine nr ?_; intro U h; simp only [z0, z1] at h; subst h
    refine s_val 60 rfl rfl (.bool true) (rfl) ?_
    refine nr ?_; intro U h; simp only [z0, z1] at h; subst h
    refine s_gvalY 61 rfl rfl y20 rfl (.pointer (some ⟨p, 0, none⟩)) (rfl) ?_
    refine nr ?_; intro U h; simp only [z0, z1] at h; subst h
    refine s_gcallvY 62 rfl rfl y20 rfl _ 17 Try.call17 rfl rfl _ rfl [.pointer (some ⟨p, 0, none⟩)] rfl (len_any _ p w.heap.size a5 c5 [] HP) ?_
    intro w6 G
    replace HP := HP.gro G
    replace GG := GG.trans G
    clear G
    refine nr ?_; intro U h; simp only [z0, z1] at h; subst h
    refine s_gvalY 63 rfl rfl y20 rfl (.bool true) (run_eq_k 3 .i64 _ _ _ rfl Try.underlying3 _ _ rfl rfl true rfl _) ?_
    refine nr ?_; intro U h; simp only [z0, z1] at h; subst h
    refine s_val 64 rfl rfl (.bool true) (rfl) ?_
    refine nr ?_; intro U h; simp only [z0, z1] at h; subst h
    refine s_val 4 rfl rfl (.bool true) (rfl) ?_
    refine nr ?_; intro U h; simp only [z0, z1] at h; subst h
    refine wpList_nil ?_
    refine then_n ?_
    refine wp_ret ?_
    refine bodyPost_ret (results_tmp Try.results4 _ _ _) rfl ?_
    exact ⟨rfl, GG⟩
  have hjn : j < n := by have := of_decide_eq_true hp1; omega
  refine wpList_nil ?_
  refine then_n ?_
  refine wp_seq ?_
  refine wp_cond_true rfl ?_
  refine wp_skip ?_
  refine then_n ?_
  refine wp_seq ?_
  refine wp_block ?_
  refine wp_seq ?_
  refine wp_region_lit ?_
  refine s_val 19 rfl rfl (.int .i64 ((j : Nat) : Int)) (rfl) ?_
  refine nr ?_; intro U h; simp only [z0, z1] at h; subst h
  refine s_val 7 rfl rfl (.int .i64 ((j : Nat) : Int)) (rfl) ?_
  refine nr ?_; intro U h; simp only [z0, z1] at h; subst h
  refine wpList_nil ?_
  refine then_n ?_
  refine wp_seq ?_
  refine wp_region_lit ?_
  refine s_val 20 rfl rfl (.pointer (some ⟨p, 0, none⟩)) (rfl) ?_
  refine nr ?_; intro U h; simp only [z0, z1] at h; subst h
  refine s_val 21 rfl rfl (.slice ao l.length cap) (rfl) ?_
  refine nr ?_; intro U h; simp only [z0, z1] at h; subst h
  rcases Nat.lt_or_ge j 256 with h256 | h256
  · refine s_callx 22 rfl rfl _ 8 Try.call8 rfl rfl _ rfl [.pointer (some ⟨p, 0, none⟩), .slice ao l.length cap] rfl (put_ok _ p w.heap.size ro rc q HP (by omega) ao cap l (HA.gro GG) (fun ad ha h0 hm => by have h1 := HA.lt ad ha h0; have h2 := HP.row.base _ hm; omega) hal) (fun _ _ ⟨_, _, _, he, _⟩ => ⟨_, he⟩) ?_
    rintro v w2 ⟨a2, c2, y, he, hy, G, HP2, HY, hkp⟩
    cases he
    replace GG := G.gro GG HP.sb
    clear G HP HY hkp
    have HP := HP2
    clear HP2
    refine nr ?_; intro U h; simp only [z0, z1] at h; subst h
    refine s_val 23 rfl rfl (.int .i64 ((j : Nat) : Int)) (rfl) ?_
    refine nr ?_; intro U h; simp only [z0, z1] at h; subst h
    refine s_val 24 rfl rfl (.bool true) (run_lssT 3 _ _ _ rfl ((j : Nat) : Int) 256 rfl rfl true (by first | exact decide_eq_true (by omega) | exact decide_eq_false (by omega)) _) ?_
    refine nr ?_; intro U h; simp only [z0, z1] at h; subst h
    refine s_val 25 rfl rfl (.bool false) (run_neB 4 _ _ _ rfl true true rfl rfl Try.underlying4 false (decide_eq_true rfl) _) ?_
    refine nr ?_; intro U h; simp only [z0, z1] at h; subst h
    refine wpList_nil ?_
    refine then_n ?_
    refine wp_cond_false rfl ?_
    refine wp_skip ?_
    refine blk_n ?_
    refine then_n ?_
    refine wp_region_lit ?_
    refine s_val 26 rfl rfl (.int .i64 ((j + 1 : Nat) : Int)) (run_add64 _ _ _ rfl ((j : Nat) : Int) 1 _ rfl rfl (by omega) (by omega) (by omega) _) ?_
    refine nr ?_; intro U h; simp only [z0, z1] at h; subst h
    refine s_val 17 rfl rfl (.int .i64 ((j + 1 : Nat) : Int)) (rfl) ?_
    refine nr ?_; intro U h; simp only [z0, z1] at h; subst h
    refine wpList_nil ?_
    refine then_n ?_
    exact ⟨_, (by omega : n - (j + 1) < n - j), j + 1, a2, c2, q ++ [y], (fun kz => ([us1 0, .int .i64 ((j : Nat) : Int), .bool true, .int .i64 ((j : Nat) : Int), .pointer (some ⟨p, 0, none⟩), .slice ao l.length cap, .bool true, .int .i64 ((j : Nat) : Int), .bool true, .bool false, .int .i64 ((j + 1 : Nat) : Int)] : List Value).getD kz undef), rfl, rfl, hjn, (by rw [List.length_append]; simp; omega), GG, HP⟩
  refine s_callv 22 rfl rfl _ 8 Try.call8 rfl rfl _ rfl [.pointer (some ⟨p, 0, none⟩), .slice ao l.length cap] rfl (put_full _ p w.heap.size ro rc q HP (by omega) ao cap l) ?_
  intro w2 G
  replace HP := HP.gro G
  replace GG := GG.trans G
  clear G
  refine nr ?_; intro U h; simp only [z0, z1] at h; subst h
  refine s_val 23 rfl rfl (.int .i64 ((j : Nat) : Int)) (rfl) ?_
  refine nr ?_; intro U h; simp only [z0, z1] at h; subst h
  refine s_val 24 rfl rfl (.bool false) (run_lssT 3 _ _ _ rfl ((j : Nat) : Int) 256 rfl rfl false (by first | exact decide_eq_true (by omega) | exact decide_eq_false (by omega)) _) ?_
  refine nr ?_; intro U h; simp only [z0, z1] at h; subst h
  refine s_val 25 rfl rfl (.bool false) (run_neB 4 _ _ _ rfl false false rfl rfl Try.underlying4 false (decide_eq_true rfl) _) ?_
  refine nr ?_; intro U h; simp only [z0, z1] at h; subst h
  refine wpList_nil ?_
  refine then_n ?_
  refine wp_cond_false rfl ?_
  refine wp_skip ?_
  refine blk_n ?_
  refine then_n ?_
  refine wp_region_lit ?_
  refine s_val 26 rfl rfl (.int .i64 ((j + 1 : Nat) : Int)) (run_add64 _ _ _ rfl ((j : Nat) : Int) 1 _ rfl rfl (by omega) (by omega) (by omega) _) ?_
  refine nr ?_; intro U h; simp only [z0, z1] at h; subst h
  refine s_val 17 rfl rfl (.int .i64 ((j + 1 : Nat) : Int)) (rfl) ?_
  refine nr ?_; intro U h; simp only [z0, z1] at h; subst h
  refine wpList_nil ?_
  refine then_n ?_
  exact ⟨_, (by omega : n - (j + 1) < n - j), j + 1, ro, rc, q, (fun kz => ([us1 0, .int .i64 ((j : Nat) : Int), .bool true, .int .i64 ((j : Nat) : Int), .pointer (some ⟨p, 0, none⟩), .slice ao l.length cap, .bool false, .int .i64 ((j : Nat) : Int), .bool false, .bool false, .int .i64 ((j + 1 : Nat) : Int)] : List Value).getD kz undef), rfl, rfl, hjn, (by omega), GG, HP⟩
set_option maxRecDepth 100000 in
set_option maxHeartbeats 4000000 in
theorem pipeOrder_any (w : World) (ao : Option Addr) (cap : Nat) (ls : List (List Nat)) (HA : LC w ao cap ls) (_hal : ls.length ≤ 140737488355000) (hlens : ∀ l ∈ ls, l.length ≤ 140737488355000) (tw : Int) : Calls Try.prog 7 #[.slice ao ls.length cap, .int .i64 tw] w fun e w' => e = .returned (.bool true) ∧ Gro w w' := by
  refine s_enter Try.func7 rfl Try.ntmps7 [.slice ao ls.length cap, .int .i64 tw] [.slice ao ls.length cap, .int .i64 tw, undef, undef, undef, undef, undef, undef, undef, undef, undef, undef, undef, undef, undef, undef, undef, undef, undef, undef, undef, undef, undef, undef, undef, undef, undef, undef, undef, undef, undef, undef, undef, undef, undef, undef, undef, undef, undef, undef, undef, undef, undef, undef, undef, undef, undef, undef, undef, undef, undef, undef, undef, undef, undef, undef, undef, undef, undef, undef, undef, undef, undef, undef, undef, undef, undef, undef, undef, undef, undef, undef, undef, undef, undef, undef, undef, undef, undef, undef, undef, undef, undef, undef] rfl ?_
  have GG := Gro.refl w
  refine wp_seq ?_
  refine wp_region_lit ?_
  refine s_val 4 rfl rfl (.bool false) (rfl) ?_
  refine nr ?_; intro U h; simp only [z0, z1] at h; subst h
  refine wpList_nil ?_
  refine then_n ?_
  refine wp_seq ?_
  refine wp_region_lit ?_
  refine s_val 14 rfl rfl (.agg (c26 Sl.nil)) (run_bd 26 _ rfl [] rfl _ (by kernel_rfl)) ?_
  refine nr ?_; intro U h; simp only [z0, z1] at h; subst h
  refine s_box 15 rfl rfl 26 _ rfl _ rfl (c26 Sl.nil) rfl ?_
  intro w1 p G ep kp
  have bp := size_base GG ep
  clear ep
  replace GG := GG.trans G
  clear G
  have HP : PK 26 _ p w.heap.size none 0 [] := PK.new kp bp (by decide)
  clear kp
  refine nr ?_; intro U h; simp only [z0, z1] at h; subst h
  refine s_val 5 rfl rfl (.pointer (some ⟨p, 0, none⟩)) (rfl) ?_
  refine nr ?_; intro U h; simp only [z0, z1] at h; subst h
  refine wpList_nil ?_
  refine then_n ?_
  refine wp_seq ?_
  refine wp_region_lit ?_
  refine s_val 6 rfl rfl (.slice none 0 0) (rfl) ?_
  refine nr ?_; intro U h; simp only [z0, z1] at h; subst h
  refine wpList_nil ?_
  refine then_n ?_
  refine wp_seq ?_
  refine wp_seq ?_
  refine wp_region_lit ?_
  refine s_val 16 rfl rfl (.slice ao ls.length cap) (rfl) ?_
  refine nr ?_; intro U h; simp only [z0, z1] at h; subst h
  refine s_val 17 rfl rfl (.int .i64 ((ls.length : Nat) : Int)) (run_len Try.underlying24 _ rfl _ _ _ rfl _) ?_
  refine nr ?_; intro U h; simp only [z0, z1] at h; subst h
  refine s_val 18 rfl rfl (.int .i64 0) (rfl) ?_
  refine nr ?_; intro U h; simp only [z0, z1] at h; subst h
  refine wpList_nil ?_
  refine then_n ?_
  refine wp_block ?_
  refine wp_loopN (fun mz az wv => ∃ (j : Nat) (ro : Option Addr) (rc : Nat) (q : List RV) (aq : Option Addr) (cq : Nat) (qw : List RV) (us1 : Nat → Value), mz = ls.length - j ∧ az = ⟨[.slice ao ls.length cap, .int .i64 tw, undef, undef, us1 0, .pointer (some ⟨p, 0, none⟩), .slice aq qw.length cq, us1 1, us1 2, undef, undef, undef, undef, undef, .agg (c26 Sl.nil), .pointer (some ⟨p, 0, none⟩), .slice ao ls.length cap, .int .i64 ((ls.length : Nat) : Int), .int .i64 ((j : Nat) : Int), us1 3, us1 4, us1 5, us1 6, us1 7, us1 8, us1 9, us1 10, us1 11, us1 12, us1 13, us1 14, us1 15, us1 16, us1 17, us1 18, us1 19, undef, undef, undef, undef, undef, undef, undef, undef, undef, undef, undef, undef, undef, undef, undef, undef, undef, undef, undef, undef, undef, undef, undef, undef, undef, undef, undef, undef, undef, undef, undef, undef, undef, undef, undef, undef, undef, undef, undef, undef, undef, undef, undef, undef, undef, undef, undef, undef].toArray, []⟩ ∧ j ≤ ls.length ∧ j ≤ 200 ∧ q.length = j ∧ qw.map (·.l) = q.map (·.l) ∧ (∀ k ∈ blk ro, k ∉ blk aq) ∧ Gro w wv ∧ PK 26 wv p w.heap.size ro rc q ∧ LY wv w.heap.size aq cq qw) ?_ _ ⟨0, none, 0, [], none, 0, [], (fun kz => ([.bool false, undef, undef, undef, undef, undef, undef, undef, undef, undef, undef, undef, undef, undef, undef, undef, undef, undef, undef, undef] : List Value).getD kz undef), rfl, rfl, Nat.zero_le _, Nat.zero_le _, rfl, rfl, (fun k hk => by simp [blk] at hk), GG, HP, LY.nil _ _⟩
  clear GG HP
  rintro mz az wv ⟨j, ro, rc, q, aq, cq, qw, us1, rfl, rfl, hj, hj2, hqj, hqw, hdis, GG, HP, HQ⟩
  have hql : qw.length = q.length := by have := congrArg List.length hqw; simpa using this
  refine wp_seq ?_
  refine wp_region_lit ?_
  obtain ⟨p1, hp1⟩ : ∃ p, decide (((j : Nat) : Int) < ((ls.length : Nat) : Int)) = p := ⟨_, rfl⟩
  refine s_val 19 rfl rfl (.bool p1) (run_lssT 3 _ _ _ rfl ((j : Nat) : Int) ((ls.length : Nat) : Int) rfl rfl p1 hp1 _) ?_
  refine nr ?_; intro U h; simp only [z0, z1] at h; subst h
  cases p1
  · refine wpList_nil ?_
    refine then_n ?_
    refine wp_seq ?_
    refine wp_cond_false rfl ?_
    refine wp_exit ?_
    refine then_x ?_
    refine then_x ?_
    refine blk_x ?_
    refine then_n ?_
    refine wp_seq ?_
    refine wp_seq ?_
    refine wp_region_lit ?_
    refine s_val 36 rfl rfl (.slice aq qw.length cq) (rfl) ?_
    refine nr ?_; intro U h; simp only [z0, z1] at h; subst h
    refine s_val 37 rfl rfl (.int .i64 ((qw.length : Nat) : Int)) (run_len Try.underlying24 _ rfl _ _ _ rfl _) ?_
    refine nr ?_; intro U h; simp only [z0, z1] at h; subst h
    obtain ⟨p2, hp2⟩ : ∃ p, decide (0 < ((qw.length : Nat) : Int)) = p := ⟨_, rfl⟩
    refine s_val 38 rfl rfl (.bool p2) (run_gtrT 3 _ _ _ rfl ((qw.length : Nat) : Int) 0 rfl rfl p2 hp2 _) ?_
    refine nr ?_; intro U h; simp only [z0, z1] at h; subst h
    cases p2
    · refine wpList_nil ?_
      refine then_n ?_
      refine wp_cond_false rfl ?_
      refine wp_skip ?_
      refine then_n ?_
      refine wp_seq ?_
      refine wp_seq ?_
      refine wp_region_lit ?_
      refine s_val 57 rfl rfl (.slice aq qw.length cq) (rfl) ?_
      refine nr ?_; intro U h; simp only [z0, z1] at h; subst h
      refine s_val 58 rfl rfl (.int .i64 ((qw.length : Nat) : Int)) (run_len Try.underlying24 _ rfl _ _ _ rfl _) ?_
      refine nr ?_; intro U h; simp only [z0, z1] at h; subst h
      refine s_val 59 rfl rfl (.int .i64 0) (rfl) ?_
      refine nr ?_; intro U h; simp only [z0, z1] at h; subst h
      refine wpList_nil ?_
      refine then_n ?_
      refine wp_block ?_
      have hqw2 := hqw
      obtain ⟨W, hW⟩ : ∃ W, qw = W := ⟨_, rfl⟩
      rw [hW] at hqw2 HQ
      have hql2 : W.length = qw.length := by rw [hW]
      clear hW
      rw [← hql2]
      refine wp_loopN (fun mz az wv => ∃ (i : Nat) (rp : Option Addr) (sc : Nat) (z : List RV) (us2 : Nat → Value), mz = W.length - i ∧ az = ⟨[.slice ao ls.length cap, .int .i64 tw, undef, undef, us2 0, .pointer (some ⟨p, 0, none⟩), .slice aq W.length cq, us1 1, us1 2, undef, undef, us2 1, us2 2, us2 3, .agg (c26 Sl.nil), .pointer (some ⟨p, 0, none⟩), .slice ao ls.length cap, .int .i64 ((ls.length : Nat) : Int), .int .i64 ((j : Nat) : Int), .bool false, us1 4, us1 5, us1 6, us1 7, us1 8, us1 9, us1 10, us1 11, us1 12, us1 13, us1 14, us1 15, us1 16, us1 17, us1 18, us1 19, .slice aq W.length cq, .int .i64 ((W.length : Nat) : Int), .bool false, undef, undef, undef, undef, undef, undef, undef, undef, undef, undef, undef, undef, undef, undef, undef, undef, undef, undef, .slice aq W.length cq, .int .i64 ((W.length : Nat) : Int), .int .i64 ((i : Nat) : Int), us2 4, us2 5, us2 6, us2 7, us2 8, us2 9, us2 10, us2 11, us2 12, us2 13, us2 14, us2 15, us2 16, us2 17, us2 18, us2 19, us2 20, us2 21, undef, undef, undef, undef, undef, undef].toArray, []⟩ ∧ i ≤ W.length ∧ z.map (·.l) = (W.map (·.l)).drop i ∧ Gro w wv ∧ PK 26 wv p w.heap.size rp sc z ∧ LY wv w.heap.size aq cq W) ?_ _ ⟨0, _, _, q, (fun kz => ([us1 0, undef, undef, undef, undef, undef, undef, undef, undef, undef, undef, undef, undef, undef, undef, undef, undef, undef, undef, undef, undef, undef] : List Value).getD kz undef), rfl, rfl, Nat.zero_le _, hqw2.symm, GG, HP, HQ⟩
      clear GG HP HQ
      rintro mz az wv ⟨i, rp, sc, z, us2, rfl, rfl, hi, hz, GG, HP, HQ⟩
      have hzl : z.length = W.length - i := by have := congrArg List.length hz; simpa using this
      refine wp_seq ?_
      refine wp_region_lit ?_
      obtain ⟨p3, hp3⟩ : ∃ p, decide (((i : Nat) : Int) < ((W.length : Nat) : Int)) = p := ⟨_, rfl⟩
      refine s_val 60 rfl rfl (.bool p3) (run_lssT 3 _ _ _ rfl ((i : Nat) : Int) ((W.length : Nat) : Int) rfl rfl p3 hp3 _) ?_
      refine nr ?_; intro U h; simp only [z0, z1] at h; subst h
      cases p3
      · have hin : i = W.length := by have := of_decide_eq_false hp3; omega
        refine wpList_nil ?_
        refine then_n ?_
        refine wp_seq ?_
        refine wp_cond_false rfl ?_
        refine wp_exit ?_
        refine then_x ?_
        refine then_x ?_
        refine blk_x ?_
        refine then_n ?_
        refine wp_seq ?_
        refine wp_region_opq ?_
        intro OPS hY
        have y1 := hY 1 79 rfl
        clear hY
        refine s_callv 78 rfl rfl _ 18 Try.call18 rfl rfl _ rfl [] rfl (fixed_true _) ?_
        intro w2 G
        replace HP := HP.gro G
        replace HQ := HQ.gro G
        replace GG := GG.trans G
        clear G
        refine nr ?_; intro U h; simp only [z0, z1] at h; subst h
        refine s_val 79 rfl rfl (.bool true) (rfl) ?_
        refine nr ?_; intro U h; simp only [z0, z1] at h; subst h
        refine s_gvalY 80 rfl rfl y1 rfl (.pointer (some ⟨p, 0, none⟩)) (rfl) ?_
        refine nr ?_; intro U h; simp only [z0, z1] at h; subst h
        refine s_gcallvY 81 rfl rfl y1 rfl _ 17 Try.call17 rfl rfl _ rfl [.pointer (some ⟨p, 0, none⟩)] rfl (len_any _ p w.heap.size rp sc z HP) ?_
        intro w3 G
        replace HP := HP.gro G
        replace HQ := HQ.gro G
        replace GG := GG.trans G
        clear G
        refine nr ?_; intro U h; simp only [z0, z1] at h; subst h
        refine s_gvalY 82 rfl rfl y1 rfl (.bool true) (run_eq_k 3 .i64 _ _ _ rfl Try.underlying3 ((z.length : Nat) : Int) 0 rfl rfl true (decide_eq_true (by omega)) _) ?_
        refine nr ?_; intro U h; simp only [z0, z1] at h; subst h
        refine s_val 83 rfl rfl (.bool true) (rfl) ?_
        refine nr ?_; intro U h; simp only [z0, z1] at h; subst h
        refine s_val 4 rfl rfl (.bool true) (rfl) ?_
        refine nr ?_; intro U h; simp only [z0, z1] at h; subst h
        refine wpList_nil ?_
        refine then_n ?_
        refine wp_ret ?_
        refine bodyPost_ret (results_tmp Try.results7 _ _ _) rfl ?_
        exact ⟨rfl, GG⟩
      have hin : i < W.length := by have := of_decide_eq_true hp3; omega
      obtain ⟨v0, hv0⟩ : ∃ x, z[0]? = some x := ⟨_, List.getElem?_eq_getElem (by omega)⟩
      obtain ⟨v1, hv1⟩ : ∃ x, W[i]? = some x := ⟨_, List.getElem?_eq_getElem hin⟩
      have hvm := List.mem_of_getElem? hv1
      have hvm0 := List.mem_of_getElem? hv0
      have hvl : v0.l = v1.l := by have h1 := map_at hz hv0; rw [List.getElem?_drop, Nat.add_zero, List.getElem?_map, hv1] at h1; simpa using h1.symm
      obtain ⟨ad5, hao5, hcl5⟩ := HQ.at hv1
      refine wpList_nil ?_
      refine then_n ?_
      refine wp_seq ?_
      refine wp_cond_true rfl ?_
      refine wp_skip ?_
      refine then_n ?_
      refine wp_seq ?_
      refine wp_block ?_
      refine wp_seq ?_
      refine wp_region_lit ?_
      refine s_val 61 rfl rfl (.pointer (some (ad5.add i))) (run_idx23 _ _ rfl ad5 W.length cq i (by exact congrArg (fun a => Value.slice a W.length cq) hao5) rfl hin _) ?_
      refine nr ?_; intro U h; simp only [z0, z1] at h; subst h
      refine s_val 62 rfl rfl (.slice v1.ao v1.l.length v1.cap) (run_ld24 _ rfl _ rfl _ _ hcl5) ?_
      refine nr ?_; intro U h; simp only [z0, z1] at h; subst h
      refine s_val 11 rfl rfl (.slice v1.ao v1.l.length v1.cap) (rfl) ?_
      refine nr ?_; intro U h; simp only [z0, z1] at h; subst h
      refine wpList_nil ?_
      refine then_n ?_
      refine wp_seq ?_
      refine wp_region_lit ?_
      refine s_val 64 rfl rfl (.pointer (some ⟨p, 0, none⟩)) (rfl) ?_
      refine nr ?_; intro U h; simp only [z0, z1] at h; subst h
      refine s_callx 65 rfl rfl _ 10 Try.call10 rfl rfl _ rfl [.pointer (some ⟨p, 0, none⟩), .int .i64 0] rfl (take_ok _ p w.heap.size rp sc z HP 0 0 (uN0 _) v0 hv0) (fun _ _ ⟨_, _, _, he, _⟩ => ⟨_, he⟩) ?_
      rintro v w2 ⟨gt, a6, c6, he, G, bgt, kgt, HP2, hkp⟩
      cases he
      have hb0 := (HP.fr v0 hvm0).nc.lt256
      replace HQ := HQ.take HP G
      replace GG := G.gro GG (by simpa using bp)
      clear G HP hkp hcl5
      have HP := HP2
      clear HP2
      refine nr ?_; intro U h; simp only [z0, z1] at h; subst h
      refine s_val 63 rfl rfl (.tuple #[.slice (some ⟨gt, 0, none⟩) v0.l.length v0.l.length, .bool true]) (rfl) ?_
      refine nr ?_; intro U h; simp only [z0, z1] at h; subst h
      refine s_val 66 rfl rfl (.slice (some ⟨gt, 0, none⟩) v0.l.length v0.l.length) (rfl) ?_
      refine nr ?_; intro U h; simp only [z0, z1] at h; subst h
      refine s_val 67 rfl rfl (.bool true) (rfl) ?_
      refine nr ?_; intro U h; simp only [z0, z1] at h; subst h
      refine s_val 12 rfl rfl (.slice (some ⟨gt, 0, none⟩) v0.l.length v0.l.length) (rfl) ?_
      refine nr ?_; intro U h; simp only [z0, z1] at h; subst h
      refine s_val 13 rfl rfl (.bool true) (rfl) ?_
      refine nr ?_; intro U h; simp only [z0, z1] at h; subst h
      refine wpList_nil ?_
      refine then_n ?_
      refine wp_seq ?_
      refine wp_region_opq ?_
      intro OPS hY
      have y2 := hY 2 70 rfl
      clear hY
      refine s_val 68 rfl rfl (.bool true) (rfl) ?_
      refine nr ?_; intro U h; simp only [z0, z1] at h; subst h
      refine s_val 69 rfl rfl (.bool false) (run_nt _ _ rfl true rfl) ?_
      refine nr ?_; intro U h; simp only [z0, z1] at h; subst h
      refine s_val 70 rfl rfl (.bool false) (rfl) ?_
      refine nr ?_; intro U h; simp only [z0, z1] at h; subst h
      refine s_gvalY 71 rfl rfl y2 rfl (.slice (some ⟨gt, 0, none⟩) v0.l.length v0.l.length) (rfl) ?_
      refine nr ?_; intro U h; simp only [z0, z1] at h; subst h
      refine s_gvalY 72 rfl rfl y2 rfl (.string (bas v0.l)) (run_text_op bT 9 Try.underlying9 _ rfl rfl (nc_all kgt hb0)) ?_
      refine nr ?_; intro U h; simp only [z0, z1] at h; subst h
      refine s_gvalY 73 rfl rfl y2 rfl (.slice v1.ao v1.l.length v1.cap) (rfl) ?_
      refine nr ?_; intro U h; simp only [z0, z1] at h; subst h
      refine s_gvalY 74 rfl rfl y2 rfl (.string (bas v0.l)) ((run_text_op bT 9 Try.underlying9 _ rfl rfl (HQ.fr v1 hvm).nc).trans (by rw [hvl])) ?_
      refine nr ?_; intro U h; simp only [z0, z1] at h; subst h
      refine s_gvalY 75 rfl rfl y2 rfl (.bool false) (run_nes_op _ _ _ rfl _ _ rfl rfl false (decide_eq_true rfl) _) ?_
      refine nr ?_; intro U h; simp only [z0, z1] at h; subst h
      refine s_val 76 rfl rfl (.bool false) (rfl) ?_
      refine nr ?_; intro U h; simp only [z0, z1] at h; subst h
      refine wpList_nil ?_
      refine then_n ?_
      refine wp_cond_false rfl ?_
      refine wp_skip ?_
      refine blk_n ?_
      refine then_n ?_
      refine wp_region_lit ?_
      refine s_val 77 rfl rfl (.int .i64 ((i + 1 : Nat) : Int)) (run_add64 _ _ _ rfl ((i : Nat) : Int) 1 _ rfl rfl (by omega) (by omega) (by omega) _) ?_
      refine nr ?_; intro U h; simp only [z0, z1] at h; subst h
      refine s_val 59 rfl rfl (.int .i64 ((i + 1 : Nat) : Int)) (rfl) ?_
      refine nr ?_; intro U h; simp only [z0, z1] at h; subst h
      refine wpList_nil ?_
      refine then_n ?_
      exact ⟨_, (by omega : W.length - (i + 1) < W.length - i), i + 1, a6, c6, z.eraseIdx 0, (fun kz => ([us2 0, .slice v1.ao v1.l.length v1.cap, .slice (some ⟨gt, 0, none⟩) v0.l.length v0.l.length, .bool true, .bool true, .pointer (some (ad5.add i)), .slice v1.ao v1.l.length v1.cap, .tuple #[.slice (some ⟨gt, 0, none⟩) v0.l.length v0.l.length, .bool true], .pointer (some ⟨p, 0, none⟩), .tuple #[.slice (some ⟨gt, 0, none⟩) v0.l.length v0.l.length, .bool true], .slice (some ⟨gt, 0, none⟩) v0.l.length v0.l.length, .bool true, .bool true, .bool false, .bool false, .slice (some ⟨gt, 0, none⟩) v0.l.length v0.l.length, .string (bas v0.l), .slice v1.ao v1.l.length v1.cap, .string (bas v0.l), .bool false, .bool false, .int .i64 ((i + 1 : Nat) : Int)] : List Value).getD kz undef), rfl, rfl, hin, (by rw [List.eraseIdx_zero, List.map_tail, hz, List.tail_drop]), GG, HP, HQ⟩
    have h0 : 0 < qw.length := by have := of_decide_eq_true hp2; omega
    obtain ⟨k, hk⟩ : ∃ k, uN tw % qw.length = k := ⟨_, rfl⟩
    have hkl : k < qw.length := by rw [← hk]; exact Nat.mod_lt _ h0
    obtain ⟨x, hx⟩ : ∃ x, q[k]? = some x := ⟨_, List.getElem?_eq_getElem (by omega)⟩
    obtain ⟨xw, hxw⟩ : ∃ x, qw[k]? = some x := ⟨_, List.getElem?_eq_getElem hkl⟩
    have hxq := List.mem_of_getElem? hxw
    have hxl : xw.l = x.l := by have h1 := map_at hqw hxw; rw [List.getElem?_map, hx] at h1; simpa using h1.symm
    refine wpList_nil ?_
    refine then_n ?_
    refine wp_cond_true rfl ?_
    refine wp_seq ?_
    refine wp_region_lit ?_
    refine s_val 39 rfl rfl (.int .i64 tw) (rfl) ?_
    refine nr ?_; intro U h; simp only [z0, z1] at h; subst h
    refine s_val 40 rfl rfl (.int .u64 ((uN tw : Nat) : Int)) (conv345 _ rfl tw rfl _) ?_
    refine nr ?_; intro U h; simp only [z0, z1] at h; subst h
    refine s_val 41 rfl rfl (.slice aq qw.length cq) (rfl) ?_
    refine nr ?_; intro U h; simp only [z0, z1] at h; subst h
    refine s_val 42 rfl rfl (.int .i64 ((qw.length : Nat) : Int)) (run_len Try.underlying24 _ rfl _ _ _ rfl _) ?_
    refine nr ?_; intro U h; simp only [z0, z1] at h; subst h
    refine s_val 43 rfl rfl (.int .u64 ((qw.length : Nat) : Int)) (conv345n _ rfl qw.length (by omega) rfl _) ?_
    refine nr ?_; intro U h; simp only [z0, z1] at h; subst h
    refine s_val 44 rfl rfl (.int .u64 ((k : Nat) : Int)) ((run_remN 42 42 _ _ rfl (uN tw) qw.length rfl rfl (by omega) _).trans (by rw [hk])) ?_
    refine nr ?_; intro U h; simp only [z0, z1] at h; subst h
    refine s_val 45 rfl rfl (.int .i64 ((k : Nat) : Int)) (conv453 _ rfl k (by omega) rfl _) ?_
    refine nr ?_; intro U h; simp only [z0, z1] at h; subst h
    refine s_val 9 rfl rfl (.int .i64 ((k : Nat) : Int)) (rfl) ?_
    refine nr ?_; intro U h; simp only [z0, z1] at h; subst h
    refine wpList_nil ?_
    refine then_n ?_
    refine wp_seq ?_
    refine wp_seq ?_
    refine wp_region_lit ?_
    refine s_val 46 rfl rfl (.pointer (some ⟨p, 0, none⟩)) (rfl) ?_
    refine nr ?_; intro U h; simp only [z0, z1] at h; subst h
    refine s_val 47 rfl rfl (.int .i64 ((k : Nat) : Int)) (rfl) ?_
    refine nr ?_; intro U h; simp only [z0, z1] at h; subst h
    have hdis0 := hdis
    refine s_callx 48 rfl rfl _ 12 Try.call12 rfl rfl _ rfl [.pointer (some ⟨p, 0, none⟩), .int .i64 ((k : Nat) : Int)] rfl (twice_ok _ p w.heap.size ro rc q HP (k : Int) k (by rw [uN_nat k (by omega)]; exact Nat.mod_eq_of_lt (by omega)) x hx (by omega)) (fun _ _ ⟨_, _, _, he, _⟩ => ⟨_, he⟩) ?_
    rintro v w2 ⟨a2, c2, y, he, hy, G, HP2, HY, hkp⟩
    cases he
    replace hdis := dis_put HQ.row hdis hkp (Nat.le_refl _)
    replace HQ := HQ.put HP G hdis0
    replace GG := G.gro GG HP.sb
    clear G HP HY hkp hdis0
    have HP := HP2
    clear HP2
    refine nr ?_; intro U h; simp only [z0, z1] at h; subst h
    refine s_val 49 rfl rfl (.bool false) (run_nt _ _ rfl true rfl) ?_
    refine nr ?_; intro U h; simp only [z0, z1] at h; subst h
    refine wpList_nil ?_
    refine then_n ?_
    refine wp_cond_false rfl ?_
    refine wp_skip ?_
    refine then_n ?_
    refine wp_region_lit ?_
    refine s_val 50 rfl rfl (.slice aq qw.length cq) (rfl) ?_
    refine nr ?_; intro U h; simp only [z0, z1] at h; subst h
    refine s_val 51 rfl rfl (.slice aq qw.length cq) (rfl) ?_
    refine nr ?_; intro U h; simp only [z0, z1] at h; subst h
    refine s_val 52 rfl rfl (.int .i64 ((k : Nat) : Int)) (rfl) ?_
    refine nr ?_; intro U h; simp only [z0, z1] at h; subst h
    obtain ⟨ad4, hao4, hcl⟩ := HQ.at hxw
    refine s_val 53 rfl rfl (.pointer (some (ad4.add k))) (run_idx23 _ _ rfl ad4 qw.length cq k (by exact congrArg (fun a => Value.slice a qw.length cq) hao4) rfl hkl _) ?_
    refine nr ?_; intro U h; simp only [z0, z1] at h; subst h
    refine s_val 54 rfl rfl (.slice xw.ao xw.l.length xw.cap) (run_ld24 _ rfl _ rfl _ _ hcl) ?_
    refine nr ?_; intro U h; simp only [z0, z1] at h; subst h
    refine s_bsl 55 rfl rfl 24 1 _ rfl [(0, .slice xw.ao xw.l.length xw.cap)] rfl #[.slice xw.ao xw.l.length xw.cap] 30 (by kernel_rfl) ?_
    intro w3 gB G eB kgB
    clear eB
    replace HP := HP.gro G
    replace HQ := HQ.gro G
    replace GG := GG.trans G
    clear G
    refine nr ?_; intro U h; simp only [z0, z1] at h; subst h
    refine s_appY rY 56 rfl rfl _ _ rfl rfl HQ.row rfl (xc_one kgB rfl) (by omega) (by decide) GG.size ?_
    intro aq3 cq3 w4 HX GX hkq
    have HQ2 := LY.app (x := xw) HQ HX GX (HQ.fr xw hxq)
    have hdis0 := hdis
    replace hdis := dis_app HP.row hdis hkq (Nat.le_refl _)
    replace HP := HP.beside HQ GX hdis0
    replace GG := GX.gro GG HQ.row.base
    clear HX GX HQ kgB hdis0 hkq
    have HQ := HQ2
    clear HQ2
    refine nr ?_; intro U h; simp only [z0, z1] at h; subst h
    refine s_val 6 rfl rfl (.slice aq3 (qw.length + 1) cq3) (rfl) ?_
    refine nr ?_; intro U h; simp only [z0, z1] at h; subst h
    refine wpList_nil ?_
    refine then_n ?_
    refine wp_seq ?_
    refine wp_seq ?_
    refine wp_region_lit ?_
    refine s_val 57 rfl rfl (.slice aq3 (qw.length + 1) cq3) (rfl) ?_
    refine nr ?_; intro U h; simp only [z0, z1] at h; subst h
    refine s_val 58 rfl rfl (.int .i64 ((qw.length + 1 : Nat) : Int)) (run_len Try.underlying24 _ rfl _ _ _ rfl _) ?_
    refine nr ?_; intro U h; simp only [z0, z1] at h; subst h
    refine s_val 59 rfl rfl (.int .i64 0) (rfl) ?_
    refine nr ?_; intro U h; simp only [z0, z1] at h; subst h
    refine wpList_nil ?_
    refine then_n ?_
    refine wp_block ?_
    have hqw2 : (qw ++ [xw]).map (·.l) = (q ++ [y]).map (·.l) := by rw [List.map_append, List.map_append, hqw]; simp [hy, hxl]
    have hql2 : (qw ++ [xw]).length = qw.length + 1 := by simp
    clear hcl
    obtain ⟨W, hW⟩ : ∃ W, qw ++ [xw] = W := ⟨_, rfl⟩
    rw [hW] at hqw2 hql2 HQ
    clear hW
    rw [← hql2]
    refine wp_loopN (fun mz az wv => ∃ (i : Nat) (rp : Option Addr) (sc : Nat) (z : List RV) (us2 : Nat → Value), mz = W.length - i ∧ az = ⟨[.slice ao ls.length cap, .int .i64 tw, undef, undef, us2 0, .pointer (some ⟨p, 0, none⟩), .slice aq3 W.length cq3, us1 1, us1 2, .int .i64 ((k : Nat) : Int), undef, us2 1, us2 2, us2 3, .agg (c26 Sl.nil), .pointer (some ⟨p, 0, none⟩), .slice ao ls.length cap, .int .i64 ((ls.length : Nat) : Int), .int .i64 ((j : Nat) : Int), .bool false, us1 4, us1 5, us1 6, us1 7, us1 8, us1 9, us1 10, us1 11, us1 12, us1 13, us1 14, us1 15, us1 16, us1 17, us1 18, us1 19, .slice aq qw.length cq, .int .i64 ((qw.length : Nat) : Int), .bool true, .int .i64 tw, .int .u64 ((uN tw : Nat) : Int), .slice aq qw.length cq, .int .i64 ((qw.length : Nat) : Int), .int .u64 ((qw.length : Nat) : Int), .int .u64 ((k : Nat) : Int), .int .i64 ((k : Nat) : Int), .pointer (some ⟨p, 0, none⟩), .int .i64 ((k : Nat) : Int), .bool true, .bool false, .slice aq qw.length cq, .slice aq qw.length cq, .int .i64 ((k : Nat) : Int), .pointer (some (ad4.add k)), .slice xw.ao xw.l.length xw.cap, .slice (some ⟨gB, 0, none⟩) 1 1, .slice aq3 W.length cq3, .slice aq3 W.length cq3, .int .i64 ((W.length : Nat) : Int), .int .i64 ((i : Nat) : Int), us2 4, us2 5, us2 6, us2 7, us2 8, us2 9, us2 10, us2 11, us2 12, us2 13, us2 14, us2 15, us2 16, us2 17, us2 18, us2 19, us2 20, us2 21, undef, undef, undef, undef, undef, undef].toArray, []⟩ ∧ i ≤ W.length ∧ z.map (·.l) = (W.map (·.l)).drop i ∧ Gro w wv ∧ PK 26 wv p w.heap.size rp sc z ∧ LY wv w.heap.size aq3 cq3 W) ?_ _ ⟨0, _, _, (q ++ [y]), (fun kz => ([us1 0, undef, undef, undef, undef, undef, undef, undef, undef, undef, undef, undef, undef, undef, undef, undef, undef, undef, undef, undef, undef, undef] : List Value).getD kz undef), rfl, rfl, Nat.zero_le _, hqw2.symm, GG, HP, HQ⟩
    clear GG HP HQ
    rintro mz az wv ⟨i, rp, sc, z, us2, rfl, rfl, hi, hz, GG, HP, HQ⟩
    have hzl : z.length = W.length - i := by have := congrArg List.length hz; simpa using this
    refine wp_seq ?_
    refine wp_region_lit ?_
    obtain ⟨p3, hp3⟩ : ∃ p, decide (((i : Nat) : Int) < ((W.length : Nat) : Int)) = p := ⟨_, rfl⟩
    refine s_val 60 rfl rfl (.bool p3) (run_lssT 3 _ _ _ rfl ((i : Nat) : Int) ((W.length : Nat) : Int) rfl rfl p3 hp3 _) ?_
    refine nr ?_; intro U h; simp only [z0, z1] at h; subst h
    cases p3
    · have hin : i = W.length := by have := of_decide_eq_false hp3; omega
      refine wpList_nil ?_
      refine then_n ?_
      refine wp_seq ?_
      refine wp_cond_false rfl ?_
      refine wp_exit ?_
      refine then_x ?_
      refine then_x ?_
      refine blk_x ?_
      refine then_n ?_
      refine wp_seq ?_
      refine wp_region_opq ?_
      intro OPS hY
      have y1 := hY 1 79 rfl
      clear hY
      refine s_callv 78 rfl rfl _ 18 Try.call18 rfl rfl _ rfl [] rfl (fixed_true _) ?_
      intro w5 G
      replace HP := HP.gro G
      replace HQ := HQ.gro G
      replace GG := GG.trans G
      clear G
      refine nr ?_; intro U h; simp only [z0, z1] at h; subst h
      refine s_val 79 rfl rfl (.bool true) (rfl) ?_
      refine nr ?_; intro U h; simp only [z0, z1] at h; subst h
      refine s_gvalY 80 rfl rfl y1 rfl (.pointer (some ⟨p, 0, none⟩)) (rfl) ?_
      refine nr ?_; intro U h; simp only [z0, z1] at h; subst h
      refine s_gcallvY 81 rfl rfl y1 rfl _ 17 Try.call17 rfl rfl _ rfl [.pointer (some ⟨p, 0, none⟩)] rfl (len_any _ p w.heap.size rp sc z HP) ?_
      intro w6 G
      replace HP := HP.gro G
      replace HQ := HQ.gro G
      replace GG := GG.trans G
      clear G
      refine nr ?_; intro U h; simp only [z0, z1] at h; subst h
      refine s_gvalY 82 rfl rfl y1 rfl (.bool true) (run_eq_k 3 .i64 _ _ _ rfl Try.underlying3 ((z.length : Nat) : Int) 0 rfl rfl true (decide_eq_true (by omega)) _) ?_
      refine nr ?_; intro U h; simp only [z0, z1] at h; subst h
      refine s_val 83 rfl rfl (.bool true) (rfl) ?_
      refine nr ?_; intro U h; simp only [z0, z1] at h; subst h
      refine s_val 4 rfl rfl (.bool true) (rfl) ?_
      refine nr ?_; intro U h; simp only [z0, z1] at h; subst h
      refine wpList_nil ?_
      refine then_n ?_
      refine wp_ret ?_
      refine bodyPost_ret (results_tmp Try.results7 _ _ _) rfl ?_
      exact ⟨rfl, GG⟩
    have hin : i < W.length := by have := of_decide_eq_true hp3; omega
    obtain ⟨v0, hv0⟩ : ∃ x, z[0]? = some x := ⟨_, List.getElem?_eq_getElem (by omega)⟩
    obtain ⟨v1, hv1⟩ : ∃ x, W[i]? = some x := ⟨_, List.getElem?_eq_getElem hin⟩
    have hvm := List.mem_of_getElem? hv1
    have hvm0 := List.mem_of_getElem? hv0
    have hvl : v0.l = v1.l := by have h1 := map_at hz hv0; rw [List.getElem?_drop, Nat.add_zero, List.getElem?_map, hv1] at h1; simpa using h1.symm
    obtain ⟨ad5, hao5, hcl5⟩ := HQ.at hv1
    refine wpList_nil ?_
    refine then_n ?_
    refine wp_seq ?_
    refine wp_cond_true rfl ?_
    refine wp_skip ?_
    refine then_n ?_
    refine wp_seq ?_
    refine wp_block ?_
    refine wp_seq ?_
    refine wp_region_lit ?_
    refine s_val 61 rfl rfl (.pointer (some (ad5.add i))) (run_idx23 _ _ rfl ad5 W.length cq3 i (by exact congrArg (fun a => Value.slice a W.length cq3) hao5) rfl hin _) ?_
    refine nr ?_; intro U h; simp only [z0, z1] at h; subst h
    refine s_val 62 rfl rfl (.slice v1.ao v1.l.length v1.cap) (run_ld24 _ rfl _ rfl _ _ hcl5) ?_
    refine nr ?_; intro U h; simp only [z0, z1] at h; subst h
    refine s_val 11 rfl rfl (.slice v1.ao v1.l.length v1.cap) (rfl) ?_
    refine nr ?_; intro U h; simp only [z0, z1] at h; subst h
    refine wpList_nil ?_
    refine then_n ?_
    refine wp_seq ?_
    refine wp_region_lit ?_
    refine s_val 64 rfl rfl (.pointer (some ⟨p, 0, none⟩)) (rfl) ?_
    refine nr ?_; intro U h; simp only [z0, z1] at h; subst h
    refine s_callx 65 rfl rfl _ 10 Try.call10 rfl rfl _ rfl [.pointer (some ⟨p, 0, none⟩), .int .i64 0] rfl (take_ok _ p w.heap.size rp sc z HP 0 0 (uN0 _) v0 hv0) (fun _ _ ⟨_, _, _, he, _⟩ => ⟨_, he⟩) ?_
    rintro v w5 ⟨gt, a6, c6, he, G, bgt, kgt, HP2, hkp⟩
    cases he
    have hb0 := (HP.fr v0 hvm0).nc.lt256
    replace HQ := HQ.take HP G
    replace GG := G.gro GG (by simpa using bp)
    clear G HP hkp hcl5
    have HP := HP2
    clear HP2
    refine nr ?_; intro U h; simp only [z0, z1] at h; subst h
    refine s_val 63 rfl rfl (.tuple #[.slice (some ⟨gt, 0, none⟩) v0.l.length v0.l.length, .bool true]) (rfl) ?_
    refine nr ?_; intro U h; simp only [z0, z1] at h; subst h
    refine s_val 66 rfl rfl (.slice (some ⟨gt, 0, none⟩) v0.l.length v0.l.length) (rfl) ?_
    refine nr ?_; intro U h; simp only [z0, z1] at h; subst h
    refine s_val 67 rfl rfl (.bool true) (rfl) ?_
    refine nr ?_; intro U h; simp only [z0, z1] at h; subst h
    refine s_val 12 rfl rfl (.slice (some ⟨gt, 0, none⟩) v0.l.length v0.l.length) (rfl) ?_
    refine nr ?_; intro U h; simp only [z0, z1] at h; subst h
    refine s_val 13 rfl rfl (.bool true) (rfl) ?_
    refine nr ?_; intro U h; simp only [z0, z1] at h; subst h
    refine wpList_nil ?_
    refine then_n ?_
    refine wp_seq ?_
    refine wp_region_opq ?_
    intro OPS hY
    have y2 := hY 2 70 rfl
    clear hY
    refine s_val 68 rfl rfl (.bool true) (rfl) ?_
    refine nr ?_; intro U h; simp only [z0, z1] at h; subst h
    refine s_val 69 rfl rfl (.bool false) (run_nt _ _ rfl true rfl) ?_
    refine nr ?_; intro U h; simp only [z0, z1] at h; subst h
    refine s_val 70 rfl rfl (.bool false) (rfl) ?_
    refine nr ?_; intro U h; simp only [z0, z1] at h; subst h
    refine s_gvalY 71 rfl rfl y2 rfl (.slice (some ⟨gt, 0, none⟩) v0.l.length v0.l.length) (rfl) ?_
    refine nr ?_; intro U h; simp only [z0, z1] at h; subst h
    refine s_gvalY 72 rfl rfl y2 rfl (.string (bas v0.l)) (run_text_op bT 9 Try.underlying9 _ rfl rfl (nc_all kgt hb0)) ?_
    refine nr ?_; intro U h; simp only [z0, z1] at h; subst h
    refine s_gvalY 73 rfl rfl y2 rfl (.slice v1.ao v1.l.length v1.cap) (rfl) ?_
    refine nr ?_; intro U h; simp only [z0, z1] at h; subst h
    refine s_gvalY 74 rfl rfl y2 rfl (.string (bas v0.l)) ((run_text_op bT 9 Try.underlying9 _ rfl rfl (HQ.fr v1 hvm).nc).trans (by rw [hvl])) ?_
    refine nr ?_; intro U h; simp only [z0, z1] at h; subst h
    refine s_gvalY 75 rfl rfl y2 rfl (.bool false) (run_nes_op _ _ _ rfl _ _ rfl rfl false (decide_eq_true rfl) _) ?_
    refine nr ?_; intro U h; simp only [z0, z1] at h; subst h
    refine s_val 76 rfl rfl (.bool false) (rfl) ?_
    refine nr ?_; intro U h; simp only [z0, z1] at h; subst h
    refine wpList_nil ?_
    refine then_n ?_
    refine wp_cond_false rfl ?_
    refine wp_skip ?_
    refine blk_n ?_
    refine then_n ?_
    refine wp_region_lit ?_
    refine s_val 77 rfl rfl (.int .i64 ((i + 1 : Nat) : Int)) (run_add64 _ _ _ rfl ((i : Nat) : Int) 1 _ rfl rfl (by omega) (by omega) (by omega) _) ?_
    refine nr ?_; intro U h; simp only [z0, z1] at h; subst h
    refine s_val 59 rfl rfl (.int .i64 ((i + 1 : Nat) : Int)) (rfl) ?_
    refine nr ?_; intro U h; simp only [z0, z1] at h; subst h
    refine wpList_nil ?_
    refine then_n ?_
    exact ⟨_, (by omega : W.length - (i + 1) < W.length - i), i + 1, a6, c6, z.eraseIdx 0, (fun kz => ([us2 0, .slice v1.ao v1.l.length v1.cap, .slice (some ⟨gt, 0, none⟩) v0.l.length v0.l.length, .bool true, .bool true, .pointer (some (ad5.add i)), .slice v1.ao v1.l.length v1.cap, .tuple #[.slice (some ⟨gt, 0, none⟩) v0.l.length v0.l.length, .bool true], .pointer (some ⟨p, 0, none⟩), .tuple #[.slice (some ⟨gt, 0, none⟩) v0.l.length v0.l.length, .bool true], .slice (some ⟨gt, 0, none⟩) v0.l.length v0.l.length, .bool true, .bool true, .bool false, .bool false, .slice (some ⟨gt, 0, none⟩) v0.l.length v0.l.length, .string (bas v0.l), .slice v1.ao v1.l.length v1.cap, .string (bas v0.l), .bool false, .bool false, .int .i64 ((i + 1 : Nat) : Int)] : List Value).getD kz undef), rfl, rfl, hin, (by rw [List.eraseIdx_zero, List.map_tail, hz, List.tail_drop]), GG, HP, HQ⟩
  have hjn : j < ls.length := by have := of_decide_eq_true hp1; omega
  obtain ⟨ad, ao3, cap3, hao, clA, ncA⟩ := HA.at hjn
  have hrl := hlens _ (getD_mem2 hjn)
  have hdis0 := hdis
  refine wpList_nil ?_
  refine then_n ?_
  refine wp_seq ?_
  refine wp_cond_true rfl ?_
  refine wp_skip ?_
  refine then_n ?_
  refine wp_seq ?_
  refine wp_block ?_
  refine wp_seq ?_
  refine wp_region_lit ?_
  refine s_val 20 rfl rfl (.int .i64 ((j : Nat) : Int)) (rfl) ?_
  refine nr ?_; intro U h; simp only [z0, z1] at h; subst h
  refine s_val 21 rfl rfl (.pointer (some (ad.add j))) (run_idx23 _ _ rfl ad ls.length cap j (by exact congrArg (fun a => Value.slice a ls.length cap) hao) rfl hjn _) ?_
  refine nr ?_; intro U h; simp only [z0, z1] at h; subst h
  refine s_val 22 rfl rfl (.slice ao3 ((ls.getD j []).length) cap3) (run_ld24 _ rfl _ rfl _ _ (gro_cell GG clA)) ?_
  refine nr ?_; intro U h; simp only [z0, z1] at h; subst h
  refine s_val 7 rfl rfl (.int .i64 ((j : Nat) : Int)) (rfl) ?_
  refine nr ?_; intro U h; simp only [z0, z1] at h; subst h
  refine s_val 8 rfl rfl (.slice ao3 ((ls.getD j []).length) cap3) (rfl) ?_
  refine nr ?_; intro U h; simp only [z0, z1] at h; subst h
  refine wpList_nil ?_
  refine then_n ?_
  refine wp_seq ?_
  refine wp_seq ?_
  refine wp_region_lit ?_
  refine s_val 23 rfl rfl (.int .i64 ((j : Nat) : Int)) (rfl) ?_
  refine nr ?_; intro U h; simp only [z0, z1] at h; subst h
  obtain ⟨p2, hp2⟩ : ∃ p, decide (((j : Nat) : Int) = 200) = p := ⟨_, rfl⟩
  refine s_val 24 rfl rfl (.bool p2) (run_eq_k 3 .i64 _ _ _ rfl Try.underlying3 ((j : Nat) : Int) 200 rfl rfl p2 hp2 _) ?_
  refine nr ?_; intro U h; simp only [z0, z1] at h; subst h
  cases p2
  · have hj3 : j < 200 := by have := of_decide_eq_false hp2; omega
    refine wpList_nil ?_
    refine then_n ?_
    refine wp_cond_false rfl ?_
    refine wp_skip ?_
    refine then_n ?_
    refine wp_seq ?_
    refine wp_seq ?_
    refine wp_region_lit ?_
    refine s_val 25 rfl rfl (.pointer (some ⟨p, 0, none⟩)) (rfl) ?_
    refine nr ?_; intro U h; simp only [z0, z1] at h; subst h
    refine s_val 26 rfl rfl (.slice ao3 ((ls.getD j []).length) cap3) (rfl) ?_
    refine nr ?_; intro U h; simp only [z0, z1] at h; subst h
    refine s_callx 27 rfl rfl _ 8 Try.call8 rfl rfl _ rfl [.pointer (some ⟨p, 0, none⟩), .slice ao3 ((ls.getD j []).length) cap3] rfl (put_ok _ p w.heap.size ro rc q HP (by omega) ao3 cap3 (ls.getD j []) (ncA.gro GG) (fun ad ha h0 hm => by have h1 := ncA.lt ad ha h0; have h2 := HP.row.base _ hm; omega) hrl) (fun _ _ ⟨_, _, _, he, _⟩ => ⟨_, he⟩) ?_
    rintro v w2 ⟨a2, c2, y, he, hy, G, HP2, HY, hkp⟩
    cases he
    replace hdis := dis_put HQ.row hdis hkp (Nat.le_refl _)
    replace HQ := HQ.put HP G hdis0
    replace GG := G.gro GG HP.sb
    clear G HP HY hkp hdis0
    have HP := HP2
    clear HP2
    refine nr ?_; intro U h; simp only [z0, z1] at h; subst h
    refine s_val 28 rfl rfl (.bool false) (run_nt _ _ rfl true rfl) ?_
    refine nr ?_; intro U h; simp only [z0, z1] at h; subst h
    refine wpList_nil ?_
    refine then_n ?_
    refine wp_cond_false rfl ?_
    refine wp_skip ?_
    refine then_n ?_
    refine wp_region_lit ?_
    refine s_val 29 rfl rfl (.slice aq qw.length cq) (rfl) ?_
    refine nr ?_; intro U h; simp only [z0, z1] at h; subst h
    refine s_bsl 30 rfl rfl 30 0 _ rfl [] rfl #[] 5 (by kernel_rfl) ?_
    intro w3 gb G1 egb kgb
    refine nr ?_; intro U h; simp only [z0, z1] at h; subst h
    refine s_val 31 rfl rfl (.slice ao3 ((ls.getD j []).length) cap3) (rfl) ?_
    refine nr ?_; intro U h; simp only [z0, z1] at h; subst h
    have HO1 : OB _ 5 .u8 gb (some ⟨gb, 0, none⟩) 0 [] := OB.made kgb (Nat.le_refl _) (Nat.le_refl _) (Nat.zero_le _) rfl rfl (fun x hx => by cases hx)
    refine s_app bT 32 rfl rfl _ _ rfl rfl HO1 (l' := (ls.getD j [])) rfl (ncA.gro (GG.trans G1)) (by simp only [List.length_nil]; omega) (by decide) (Nat.le_of_lt (lt_of_heap kgb)) ?_
    intro ao4 cap4 w4 HO2 BB
    rw [List.nil_append] at HO2
    simp only [List.nil_append]
    have G := below_gro G1 BB (Nat.le_of_eq egb)
    have bgb := size_base GG egb
    have HO := HO2.mono bgb
    clear HO1 HO2 BB G1 egb kgb
    replace HP := HP.gro G
    replace HQ := HQ.gro G
    replace GG := GG.trans G
    clear G
    refine nr ?_; intro U h; simp only [z0, z1] at h; subst h
    refine s_bsl 33 rfl rfl 24 1 _ rfl [(0, .slice ao4 (ls.getD j []).length cap4)] rfl #[.slice ao4 (ls.getD j []).length cap4] 30 (by kernel_rfl) ?_
    intro w5 gB G eB kgB
    clear eB
    replace HP := HP.gro G
    replace HQ := HQ.gro G
    replace HO := HO.gro G
    replace GG := GG.trans G
    clear G
    refine nr ?_; intro U h; simp only [z0, z1] at h; subst h
    refine s_appY rY 34 rfl rfl _ _ rfl rfl HQ.row rfl (xc_one kgB rfl) (by omega) (by decide) GG.size ?_
    intro aq2 cq2 w6 HX GX hkq
    have HQ2 := LY.app (x := ⟨ao4, cap4, (ls.getD j [])⟩) HQ HX GX HO
    have hdis0 := hdis
    replace hdis := dis_app HP.row hdis hkq (Nat.le_refl _)
    replace HP := HP.beside HQ GX hdis0
    replace GG := GX.gro GG HQ.row.base
    clear HX GX HQ kgB hdis0 hkq
    have HQ := HQ2
    clear HQ2
    refine nr ?_; intro U h; simp only [z0, z1] at h; subst h
    refine s_val 6 rfl rfl (.slice aq2 (qw.length + 1) cq2) (rfl) ?_
    refine nr ?_; intro U h; simp only [z0, z1] at h; subst h
    refine wpList_nil ?_
    refine blk_n ?_
    refine then_n ?_
    refine wp_region_lit ?_
    refine s_val 35 rfl rfl (.int .i64 ((j + 1 : Nat) : Int)) (run_add64 _ _ _ rfl ((j : Nat) : Int) 1 _ rfl rfl (by omega) (by omega) (by omega) _) ?_
    refine nr ?_; intro U h; simp only [z0, z1] at h; subst h
    refine s_val 18 rfl rfl (.int .i64 ((j + 1 : Nat) : Int)) (rfl) ?_
    refine nr ?_; intro U h; simp only [z0, z1] at h; subst h
    refine wpList_nil ?_
    refine then_n ?_
    exact ⟨_, (by omega : ls.length - (j + 1) < ls.length - j), j + 1, a2, c2, q ++ [y], aq2, cq2, qw ++ [⟨ao4, cap4, ls.getD j []⟩], (fun kz => ([us1 0, .int .i64 ((j : Nat) : Int), .slice ao3 ((ls.getD j []).length) cap3, .bool true, .int .i64 ((j : Nat) : Int), .pointer (some (ad.add j)), .slice ao3 ((ls.getD j []).length) cap3, .int .i64 ((j : Nat) : Int), .bool false, .pointer (some ⟨p, 0, none⟩), .slice ao3 ((ls.getD j []).length) cap3, .bool true, .bool false, .slice aq qw.length cq, .slice (some ⟨gb, 0, none⟩) (([] : List Nat).length) 0, .slice ao3 ((ls.getD j []).length) cap3, .slice ao4 ((ls.getD j []).length) cap4, .slice (some ⟨gB, 0, none⟩) 1 1, .slice aq2 (qw.length + 1) cq2, .int .i64 ((j + 1 : Nat) : Int)] : List Value).getD kz undef), rfl, (by rw [List.length_append]; rfl), hjn, (by omega), (by rw [List.length_append]; simp; omega), (by rw [List.map_append, List.map_append, hqw]; simp [hy]), hdis, GG, HP, HQ⟩
  refine wpList_nil ?_
  refine then_n ?_
  refine wp_cond_true rfl ?_
  refine wp_exit ?_
  refine then_x ?_
  refine blk_xn (by decide) ?_
  refine then_x ?_
  refine then_x ?_
  refine blk_x ?_
  refine then_n ?_
  refine wp_seq ?_
  refine wp_seq ?_
  refine wp_region_lit ?_
  refine s_val 36 rfl rfl (.slice aq qw.length cq) (rfl) ?_
  refine nr ?_; intro U h; simp only [z0, z1] at h; subst h
  refine s_val 37 rfl rfl (.int .i64 ((qw.length : Nat) : Int)) (run_len Try.underlying24 _ rfl _ _ _ rfl _) ?_
  refine nr ?_; intro U h; simp only [z0, z1] at h; subst h
  obtain ⟨p3, hp3⟩ : ∃ p, decide (0 < ((qw.length : Nat) : Int)) = p := ⟨_, rfl⟩
  refine s_val 38 rfl rfl (.bool p3) (run_gtrT 3 _ _ _ rfl ((qw.length : Nat) : Int) 0 rfl rfl p3 hp3 _) ?_
  refine nr ?_; intro U h; simp only [z0, z1] at h; subst h
  cases p3
  · refine wpList_nil ?_
    refine then_n ?_
    refine wp_cond_false rfl ?_
    refine wp_skip ?_
    refine then_n ?_
    refine wp_seq ?_
    refine wp_seq ?_
    refine wp_region_lit ?_
    refine s_val 57 rfl rfl (.slice aq qw.length cq) (rfl) ?_
    refine nr ?_; intro U h; simp only [z0, z1] at h; subst h
    refine s_val 58 rfl rfl (.int .i64 ((qw.length : Nat) : Int)) (run_len Try.underlying24 _ rfl _ _ _ rfl _) ?_
    refine nr ?_; intro U h; simp only [z0, z1] at h; subst h
    refine s_val 59 rfl rfl (.int .i64 0) (rfl) ?_
    refine nr ?_; intro U h; simp only [z0, z1] at h; subst h
    refine wpList_nil ?_
    refine then_n ?_
    refine wp_block ?_
    have hqw2 := hqw
    obtain ⟨W, hW⟩ : ∃ W, qw = W := ⟨_, rfl⟩
    rw [hW] at hqw2 HQ
    have hql2 : W.length = qw.length := by rw [hW]
    clear hW
    rw [← hql2]
    refine wp_loopN (fun mz az wv => ∃ (i : Nat) (rp : Option Addr) (sc : Nat) (z : List RV) (us2 : Nat → Value), mz = W.length - i ∧ az = ⟨[.slice ao ls.length cap, .int .i64 tw, undef, undef, us2 0, .pointer (some ⟨p, 0, none⟩), .slice aq W.length cq, .int .i64 ((j : Nat) : Int), .slice ao3 ((ls.getD j []).length) cap3, undef, undef, us2 1, us2 2, us2 3, .agg (c26 Sl.nil), .pointer (some ⟨p, 0, none⟩), .slice ao ls.length cap, .int .i64 ((ls.length : Nat) : Int), .int .i64 ((j : Nat) : Int), .bool true, .int .i64 ((j : Nat) : Int), .pointer (some (ad.add j)), .slice ao3 ((ls.getD j []).length) cap3, .int .i64 ((j : Nat) : Int), .bool true, us1 9, us1 10, us1 11, us1 12, us1 13, us1 14, us1 15, us1 16, us1 17, us1 18, us1 19, .slice aq W.length cq, .int .i64 ((W.length : Nat) : Int), .bool false, undef, undef, undef, undef, undef, undef, undef, undef, undef, undef, undef, undef, undef, undef, undef, undef, undef, undef, .slice aq W.length cq, .int .i64 ((W.length : Nat) : Int), .int .i64 ((i : Nat) : Int), us2 4, us2 5, us2 6, us2 7, us2 8, us2 9, us2 10, us2 11, us2 12, us2 13, us2 14, us2 15, us2 16, us2 17, us2 18, us2 19, us2 20, us2 21, undef, undef, undef, undef, undef, undef].toArray, []⟩ ∧ i ≤ W.length ∧ z.map (·.l) = (W.map (·.l)).drop i ∧ Gro w wv ∧ PK 26 wv p w.heap.size rp sc z ∧ LY wv w.heap.size aq cq W) ?_ _ ⟨0, _, _, q, (fun kz => ([us1 0, undef, undef, undef, undef, undef, undef, undef, undef, undef, undef, undef, undef, undef, undef, undef, undef, undef, undef, undef, undef, undef] : List Value).getD kz undef), rfl, rfl, Nat.zero_le _, hqw2.symm, GG, HP, HQ⟩
    clear GG HP HQ
    rintro mz az wv ⟨i, rp, sc, z, us2, rfl, rfl, hi, hz, GG, HP, HQ⟩
    have hzl : z.length = W.length - i := by have := congrArg List.length hz; simpa using this
    refine wp_seq ?_
    refine wp_region_lit ?_
    obtain ⟨p4, hp4⟩ : ∃ p, decide (((i : Nat) : Int) < ((W.length : Nat) : Int)) = p := ⟨_, rfl⟩
    refine s_val 60 rfl rfl (.bool p4) (run_lssT 3 _ _ _ rfl ((i : Nat) : Int) ((W.length : Nat) : Int) rfl rfl p4 hp4 _) ?_
    refine nr ?_; intro U h; simp only [z0, z1] at h; subst h
    cases p4
    · have hin : i = W.length := by have := of_decide_eq_false hp4; omega
      refine wpList_nil ?_
      refine then_n ?_
      refine wp_seq ?_
      refine wp_cond_false rfl ?_
      refine wp_exit ?_
      refine then_x ?_
      refine then_x ?_
      refine blk_x ?_
      refine then_n ?_
      refine wp_seq ?_
      refine wp_region_opq ?_
      intro OPS hY
      have y1 := hY 1 79 rfl
      clear hY
      refine s_callv 78 rfl rfl _ 18 Try.call18 rfl rfl _ rfl [] rfl (fixed_true _) ?_
      intro w2 G
      replace HP := HP.gro G
      replace HQ := HQ.gro G
      replace GG := GG.trans G
      clear G
      refine nr ?_; intro U h; simp only [z0, z1] at h; subst h
      refine s_val 79 rfl rfl (.bool true) (rfl) ?_
      refine nr ?_; intro U h; simp only [z0, z1] at h; subst h
      refine s_gvalY 80 rfl rfl y1 rfl (.pointer (some ⟨p, 0, none⟩)) (rfl) ?_
      refine nr ?_; intro U h; simp only [z0, z1] at h; subst h
      refine s_gcallvY 81 rfl rfl y1 rfl _ 17 Try.call17 rfl rfl _ rfl [.pointer (some ⟨p, 0, none⟩)] rfl (len_any _ p w.heap.size rp sc z HP) ?_
      intro w3 G
      replace HP := HP.gro G
      replace HQ := HQ.gro G
      replace GG := GG.trans G
      clear G
      refine nr ?_; intro U h; simp only [z0, z1] at h; subst h
      refine s_gvalY 82 rfl rfl y1 rfl (.bool true) (run_eq_k 3 .i64 _ _ _ rfl Try.underlying3 ((z.length : Nat) : Int) 0 rfl rfl true (decide_eq_true (by omega)) _) ?_
      refine nr ?_; intro U h; simp only [z0, z1] at h; subst h
      refine s_val 83 rfl rfl (.bool true) (rfl) ?_
      refine nr ?_; intro U h; simp only [z0, z1] at h; subst h
      refine s_val 4 rfl rfl (.bool true) (rfl) ?_
      refine nr ?_; intro U h; simp only [z0, z1] at h; subst h
      refine wpList_nil ?_
      refine then_n ?_
      refine wp_ret ?_
      refine bodyPost_ret (results_tmp Try.results7 _ _ _) rfl ?_
      exact ⟨rfl, GG⟩
    have hin : i < W.length := by have := of_decide_eq_true hp4; omega
    obtain ⟨v0, hv0⟩ : ∃ x, z[0]? = some x := ⟨_, List.getElem?_eq_getElem (by omega)⟩
    obtain ⟨v1, hv1⟩ : ∃ x, W[i]? = some x := ⟨_, List.getElem?_eq_getElem hin⟩
    have hvm := List.mem_of_getElem? hv1
    have hvm0 := List.mem_of_getElem? hv0
    have hvl : v0.l = v1.l := by have h1 := map_at hz hv0; rw [List.getElem?_drop, Nat.add_zero, List.getElem?_map, hv1] at h1; simpa using h1.symm
    obtain ⟨ad5, hao5, hcl5⟩ := HQ.at hv1
    refine wpList_nil ?_
    refine then_n ?_
    refine wp_seq ?_
    refine wp_cond_true rfl ?_
    refine wp_skip ?_
    refine then_n ?_
    refine wp_seq ?_
    refine wp_block ?_
    refine wp_seq ?_
    refine wp_region_lit ?_
    refine s_val 61 rfl rfl (.pointer (some (ad5.add i))) (run_idx23 _ _ rfl ad5 W.length cq i (by exact congrArg (fun a => Value.slice a W.length cq) hao5) rfl hin _) ?_
    refine nr ?_; intro U h; simp only [z0, z1] at h; subst h
    refine s_val 62 rfl rfl (.slice v1.ao v1.l.length v1.cap) (run_ld24 _ rfl _ rfl _ _ hcl5) ?_
    refine nr ?_; intro U h; simp only [z0, z1] at h; subst h
    refine s_val 11 rfl rfl (.slice v1.ao v1.l.length v1.cap) (rfl) ?_
    refine nr ?_; intro U h; simp only [z0, z1] at h; subst h
    refine wpList_nil ?_
    refine then_n ?_
    refine wp_seq ?_
    refine wp_region_lit ?_
    refine s_val 64 rfl rfl (.pointer (some ⟨p, 0, none⟩)) (rfl) ?_
    refine nr ?_; intro U h; simp only [z0, z1] at h; subst h
    refine s_callx 65 rfl rfl _ 10 Try.call10 rfl rfl _ rfl [.pointer (some ⟨p, 0, none⟩), .int .i64 0] rfl (take_ok _ p w.heap.size rp sc z HP 0 0 (uN0 _) v0 hv0) (fun _ _ ⟨_, _, _, he, _⟩ => ⟨_, he⟩) ?_
    rintro v w2 ⟨gt, a6, c6, he, G, bgt, kgt, HP2, hkp⟩
    cases he
    have hb0 := (HP.fr v0 hvm0).nc.lt256
    replace HQ := HQ.take HP G
    replace GG := G.gro GG (by simpa using bp)
    clear G HP hkp hcl5
    have HP := HP2
    clear HP2
    refine nr ?_; intro U h; simp only [z0, z1] at h; subst h
    refine s_val 63 rfl rfl (.tuple #[.slice (some ⟨gt, 0, none⟩) v0.l.length v0.l.length, .bool true]) (rfl) ?_
    refine nr ?_; intro U h; simp only [z0, z1] at h; subst h
    refine s_val 66 rfl rfl (.slice (some ⟨gt, 0, none⟩) v0.l.length v0.l.length) (rfl) ?_
    refine nr ?_; intro U h; simp only [z0, z1] at h; subst h
    refine s_val 67 rfl rfl (.bool true) (rfl) ?_
    refine nr ?_; intro U h; simp only [z0, z1] at h; subst h
    refine s_val 12 rfl rfl (.slice (some ⟨gt, 0, none⟩) v0.l.length v0.l.length) (rfl) ?_
    refine nr ?_; intro U h; simp only [z0, z1] at h; subst h
    refine s_val 13 rfl rfl (.bool true) (rfl) ?_
    refine nr ?_; intro U h; simp only [z0, z1] at h; subst h
    refine wpList_nil ?_
    refine then_n ?_
    refine wp_seq ?_
    refine wp_region_opq ?_
    intro OPS hY
    have y2 := hY 2 70 rfl
    clear hY
    refine s_val 68 rfl rfl (.bool true) (rfl) ?_
    refine nr ?_; intro U h; simp only [z0, z1] at h; subst h
    refine s_val 69 rfl rfl (.bool false) (run_nt _ _ rfl true rfl) ?_
    refine nr ?_; intro U h; simp only [z0, z1] at h; subst h
    refine s_val 70 rfl rfl (.bool false) (rfl) ?_
    refine nr ?_; intro U h; simp only [z0, z1] at h; subst h
    refine s_gvalY 71 rfl rfl y2 rfl (.slice (some ⟨gt, 0, none⟩) v0.l.length v0.l.length) (rfl) ?_
    refine nr ?_; intro U h; simp only [z0, z1] at h; subst h
    refine s_gvalY 72 rfl rfl y2 rfl (.string (bas v0.l)) (run_text_op bT 9 Try.underlying9 _ rfl rfl (nc_all kgt hb0)) ?_
    refine nr ?_; intro U h; simp only [z0, z1] at h; subst h
    refine s_gvalY 73 rfl rfl y2 rfl (.slice v1.ao v1.l.length v1.cap) (rfl) ?_
    refine nr ?_; intro U h; simp only [z0, z1] at h; subst h
    refine s_gvalY 74 rfl rfl y2 rfl (.string (bas v0.l)) ((run_text_op bT 9 Try.underlying9 _ rfl rfl (HQ.fr v1 hvm).nc).trans (by rw [hvl])) ?_
    refine nr ?_; intro U h; simp only [z0, z1] at h; subst h
    refine s_gvalY 75 rfl rfl y2 rfl (.bool false) (run_nes_op _ _ _ rfl _ _ rfl rfl false (decide_eq_true rfl) _) ?_
    refine nr ?_; intro U h; simp only [z0, z1] at h; subst h
    refine s_val 76 rfl rfl (.bool false) (rfl) ?_
    refine nr ?_; intro U h; simp only [z0, z1] at h; subst h
    refine wpList_nil ?_
    refine then_n ?_
    refine wp_cond_false rfl ?_
    refine wp_skip ?_
    refine blk_n ?_
    refine then_n ?_
    refine wp_region_lit ?_
    refine s_val 77 rfl rfl (.int .i64 ((i + 1 : Nat) : Int)) (run_add64 _ _ _ rfl ((i : Nat) : Int) 1 _ rfl rfl (by omega) (by omega) (by omega) _) ?_
    refine nr ?_; intro U h; simp only [z0, z1] at h; subst h
    refine s_val 59 rfl rfl (.int .i64 ((i + 1 : Nat) : Int)) (rfl) ?_
    refine nr ?_; intro U h; simp only [z0, z1] at h; subst h
    refine wpList_nil ?_
    refine then_n ?_
    exact ⟨_, (by omega : W.length - (i + 1) < W.length - i), i + 1, a6, c6, z.eraseIdx 0, (fun kz => ([us2 0, .slice v1.ao v1.l.length v1.cap, .slice (some ⟨gt, 0, none⟩) v0.l.length v0.l.length, .bool true, .bool true, .pointer (some (ad5.add i)), .slice v1.ao v1.l.length v1.cap, .tuple #[.slice (some ⟨gt, 0, none⟩) v0.l.length v0.l.length, .bool true], .pointer (some ⟨p, 0, none⟩), .tuple #[.slice (some ⟨gt, 0, none⟩) v0.l.length v0.l.length, .bool true], .slice (some ⟨gt, 0, none⟩) v0.l.length v0.l.length, .bool true, .bool true, .bool false, .bool false, .slice (some ⟨gt, 0, none⟩) v0.l.length v0.l.length, .string (bas v0.l), .slice v1.ao v1.l.length v1.cap, .string (bas v0.l), .bool false, .bool false, .int .i64 ((i + 1 : Nat) : Int)] : List Value).getD kz undef), rfl, rfl, hin, (by rw [List.eraseIdx_zero, List.map_tail, hz, List.tail_drop]), GG, HP, HQ⟩
  have h0 : 0 < qw.length := by have := of_decide_eq_true hp3; omega
  obtain ⟨k, hk⟩ : ∃ k, uN tw % qw.length = k := ⟨_, rfl⟩
  have hkl : k < qw.length := by rw [← hk]; exact Nat.mod_lt _ h0
  obtain ⟨x, hx⟩ : ∃ x, q[k]? = some x := ⟨_, List.getElem?_eq_getElem (by omega)⟩
  obtain ⟨xw, hxw⟩ : ∃ x, qw[k]? = some x := ⟨_, List.getElem?_eq_getElem hkl⟩
  have hxq := List.mem_of_getElem? hxw
  have hxl : xw.l = x.l := by have h1 := map_at hqw hxw; rw [List.getElem?_map, hx] at h1; simpa using h1.symm
  refine wpList_nil ?_
  refine then_n ?_
  refine wp_cond_true rfl ?_
  refine wp_seq ?_
  refine wp_region_lit ?_
  refine s_val 39 rfl rfl (.int .i64 tw) (rfl) ?_
  refine nr ?_; intro U h; simp only [z0, z1] at h; subst h
  refine s_val 40 rfl rfl (.int .u64 ((uN tw : Nat) : Int)) (conv345 _ rfl tw rfl _) ?_
  refine nr ?_; intro U h; simp only [z0, z1] at h; subst h
  refine s_val 41 rfl rfl (.slice aq qw.length cq) (rfl) ?_
  refine nr ?_; intro U h; simp only [z0, z1] at h; subst h
  refine s_val 42 rfl rfl (.int .i64 ((qw.length : Nat) : Int)) (run_len Try.underlying24 _ rfl _ _ _ rfl _) ?_
  refine nr ?_; intro U h; simp only [z0, z1] at h; subst h
  refine s_val 43 rfl rfl (.int .u64 ((qw.length : Nat) : Int)) (conv345n _ rfl qw.length (by omega) rfl _) ?_
  refine nr ?_; intro U h; simp only [z0, z1] at h; subst h
  refine s_val 44 rfl rfl (.int .u64 ((k : Nat) : Int)) ((run_remN 42 42 _ _ rfl (uN tw) qw.length rfl rfl (by omega) _).trans (by rw [hk])) ?_
  refine nr ?_; intro U h; simp only [z0, z1] at h; subst h
  refine s_val 45 rfl rfl (.int .i64 ((k : Nat) : Int)) (conv453 _ rfl k (by omega) rfl _) ?_
  refine nr ?_; intro U h; simp only [z0, z1] at h; subst h
  refine s_val 9 rfl rfl (.int .i64 ((k : Nat) : Int)) (rfl) ?_
  refine nr ?_; intro U h; simp only [z0, z1] at h; subst h
  refine wpList_nil ?_
  refine then_n ?_
  refine wp_seq ?_
  refine wp_seq ?_
  refine wp_region_lit ?_
  refine s_val 46 rfl rfl (.pointer (some ⟨p, 0, none⟩)) (rfl) ?_
  refine nr ?_; intro U h; simp only [z0, z1] at h; subst h
  refine s_val 47 rfl rfl (.int .i64 ((k : Nat) : Int)) (rfl) ?_
  refine nr ?_; intro U h; simp only [z0, z1] at h; subst h
  have hdis0 := hdis
  refine s_callx 48 rfl rfl _ 12 Try.call12 rfl rfl _ rfl [.pointer (some ⟨p, 0, none⟩), .int .i64 ((k : Nat) : Int)] rfl (twice_ok _ p w.heap.size ro rc q HP (k : Int) k (by rw [uN_nat k (by omega)]; exact Nat.mod_eq_of_lt (by omega)) x hx (by omega)) (fun _ _ ⟨_, _, _, he, _⟩ => ⟨_, he⟩) ?_
  rintro v w2 ⟨a2, c2, y, he, hy, G, HP2, HY, hkp⟩
  cases he
  replace hdis := dis_put HQ.row hdis hkp (Nat.le_refl _)
  replace HQ := HQ.put HP G hdis0
  replace GG := G.gro GG HP.sb
  clear G HP HY hkp hdis0
  have HP := HP2
  clear HP2
  refine nr ?_; intro U h; simp only [z0, z1] at h; subst h
  refine s_val 49 rfl rfl (.bool false) (run_nt _ _ rfl true rfl) ?_
  refine nr ?_; intro U h; simp only [z0, z1] at h; subst h
  refine wpList_nil ?_
  refine then_n ?_
  refine wp_cond_false rfl ?_
  refine wp_skip ?_
  refine then_n ?_
  refine wp_region_lit ?_
  refine s_val 50 rfl rfl (.slice aq qw.length cq) (rfl) ?_
  refine nr ?_; intro U h; simp only [z0, z1] at h; subst h
  refine s_val 51 rfl rfl (.slice aq qw.length cq) (rfl) ?_
  refine nr ?_; intro U h; simp only [z0, z1] at h; subst h
  refine s_val 52 rfl rfl (.int .i64 ((k : Nat) : Int)) (rfl) ?_
  refine nr ?_; intro U h; simp only [z0, z1] at h; subst h
  obtain ⟨ad4, hao4, hcl⟩ := HQ.at hxw
  refine s_val 53 rfl rfl (.pointer (some (ad4.add k))) (run_idx23 _ _ rfl ad4 qw.length cq k (by exact congrArg (fun a => Value.slice a qw.length cq) hao4) rfl hkl _) ?_
  refine nr ?_; intro U h; simp only [z0, z1] at h; subst h
  refine s_val 54 rfl rfl (.slice xw.ao xw.l.length xw.cap) (run_ld24 _ rfl _ rfl _ _ hcl) ?_
  refine nr ?_; intro U h; simp only [z0, z1] at h; subst h
  refine s_bsl 55 rfl rfl 24 1 _ rfl [(0, .slice xw.ao xw.l.length xw.cap)] rfl #[.slice xw.ao xw.l.length xw.cap] 30 (by kernel_rfl) ?_
  intro w3 gB G eB kgB
  clear eB
  replace HP := HP.gro G
  replace HQ := HQ.gro G
  replace GG := GG.trans G
  clear G
  refine nr ?_; intro U h; simp only [z0, z1] at h; subst h
  refine s_appY rY 56 rfl rfl _ _ rfl rfl HQ.row rfl (xc_one kgB rfl) (by omega) (by decide) GG.size ?_
  intro aq3 cq3 w4 HX GX hkq
  have HQ2 := LY.app (x := xw) HQ HX GX (HQ.fr xw hxq)
  have hdis0 := hdis
  replace hdis := dis_app HP.row hdis hkq (Nat.le_refl _)
  replace HP := HP.beside HQ GX hdis0
  replace GG := GX.gro GG HQ.row.base
  clear HX GX HQ kgB hdis0 hkq
  have HQ := HQ2
  clear HQ2
  refine nr ?_; intro U h; simp only [z0, z1] at h; subst h
  refine s_val 6 rfl rfl (.slice aq3 (qw.length + 1) cq3) (rfl) ?_
  refine nr ?_; intro U h; simp only [z0, z1] at h; subst h
  refine wpList_nil ?_
  refine then_n ?_
  refine wp_seq ?_
  refine wp_seq ?_
  refine wp_region_lit ?_
  refine s_val 57 rfl rfl (.slice aq3 (qw.length + 1) cq3) (rfl) ?_
  refine nr ?_; intro U h; simp only [z0, z1] at h; subst h
  refine s_val 58 rfl rfl (.int .i64 ((qw.length + 1 : Nat) : Int)) (run_len Try.underlying24 _ rfl _ _ _ rfl _) ?_
  refine nr ?_; intro U h; simp only [z0, z1] at h; subst h
  refine s_val 59 rfl rfl (.int .i64 0) (rfl) ?_
  refine nr ?_; intro U h; simp only [z0, z1] at h; subst h
  refine wpList_nil ?_
  refine then_n ?_
  refine wp_block ?_
  have hqw2 : (qw ++ [xw]).map (·.l) = (q ++ [y]).map (·.l) := by rw [List.map_append, List.map_append, hqw]; simp [hy, hxl]
  have hql2 : (qw ++ [xw]).length = qw.length + 1 := by simp
  clear hcl
  obtain ⟨W, hW⟩ : ∃ W, qw ++ [xw] = W := ⟨_, rfl⟩
  rw [hW] at hqw2 hql2 HQ
  clear hW
  rw [← hql2]
  refine wp_loopN (fun mz az wv => ∃ (i : Nat) (rp : Option Addr) (sc : Nat) (z : List RV) (us2 : Nat → Value), mz = W.length - i ∧ az = ⟨[.slice ao ls.length cap, .int .i64 tw, undef, undef, us2 0, .pointer (some ⟨p, 0, none⟩), .slice aq3 W.length cq3, .int .i64 ((j : Nat) : Int), .slice ao3 ((ls.getD j []).length) cap3, .int .i64 ((k : Nat) : Int), undef, us2 1, us2 2, us2 3, .agg (c26 Sl.nil), .pointer (some ⟨p, 0, none⟩), .slice ao ls.length cap, .int .i64 ((ls.length : Nat) : Int), .int .i64 ((j : Nat) : Int), .bool true, .int .i64 ((j : Nat) : Int), .pointer (some (ad.add j)), .slice ao3 ((ls.getD j []).length) cap3, .int .i64 ((j : Nat) : Int), .bool true, us1 9, us1 10, us1 11, us1 12, us1 13, us1 14, us1 15, us1 16, us1 17, us1 18, us1 19, .slice aq qw.length cq, .int .i64 ((qw.length : Nat) : Int), .bool true, .int .i64 tw, .int .u64 ((uN tw : Nat) : Int), .slice aq qw.length cq, .int .i64 ((qw.length : Nat) : Int), .int .u64 ((qw.length : Nat) : Int), .int .u64 ((k : Nat) : Int), .int .i64 ((k : Nat) : Int), .pointer (some ⟨p, 0, none⟩), .int .i64 ((k : Nat) : Int), .bool true, .bool false, .slice aq qw.length cq, .slice aq qw.length cq, .int .i64 ((k : Nat) : Int), .pointer (some (ad4.add k)), .slice xw.ao xw.l.length xw.cap, .slice (some ⟨gB, 0, none⟩) 1 1, .slice aq3 W.length cq3, .slice aq3 W.length cq3, .int .i64 ((W.length : Nat) : Int), .int .i64 ((i : Nat) : Int), us2 4, us2 5, us2 6, us2 7, us2 8, us2 9, us2 10, us2 11, us2 12, us2 13, us2 14, us2 15, us2 16, us2 17, us2 18, us2 19, us2 20, us2 21, undef, undef, undef, undef, undef, undef].toArray, []⟩ ∧ i ≤ W.length ∧ z.map (·.l) = (W.map (·.l)).drop i ∧ Gro w wv ∧ PK 26 wv p w.heap.size rp sc z ∧ LY wv w.heap.size aq3 cq3 W) ?_ _ ⟨0, _, _, (q ++ [y]), (fun kz => ([us1 0, undef, undef, undef, undef, undef, undef, undef, undef, undef, undef, undef, undef, undef, undef, undef, undef, undef, undef, undef, undef, undef] : List Value).getD kz undef), rfl, rfl, Nat.zero_le _, hqw2.symm, GG, HP, HQ⟩
  clear GG HP HQ
  rintro mz az wv ⟨i, rp, sc, z, us2, rfl, rfl, hi, hz, GG, HP, HQ⟩
  have hzl : z.length = W.length - i := by have := congrArg List.length hz; simpa using this
  refine wp_seq ?_
  refine wp_region_lit ?_
  obtain ⟨p4, hp4⟩ : ∃ p, decide (((i : Nat) : Int) < ((W.length : Nat) : Int)) = p := ⟨_, rfl⟩
  refine s_val 60 rfl rfl (.bool p4) (run_lssT 3 _ _ _ rfl ((i : Nat) : Int) ((W.length : Nat) : Int) rfl rfl p4 hp4 _) ?_
  refine nr ?_; intro U h; simp only [z0, z1] at h; subst h
  cases p4
  · have hin : i = W.length := by have := of_decide_eq_false hp4; omega
    refine wpList_nil ?_
    refine then_n ?_
    refine wp_seq ?_
    refine wp_cond_false rfl ?_
    refine wp_exit ?_
    refine then_x ?_
    refine then_x ?_
    refine blk_x ?_
    refine then_n ?_
    refine wp_seq ?_
    refine wp_region_opq ?_
    intro OPS hY
    have y1 := hY 1 79 rfl
    clear hY
    refine s_callv 78 rfl rfl _ 18 Try.call18 rfl rfl _ rfl [] rfl (fixed_true _) ?_
    intro w5 G
    replace HP := HP.gro G
    replace HQ := HQ.gro G
    replace GG := GG.trans G
    clear G
    refine nr ?_; intro U h; simp only [z0, z1] at h; subst h
    refine s_val 79 rfl rfl (.bool true) (rfl) ?_
    refine nr ?_; intro U h; simp only [z0, z1] at h; subst h
    refine s_gvalY 80 rfl rfl y1 rfl (.pointer (some ⟨p, 0, none⟩)) (rfl) ?_
    refine nr ?_; intro U h; simp only [z0, z1] at h; subst h
    refine s_gcallvY 81 rfl rfl y1 rfl _ 17 Try.call17 rfl rfl _ rfl [.pointer (some ⟨p, 0, none⟩)] rfl (len_any _ p w.heap.size rp sc z HP) ?_
    intro w6 G
    replace HP := HP.gro G
    replace HQ := HQ.gro G
    replace GG := GG.trans G
    clear G
    refine nr ?_; intro U h; simp only [z0, z1] at h; subst h
    refine s_gvalY 82 rfl rfl y1 rfl (.bool true) (run_eq_k 3 .i64 _ _ _ rfl Try.underlying3 ((z.length : Nat) : Int) 0 rfl rfl true (decide_eq_true (by omega)) _) ?_
    refine nr ?_; intro U h; simp only [z0, z1] at h; subst h
    refine s_val 83 rfl rfl (.bool true) (rfl) ?_
    refine nr ?_; intro U h; simp only [z0, z1] at h; subst h
    refine s_val 4 rfl rfl (.bool true) (rfl) ?_
    refine nr ?_; intro U h; simp only [z0, z1] at h; subst h
    refine wpList_nil ?_
    refine then_n ?_
    refine wp_ret ?_
    refine bodyPost_ret (results_tmp Try.results7 _ _ _) rfl ?_
    exact ⟨rfl, GG⟩
  have hin : i < W.length := by have := of_decide_eq_true hp4; omega
  obtain ⟨v0, hv0⟩ : ∃ x, z[0]? = some x := ⟨_, List.getElem?_eq_getElem (by omega)⟩
  obtain ⟨v1, hv1⟩ : ∃ x, W[i]? = some x := ⟨_, List.getElem?_eq_getElem hin⟩
  have hvm := List.mem_of_getElem? hv1
  have hvm0 := List.mem_of_getElem? hv0
  have hvl : v0.l = v1.l := by have h1 := map_at hz hv0; rw [List.getElem?_drop, Nat.add_zero, List.getElem?_map, hv1] at h1; simpa using h1.symm
  obtain ⟨ad5, hao5, hcl5⟩ := HQ.at hv1
  refine wpList_nil ?_
  refine then_n ?_
  refine wp_seq ?_
  refine wp_cond_true rfl ?_
  refine wp_skip ?_
  refine then_n ?_
  refine wp_seq ?_
  refine wp_block ?_
  refine wp_seq ?_
  refine wp_region_lit ?_
  refine s_val 61 rfl rfl (.pointer (some (ad5.add i))) (run_idx23 _ _ rfl ad5 W.length cq3 i (by exact congrArg (fun a => Value.slice a W.length cq3) hao5) rfl hin _) ?_
  refine nr ?_; intro U h; simp only [z0, z1] at h; subst h
  refine s_val 62 rfl rfl (.slice v1.ao v1.l.length v1.cap) (run_ld24 _ rfl _ rfl _ _ hcl5) ?_
  refine nr ?_; intro U h; simp only [z0, z1] at h; subst h
  refine s_val 11 rfl rfl (.slice v1.ao v1.l.length v1.cap) (rfl) ?_
  refine nr ?_; intro U h; simp only [z0, z1] at h; subst h
  refine wpList_nil ?_
  refine then_n ?_
  refine wp_seq ?_
  refine wp_region_lit ?_
  refine s_val 64 rfl rfl (.pointer (some ⟨p, 0, none⟩)) (rfl) ?_
  refine nr ?_; intro U h; simp only [z0, z1] at h; subst h
  refine s_callx 65 rfl rfl _ 10 Try.call10 rfl rfl _ rfl [.pointer (some ⟨p, 0, none⟩), .int .i64 0] rfl (take_ok _ p w.heap.size rp sc z HP 0 0 (uN0 _) v0 hv0) (fun _ _ ⟨_, _, _, he, _⟩ => ⟨_, he⟩) ?_
  rintro v w5 ⟨gt, a6, c6, he, G, bgt, kgt, HP2, hkp⟩
  cases he
  have hb0 := (HP.fr v0 hvm0).nc.lt256
  replace HQ := HQ.take HP G
  replace GG := G.gro GG (by simpa using bp)
  clear G HP hkp hcl5
  have HP := HP2
  clear HP2
  refine nr ?_; intro U h; simp only [z0, z1] at h; subst h
  refine s_val 63 rfl rfl (.tuple #[.slice (some ⟨gt, 0, none⟩) v0.l.length v0.l.length, .bool true]) (rfl) ?_
  refine nr ?_; intro U h; simp only [z0, z1] at h; subst h
  refine s_val 66 rfl rfl (.slice (some ⟨gt, 0, none⟩) v0.l.length v0.l.length) (rfl) ?_
  refine nr ?_; intro U h; simp only [z0, z1] at h; subst h
  refine s_val 67 rfl rfl (.bool true) (rfl) ?_
  refine nr ?_; intro U h; simp only [z0, z1] at h; subst h
  refine s_val 12 rfl rfl (.slice (some ⟨gt, 0, none⟩) v0.l.length v0.l.length) (rfl) ?_
  refine nr ?_; intro U h; simp only [z0, z1] at h; subst h
  refine s_val 13 rfl rfl (.bool true) (rfl) ?_
  refine nr ?_; intro U h; simp only [z0, z1] at h; subst h
  refine wpList_nil ?_
  refine then_n ?_
  refine wp_seq ?_
  refine wp_region_opq ?_
  intro OPS hY
  have y2 := hY 2 70 rfl
  clear hY
  refine s_val 68 rfl rfl (.bool true) (rfl) ?_
  refine nr ?_; intro U h; simp only [z0, z1] at h; subst h
  refine s_val 69 rfl rfl (.bool false) (run_nt _ _ rfl true rfl) ?_
  refine nr ?_; intro U h; simp only [z0, z1] at h; subst h
  refine s_val 70 rfl rfl (.bool false) (rfl) ?_
  refine nr ?_; intro U h; simp only [z0, z1] at h; subst h
  refine s_gvalY 71 rfl rfl y2 rfl (.slice (some ⟨gt, 0, none⟩) v0.l.length v0.l.length) (rfl) ?_
  refine nr ?_; intro U h; simp only [z0, z1] at h; subst h
  refine s_gvalY 72 rfl rfl y2 rfl (.string (bas v0.l)) (run_text_op bT 9 Try.underlying9 _ rfl rfl (nc_all kgt hb0)) ?_
  refine nr ?_; intro U h; simp only [z0, z1] at h; subst h
  refine s_gvalY 73 rfl rfl y2 rfl (.slice v1.ao v1.l.length v1.cap) (rfl) ?_
  refine nr ?_; intro U h; simp only [z0, z1] at h; subst h
  refine s_gvalY 74 rfl rfl y2 rfl (.string (bas v0.l)) ((run_text_op bT 9 Try.underlying9 _ rfl rfl (HQ.fr v1 hvm).nc).trans (by rw [hvl])) ?_
  refine nr ?_; intro U h; simp only [z0, z1] at h; subst h
  refine s_gvalY 75 rfl rfl y2 rfl (.bool false) (run_nes_op _ _ _ rfl _ _ rfl rfl false (decide_eq_true rfl) _) ?_
  refine nr ?_; intro U h; simp only [z0, z1] at h; subst h
  refine s_val 76 rfl rfl (.bool false) (rfl) ?_
  refine nr ?_; intro U h; simp only [z0, z1] at h; subst h
  refine wpList_nil ?_
  refine then_n ?_
  refine wp_cond_false rfl ?_
  refine wp_skip ?_
  refine blk_n ?_
  refine then_n ?_
  refine wp_region_lit ?_
  refine s_val 77 rfl rfl (.int .i64 ((i + 1 : Nat) : Int)) (run_add64 _ _ _ rfl ((i : Nat) : Int) 1 _ rfl rfl (by omega) (by omega) (by omega) _) ?_
  refine nr ?_; intro U h; simp only [z0, z1] at h; subst h
  refine s_val 59 rfl rfl (.int .i64 ((i + 1 : Nat) : Int)) (rfl) ?_
  refine nr ?_; intro U h; simp only [z0, z1] at h; subst h
  refine wpList_nil ?_
  refine then_n ?_
  exact ⟨_, (by omega : W.length - (i + 1) < W.length - i), i + 1, a6, c6, z.eraseIdx 0, (fun kz => ([us2 0, .slice v1.ao v1.l.length v1.cap, .slice (some ⟨gt, 0, none⟩) v0.l.length v0.l.length, .bool true, .bool true, .pointer (some (ad5.add i)), .slice v1.ao v1.l.length v1.cap, .tuple #[.slice (some ⟨gt, 0, none⟩) v0.l.length v0.l.length, .bool true], .pointer (some ⟨p, 0, none⟩), .tuple #[.slice (some ⟨gt, 0, none⟩) v0.l.length v0.l.length, .bool true], .slice (some ⟨gt, 0, none⟩) v0.l.length v0.l.length, .bool true, .bool true, .bool false, .bool false, .slice (some ⟨gt, 0, none⟩) v0.l.length v0.l.length, .string (bas v0.l), .slice v1.ao v1.l.length v1.cap, .string (bas v0.l), .bool false, .bool false, .int .i64 ((i + 1 : Nat) : Int)] : List Value).getD kz undef), rfl, rfl, hin, (by rw [List.eraseIdx_zero, List.map_tail, hz, List.tail_drop]), GG, HP, HQ⟩
end Go.Proofs.Ytlonnbmkkmfmeaa
