/- A log that is opened twice (SlateTwice). -/
import Derived.Test.YtaejjmoocnpdaaaE8
namespace Go.Proofs.Ytaejjmoocnpdaaa
open Go.RowKit

theorem RS.groB {w w' : World} {B B7 : Nat} {ao : Option Addr} {cap : Nat} {q : List (Nat × List Nat)} (h : RS w B ao cap q) (hlt : ∀ ad, ao = some ad → ad.block < B7) {aq : Option Addr} {cq n : Nat} {cs : List Value} (HQ : OX w 22 1 B7 aq cq n cs) (G : GroS (blk aq) w w') : RS w' B ao cap q := by
  refine ⟨h.ox.gros G fun ad ha hm => ?_, fun x hx => ⟨(h.row x hx).1, G.has (h.row x hx).2.1 (HQ.ne (h.row x hx).2.1 (by decide)), (h.row x hx).2.2⟩⟩
  have h1 := HQ.base _ hm
  have h2 := hlt ad ha
  omega
theorem RS.st {w w' : World} {B : Nat} {ao : Option Addr} {cap : Nat} {q : List (Nat × List Nat)} (h : RS w B ao cap q) {g : Nat} {x : Obj} {c : Array Value} (St : Stored w w' g x) (hg : w.heap[g]? = some (.cells c 5 (0, 0))) (hlt : g < B) : RS w' B ao cap q := by
  refine ⟨h.ox.apart St fun ad ha => ?_, fun y hy => ⟨(h.row y hy).1, St.has (by have := (h.row y hy).1; omega) (h.row y hy).2.1, (h.row y hy).2.2⟩⟩
  obtain ⟨cur, hc⟩ := h.ox.blk22 ha
  exact ne_type hc hg (by decide)
theorem LO.st {w w' : World} {B : Nat} {ao : Option Addr} {cap : Nat} {q : List RV} (h : LO w B ao cap q) {g : Nat} {x : Obj} {c : Array Value} (St : Stored w w' g x) (hg : w.heap[g]? = some (.cells c 5 (0, 0))) (hlt : g < B) : LO w' B ao cap q := by
  refine ⟨h.ox.apart St fun ad ha => ?_, fun y hy => (h.row y hy).apart St fun ad ha => ?_⟩
  · obtain ⟨cur, hc⟩ := h.ox.blk22 ha
    exact ne_type hc hg (by decide)
  · have := (h.row y hy).ge ad ha
    omega
/-- Rows of bytes that are there, whatever they say. -/
def WK (w : World) (q : List (Nat × List Nat)) : Prop := ∀ x ∈ q, ∃ l : List Nat, l.length = x.2.length ∧ w.heap[x.1]? = some (.cells (bv l) 5 (0, 0)) ∧ ∀ y ∈ l, y < 256
theorem RS.wk {w : World} {B : Nat} {ao : Option Addr} {cap : Nat} {q : List (Nat × List Nat)} (h : RS w B ao cap q) : WK w q := fun x hx => ⟨x.2, rfl, (h.row x hx).2⟩
theorem WK.gro {w w' : World} {q : List (Nat × List Nat)} (h : WK w q) (G : Gro w w') : WK w' q := fun x hx => by
  obtain ⟨l, h1, h2, h3⟩ := h x hx
  exact ⟨l, h1, G.has h2, h3⟩
theorem WK.st {w w' : World} {q : List (Nat × List Nat)} (h : WK w q) {g : Nat} {l l2 : List Nat} (hg : w.heap[g]? = some (.cells (bv l) 5 (0, 0))) (St : Stored w w' g (.cells (bv l2) 5 (0, 0))) (hl : l2.length = l.length) (hb : ∀ y ∈ l2, y < 256) : WK w' q := fun x hx => by
  obtain ⟨l', h1, h2, h3⟩ := h x hx
  by_cases e : x.1 = g
  · refine ⟨l2, ?_, by rw [e]; exact St.new, hb⟩
    rw [e, hg] at h2
    injection h2 with h2
    injection h2 with h2
    have := congrArg Array.size h2
    rw [bv_size, bv_size] at this
    omega
  · exact ⟨l', h1, St.has e h2, h3⟩
theorem inc8_lt (x : Nat) : inc8 x < 256 := Nat.mod_lt _ (by decide)
theorem set_byte {l : List Nat} (h : ∀ x ∈ l, x < 256) (i y : Nat) (hy : y < 256) : ∀ x ∈ l.set i y, x < 256 := fun x hx => by
  rcases List.mem_or_eq_of_mem_set hx with hx | hx
  · exact h x hx
  · exact hx ▸ hy
theorem take_step {q : List (Nat × List Nat)} {j : Nat} {x : Nat × List Nat} (hx : q[j]? = some x) : (q.map (·.2)).take j ++ [x.2] = (q.map (·.2)).take (j + 1) := by
  rw [List.take_add_one, List.getElem?_map, hx]
  rfl
theorem prs_short : ∀ (m : Nat) (R : List Nat), R.length ≤ m → ∀ rs, prs R = some rs → ∀ r ∈ rs, r.length ≤ 1024
  | 0, R, hm, rs, h => by
    have : R = [] := List.eq_nil_of_length_eq_zero (by omega)
    subst this
    rw [prs_nil] at h
    cases h
    intro r hr
    cases hr
  | m + 1, R, hm, rs, h => by
    by_cases h0 : R = []
    · subst h0
      rw [prs_nil] at h
      cases h
      intro r hr
      cases hr
    · by_cases hb : 1024 < recM R ∨ R.length < secN (recM R) * 64
      · rw [prs_bad h0 hb] at h
        cases h
      · rw [prs_cons h0 (by omega) (by omega)] at h
        have h2 : 1 ≤ secN (recM R) := by unfold secN; omega
        cases hp : prs (R.drop (secN (recM R) * 64)) with
        | none => rw [hp] at h; cases h
        | some rs' =>
          rw [hp] at h
          simp only [Option.map_some, Option.some.injEq] at h
          subst h
          intro r hr
          rcases List.mem_cons.1 hr with rfl | hr
          · rw [List.length_take]; omega
          · exact prs_short m _ (by rw [List.length_drop]; omega) rs' hp r hr
theorem rec_short {R : List Nat} {rs : List (List Nat)} {q : List (Nat × List Nat)} (h : prs R = some rs) (hq : rs = q.map (·.2)) : ∀ x ∈ q, x.2.length ≤ 1024 := fun x hx => prs_short _ _ (Nat.le_refl _) rs h _ (by rw [hq]; exact List.mem_map.2 ⟨x, hx, rfl⟩)
set_option maxRecDepth 100000 in
set_option maxHeartbeats 4000000 in
theorem slateTwice_any (w : World) (ao : Option Addr) (cap : Nat) (ls : List (List Nat)) (HA : LC w ao cap ls) (_hal : ls.length ≤ 140737488355000) (hlens : ∀ l ∈ ls, l.length ≤ 140737488355000) : Calls Try.prog 7 #[.slice ao ls.length cap] w fun e w' => e = .returned (.bool true) ∧ Gro w w' := by
  refine s_enter Try.func7 rfl Try.ntmps7 [.slice ao ls.length cap] [.slice ao ls.length cap, undef, undef, undef, undef, undef, undef, undef, undef, undef, undef, undef, undef, undef, undef, undef, undef, undef, undef, undef, undef, undef, undef, undef, undef, undef, undef, undef, undef, undef, undef, undef, undef, undef, undef, undef, undef, undef, undef, undef, undef, undef, undef, undef, undef, undef, undef, undef, undef, undef, undef, undef, undef, undef, undef, undef, undef, undef, undef, undef, undef, undef, undef, undef, undef, undef, undef, undef, undef, undef, undef, undef, undef, undef, undef, undef, undef, undef, undef, undef, undef, undef, undef, undef, undef, undef, undef, undef, undef, undef, undef, undef, undef, undef, undef, undef, undef, undef, undef, undef, undef, undef, undef, undef, undef, undef, undef, undef, undef, undef, undef, undef, undef] rfl ?_
  have GG := Gro.refl w
  refine wp_seq ?_
  refine wp_region_lit ?_
  refine s_val 2 rfl rfl (.bool false) (rfl) ?_
  refine nr ?_; intro U h; simp only [z0, z1] at h; subst h
  refine wpList_nil ?_
  refine then_n ?_
  refine wp_seq ?_
  refine wp_region_lit ?_
  have HC := new_any w 400
  rw [show clN 400 = 400 from rfl] at HC
  refine s_callx 21 rfl rfl _ 23 Try.call23 rfl rfl _ rfl [.int .i64 400] rfl (HC) (fun _ _ ⟨_, _, he, _⟩ => ⟨_, he⟩) ?_
  rintro v w1 ⟨p, sg, he, G, bp, bsg, HD⟩
  cases he
  clear HC
  replace GG := GG.trans G
  clear G
  refine nr ?_; intro U h; simp only [z0, z1] at h; subst h
  refine s_val 3 rfl rfl (.pointer (some ⟨p, 0, none⟩)) (rfl) ?_
  refine nr ?_; intro U h; simp only [z0, z1] at h; subst h
  refine wpList_nil ?_
  refine then_n ?_
  refine wp_seq ?_
  refine wp_region_lit ?_
  refine s_val 23 rfl rfl (.pointer (some ⟨p, 0, none⟩)) (rfl) ?_
  refine nr ?_; intro U h; simp only [z0, z1] at h; subst h
  have hlp := lt_of_heap HD.box
  have hls := lt_of_heap HD.sec
  refine s_callx 24 rfl rfl _ 12 Try.call12 rfl rfl _ rfl [.pointer (some ⟨p, 0, none⟩)] rfl (open_ok _ p sg 400 (zs (400 * 64)) (-1) 0 HD (by decide) [] ((good_new 400 (by decide)).opens (by decide))) (fun _ _ ⟨_, _, _, _, he, _⟩ => ⟨_, he⟩) ?_
  rintro v w2 ⟨lp, aoz, capz, qz, he, hq, G, blp, HK, HL⟩
  cases he
  rw [(good_new 400 (by decide)).counts] at HK
  have hn1 : lp ≠ p := by omega
  have hn2 : lp ≠ sg := by omega
  have blp := Nat.le_trans GG.size blp
  clear HL hq
  replace HD := HD.gro G
  replace GG := GG.trans G
  clear G
  refine nr ?_; intro U h; simp only [z0, z1] at h; subst h
  refine s_val 22 rfl rfl (.tuple #[.pointer (some ⟨lp, 0, none⟩), .slice aoz qz.length capz, .int .i64 0]) (rfl) ?_
  refine nr ?_; intro U h; simp only [z0, z1] at h; subst h
  refine s_val 25 rfl rfl (.pointer (some ⟨lp, 0, none⟩)) (rfl) ?_
  refine nr ?_; intro U h; simp only [z0, z1] at h; subst h
  refine s_val 26 rfl rfl (.slice aoz qz.length capz) (rfl) ?_
  refine nr ?_; intro U h; simp only [z0, z1] at h; subst h
  refine s_val 27 rfl rfl (.int .i64 0) (rfl) ?_
  refine nr ?_; intro U h; simp only [z0, z1] at h; subst h
  refine s_val 4 rfl rfl (.pointer (some ⟨lp, 0, none⟩)) (rfl) ?_
  refine nr ?_; intro U h; simp only [z0, z1] at h; subst h
  refine s_val 5 rfl rfl (.slice aoz qz.length capz) (rfl) ?_
  refine nr ?_; intro U h; simp only [z0, z1] at h; subst h
  refine s_val 6 rfl rfl (.int .i64 0) (rfl) ?_
  refine nr ?_; intro U h; simp only [z0, z1] at h; subst h
  refine wpList_nil ?_
  refine then_n ?_
  refine wp_seq ?_
  refine wp_seq ?_
  refine wp_region_opq ?_
  intro OPS hY
  have y2 := hY 2 30 rfl
  have y6 := hY 6 34 rfl
  have y10 := hY 10 38 rfl
  clear hY
  refine s_val 28 rfl rfl (.pointer (some ⟨p, 0, none⟩)) (rfl) ?_
  refine nr ?_; intro U h; simp only [z0, z1] at h; subst h
  refine s_val 29 rfl rfl (.bool false) (run_eqnp 24 _ _ _ rfl _ rfl rfl Try.underlying24 _) ?_
  refine nr ?_; intro U h; simp only [z0, z1] at h; subst h
  refine s_val 30 rfl rfl (.bool false) (rfl) ?_
  refine nr ?_; intro U h; simp only [z0, z1] at h; subst h
  refine s_gvalY 31 rfl rfl y2 rfl (.pointer (some ⟨lp, 0, none⟩)) (rfl) ?_
  refine nr ?_; intro U h; simp only [z0, z1] at h; subst h
  refine s_gvalY 32 rfl rfl y2 rfl (.bool false) (run_eqnp 29 _ _ _ rfl _ rfl rfl Try.underlying29 _) ?_
  refine nr ?_; intro U h; simp only [z0, z1] at h; subst h
  refine s_val 33 rfl rfl (.bool false) (rfl) ?_
  refine nr ?_; intro U h; simp only [z0, z1] at h; subst h
  refine s_val 34 rfl rfl (.bool false) (rfl) ?_
  refine nr ?_; intro U h; simp only [z0, z1] at h; subst h
  refine s_gvalY 35 rfl rfl y6 rfl (.int .i64 0) (rfl) ?_
  refine nr ?_; intro U h; simp only [z0, z1] at h; subst h
  refine s_gvalY 36 rfl rfl y6 rfl (.bool false) (run_neq_k 31 .i64 _ _ _ rfl Try.underlying31 _ _ rfl rfl false rfl _) ?_
  refine nr ?_; intro U h; simp only [z0, z1] at h; subst h
  refine s_val 37 rfl rfl (.bool false) (rfl) ?_
  refine nr ?_; intro U h; simp only [z0, z1] at h; subst h
  refine s_val 38 rfl rfl (.bool false) (rfl) ?_
  refine nr ?_; intro U h; simp only [z0, z1] at h; subst h
  refine s_gcallvY 39 rfl rfl y10 rfl _ 11 Try.call11 rfl rfl _ rfl [] rfl (fixed_true _) ?_
  intro w3 G
  replace HD := HD.gro G
  replace HK := HK.gro G
  replace GG := GG.trans G
  clear G
  refine nr ?_; intro U h; simp only [z0, z1] at h; subst h
  refine s_gvalY 40 rfl rfl y10 rfl (.bool false) (run_nt _ _ rfl true rfl) ?_
  refine nr ?_; intro U h; simp only [z0, z1] at h; subst h
  refine s_val 41 rfl rfl (.bool false) (rfl) ?_
  refine nr ?_; intro U h; simp only [z0, z1] at h; subst h
  refine wpList_nil ?_
  refine then_n ?_
  refine wp_cond_false rfl ?_
  refine wp_skip ?_
  refine then_n ?_
  refine wp_seq ?_
  refine wp_seq ?_
  refine wp_region_lit ?_
  refine s_val 42 rfl rfl (.slice ao ls.length cap) (rfl) ?_
  refine nr ?_; intro U h; simp only [z0, z1] at h; subst h
  refine s_val 43 rfl rfl (.int .i64 ((ls.length : Nat) : Int)) (run_len Try.underlying30 _ rfl _ _ _ rfl _) ?_
  refine nr ?_; intro U h; simp only [z0, z1] at h; subst h
  refine s_val 44 rfl rfl (.int .i64 0) (rfl) ?_
  refine nr ?_; intro U h; simp only [z0, z1] at h; subst h
  refine wpList_nil ?_
  refine then_n ?_
  refine wp_block ?_
  refine wp_loopN (fun mz az wv => ∃ (j : Nat) (dn : Int) (pw : Int) (L : List Nat) (h : Hd) (dw : Bool) (rs : List (List Nat)) (us1 : Nat → Value), mz = ls.length - j ∧ az = ⟨[.slice ao ls.length cap, undef, .bool false, .pointer (some ⟨p, 0, none⟩), .pointer (some ⟨lp, 0, none⟩), .slice aoz qz.length capz, .int .i64 0, us1 0, us1 1, undef, undef, undef, undef, undef, undef, undef, undef, undef, undef, undef, undef, .pointer (some ⟨p, 0, none⟩), .tuple #[.pointer (some ⟨lp, 0, none⟩), .slice aoz qz.length capz, .int .i64 0], .pointer (some ⟨p, 0, none⟩), .tuple #[.pointer (some ⟨lp, 0, none⟩), .slice aoz qz.length capz, .int .i64 0], .pointer (some ⟨lp, 0, none⟩), .slice aoz qz.length capz, .int .i64 0, .pointer (some ⟨p, 0, none⟩), .bool false, .bool false, .pointer (some ⟨lp, 0, none⟩), .bool false, .bool false, .bool false, .int .i64 0, .bool false, .bool false, .bool false, .bool true, .bool false, .bool false, .slice ao ls.length cap, .int .i64 ((ls.length : Nat) : Int), .int .i64 ((j : Nat) : Int), us1 2, us1 3, us1 4, us1 5, us1 6, us1 7, us1 8, us1 9, us1 10, us1 11, undef, undef, undef, undef, undef, undef, undef, undef, undef, undef, undef, undef, undef, undef, undef, undef, undef, undef, undef, undef, undef, undef, undef, undef, undef, undef, undef, undef, undef, undef, undef, undef, undef, undef, undef, undef, undef, undef, undef, undef, undef, undef, undef, undef, undef, undef, undef, undef, undef, undef, undef, undef, undef, undef, undef, undef, undef, undef].toArray, []⟩ ∧ j ≤ ls.length ∧ j ≤ 61 ∧ (0 ≤ dn ∧ dn ≤ 20 * (j : Int)) ∧ okP pw ∧ h.g ≤ j ∧ Good L 400 h rs ∧ Gro w wv ∧ DK wv p sg 400 L pw dn ∧ LK wv lp p h dw) ?_ _ ⟨0, 0, _, _, ⟨0, 0, 0⟩, _, [], (fun kz => ([undef, undef, undef, undef, undef, undef, undef, undef, undef, undef, undef, undef] : List Value).getD kz undef), rfl, rfl, Nat.zero_le _, Nat.zero_le _, ⟨Int.le_refl _, Int.le_refl _⟩, (by unfold okP; omega), Nat.le_refl _, good_new 400 (by decide), GG, HD, HK⟩
  clear GG HD HK
  rintro mz az wv ⟨j, dn, pw, L, h, dw, rs, us1, rfl, rfl, hj, hj2, hd, hP, hgj, HG, GG, HD, HK⟩
  refine wp_seq ?_
  refine wp_region_lit ?_
  obtain ⟨p1, hp1⟩ : ∃ p, decide (((j : Nat) : Int) < ((ls.length : Nat) : Int)) = p := ⟨_, rfl⟩
  refine s_val 45 rfl rfl (.bool p1) (run_lssT 3 _ _ _ rfl ((j : Nat) : Int) ((ls.length : Nat) : Int) rfl rfl p1 hp1 _) ?_
  refine nr ?_; intro U h; simp only [z0, z1] at h; subst h
  cases p1
  · refine wpList_nil ?_
    refine then_n ?_
    refine wp_seq ?_
    refine wp_cond_false rfl ?_
    refine wp_exit ?_
    refine then_x ?_
    refine then_x ?_
    refine blk_x ?_
    refine then_n ?_
    refine wp_seq ?_
    refine wp_region_lit ?_
    refine s_val 56 rfl rfl (.pointer (some ⟨p, 0, none⟩)) (rfl) ?_
    refine nr ?_; intro U h; simp only [z0, z1] at h; subst h
    obtain ⟨B5, hB5⟩ : ∃ B, wv.heap.size = B := ⟨_, rfl⟩
    refine s_callx 57 rfl rfl _ 12 Try.call12 rfl rfl _ rfl [.pointer (some ⟨p, 0, none⟩)] rfl (open_ok _ p sg 400 L pw dn HD (by decide) _ (HG.opens (by omega))) (fun _ _ ⟨_, _, _, _, he, _⟩ => ⟨_, he⟩) ?_
    rintro v w4 ⟨lp5, ao5, cap5, q5, he, hq5, G, blp5, HK5, HL5⟩
    cases he
    rw [hB5] at HL5
    have hbw5 : w.heap.size ≤ B5 := by rw [← hB5]; exact GG.size
    clear HK5 hB5
    replace HD := HD.gro G
    replace HK := HK.gro G
    replace GG := GG.trans G
    clear G
    refine nr ?_; intro U h; simp only [z0, z1] at h; subst h
    refine s_val 55 rfl rfl (.tuple #[.pointer (some ⟨lp5, 0, none⟩), .slice ao5 q5.length cap5, .int .i64 0]) (rfl) ?_
    refine nr ?_; intro U h; simp only [z0, z1] at h; subst h
    refine s_val 58 rfl rfl (.pointer (some ⟨lp5, 0, none⟩)) (rfl) ?_
    refine nr ?_; intro U h; simp only [z0, z1] at h; subst h
    refine s_val 59 rfl rfl (.slice ao5 q5.length cap5) (rfl) ?_
    refine nr ?_; intro U h; simp only [z0, z1] at h; subst h
    refine s_val 60 rfl rfl (.int .i64 0) (rfl) ?_
    refine nr ?_; intro U h; simp only [z0, z1] at h; subst h
    refine s_val 9 rfl rfl (.pointer (some ⟨lp5, 0, none⟩)) (rfl) ?_
    refine nr ?_; intro U h; simp only [z0, z1] at h; subst h
    refine s_val 10 rfl rfl (.slice ao5 q5.length cap5) (rfl) ?_
    refine nr ?_; intro U h; simp only [z0, z1] at h; subst h
    refine s_val 11 rfl rfl (.int .i64 0) (rfl) ?_
    refine nr ?_; intro U h; simp only [z0, z1] at h; subst h
    refine wpList_nil ?_
    refine then_n ?_
    refine wp_seq ?_
    refine wp_region_lit ?_
    refine s_val 62 rfl rfl (.pointer (some ⟨p, 0, none⟩)) (rfl) ?_
    refine nr ?_; intro U h; simp only [z0, z1] at h; subst h
    obtain ⟨B6, hB6⟩ : ∃ B, w4.heap.size = B := ⟨_, rfl⟩
    refine s_callx 63 rfl rfl _ 12 Try.call12 rfl rfl _ rfl [.pointer (some ⟨p, 0, none⟩)] rfl (open_ok _ p sg 400 L pw dn HD (by decide) _ (HG.opens (by omega))) (fun _ _ ⟨_, _, _, _, he, _⟩ => ⟨_, he⟩) ?_
    rintro v w5 ⟨lp6, ao6, cap6, q6, he, hq6, G, blp6, HK6, HL6⟩
    cases he
    rw [hB6] at HL6
    have hbw6 : w.heap.size ≤ B6 := by rw [← hB6]; exact GG.size
    have hx5 : ∀ x ∈ q5, w.heap.size ≤ x.1 ∧ x.1 < B6 := fun x hx => ⟨Nat.le_trans hbw5 (HL5.row x hx).1, by rw [← hB6]; exact lt_of_heap (HL5.row x hx).2.1⟩
    clear HK6 hB6
    replace HD := HD.gro G
    replace HK := HK.gro G
    replace HL5 := HL5.gro G
    replace GG := GG.trans G
    clear G
    refine nr ?_; intro U h; simp only [z0, z1] at h; subst h
    refine s_val 61 rfl rfl (.tuple #[.pointer (some ⟨lp6, 0, none⟩), .slice ao6 q6.length cap6, .int .i64 0]) (rfl) ?_
    refine nr ?_; intro U h; simp only [z0, z1] at h; subst h
    refine s_val 64 rfl rfl (.pointer (some ⟨lp6, 0, none⟩)) (rfl) ?_
    refine nr ?_; intro U h; simp only [z0, z1] at h; subst h
    refine s_val 65 rfl rfl (.slice ao6 q6.length cap6) (rfl) ?_
    refine nr ?_; intro U h; simp only [z0, z1] at h; subst h
    refine s_val 66 rfl rfl (.int .i64 0) (rfl) ?_
    refine nr ?_; intro U h; simp only [z0, z1] at h; subst h
    refine s_val 12 rfl rfl (.pointer (some ⟨lp6, 0, none⟩)) (rfl) ?_
    refine nr ?_; intro U h; simp only [z0, z1] at h; subst h
    refine s_val 13 rfl rfl (.slice ao6 q6.length cap6) (rfl) ?_
    refine nr ?_; intro U h; simp only [z0, z1] at h; subst h
    refine s_val 14 rfl rfl (.int .i64 0) (rfl) ?_
    refine nr ?_; intro U h; simp only [z0, z1] at h; subst h
    refine wpList_nil ?_
    refine then_n ?_
    refine wp_seq ?_
    refine wp_seq ?_
    refine wp_region_opq ?_
    intro OPS hY
    have y5 := hY 5 72 rfl
    clear hY
    refine s_val 67 rfl rfl (.slice ao5 q5.length cap5) (rfl) ?_
    refine nr ?_; intro U h; simp only [z0, z1] at h; subst h
    refine s_val 68 rfl rfl (.int .i64 ((q5.length : Nat) : Int)) (run_len Try.underlying30 _ rfl _ _ _ rfl _) ?_
    refine nr ?_; intro U h; simp only [z0, z1] at h; subst h
    refine s_val 69 rfl rfl (.pointer (some ⟨lp, 0, none⟩)) (rfl) ?_
    refine nr ?_; intro U h; simp only [z0, z1] at h; subst h
    have hc5 : q5.length = h.c := by have h1 := HG.num; rw [hq5, List.length_map] at h1; exact h1
    have hc6 : q6.length = h.c := by have h1 := HG.num; rw [hq6, List.length_map] at h1; exact h1
    have hcu := HG.cnt
    have huf := HG.fit
    refine s_callv 70 rfl rfl _ 16 Try.call16 rfl rfl _ rfl [.pointer (some ⟨lp, 0, none⟩)] rfl (len_any _ lp p h dw HK (by omega)) ?_
    intro w6 G
    replace HD := HD.gro G
    replace HK := HK.gro G
    replace HL5 := HL5.gro G
    replace HL6 := HL6.gro G
    replace GG := GG.trans G
    clear G
    refine nr ?_; intro U h; simp only [z0, z1] at h; subst h
    refine s_val 71 rfl rfl (.bool false) (run_neq_k 3 .i64 _ _ _ rfl Try.underlying3 ((q5.length : Nat) : Int) ((h.c : Nat) : Int) rfl rfl false (decide_eq_true (by omega)) _) ?_
    refine nr ?_; intro U h; simp only [z0, z1] at h; subst h
    refine s_val 72 rfl rfl (.bool false) (rfl) ?_
    refine nr ?_; intro U h; simp only [z0, z1] at h; subst h
    refine s_gvalY 73 rfl rfl y5 rfl (.slice ao5 q5.length cap5) (rfl) ?_
    refine nr ?_; intro U h; simp only [z0, z1] at h; subst h
    refine s_gvalY 74 rfl rfl y5 rfl (.slice ao6 q6.length cap6) (rfl) ?_
    refine nr ?_; intro U h; simp only [z0, z1] at h; subst h
    have HC := sameAll_any _ ao5 cap5 (q5.map (·.2)) HL5.lc ao6 cap6 (q6.map (·.2)) HL6.lc (by rw [List.length_map]; omega)
    rw [decide_eq_true (hq5.symm.trans hq6), List.length_map, List.length_map] at HC
    refine s_gcallvY 75 rfl rfl y5 rfl _ 14 Try.call14 rfl rfl _ rfl [.slice ao5 q5.length cap5, .slice ao6 q6.length cap6] rfl (HC) ?_
    intro w7 G
    replace HD := HD.gro G
    replace HK := HK.gro G
    replace HL5 := HL5.gro G
    replace HL6 := HL6.gro G
    replace GG := GG.trans G
    clear G
    refine nr ?_; intro U h; simp only [z0, z1] at h; subst h
    clear HC
    refine s_gvalY 76 rfl rfl y5 rfl (.bool false) (run_nt _ _ rfl true rfl) ?_
    refine nr ?_; intro U h; simp only [z0, z1] at h; subst h
    refine s_val 77 rfl rfl (.bool false) (rfl) ?_
    refine nr ?_; intro U h; simp only [z0, z1] at h; subst h
    refine wpList_nil ?_
    refine then_n ?_
    refine wp_cond_false rfl ?_
    refine wp_skip ?_
    refine then_n ?_
    refine wp_seq ?_
    refine wp_region_lit ?_
    refine s_val 15 rfl rfl (.slice none 0 0) (rfl) ?_
    refine nr ?_; intro U h; simp only [z0, z1] at h; subst h
    refine wpList_nil ?_
    refine then_n ?_
    refine wp_seq ?_
    refine wp_seq ?_
    refine wp_region_lit ?_
    refine s_val 78 rfl rfl (.slice ao6 q6.length cap6) (rfl) ?_
    refine nr ?_; intro U h; simp only [z0, z1] at h; subst h
    refine s_val 79 rfl rfl (.int .i64 ((q6.length : Nat) : Int)) (run_len Try.underlying30 _ rfl _ _ _ rfl _) ?_
    refine nr ?_; intro U h; simp only [z0, z1] at h; subst h
    refine s_val 80 rfl rfl (.int .i64 0) (rfl) ?_
    refine nr ?_; intro U h; simp only [z0, z1] at h; subst h
    refine wpList_nil ?_
    refine then_n ?_
    refine wp_block ?_
    obtain ⟨B7, hB7⟩ : ∃ B, w7.heap.size = B := ⟨_, rfl⟩
    have hB7w : w.heap.size ≤ B7 := by rw [← hB7]; exact GG.size
    have ha5 : ∀ ad, ao5 = some ad → ad.block < B7 := fun ad ha => by rw [← hB7]; exact (HL5.ox.ge ad ha).2
    have ha6 : ∀ ad, ao6 = some ad → ad.block < B7 := fun ad ha => by rw [← hB7]; exact (HL6.ox.ge ad ha).2
    have hB67 : ∀ x ∈ q5, x.1 < B7 := fun x hx => by rw [← hB7]; exact lt_of_heap (HL5.row x hx).2.1
    have hl6 := rec_short HG.recs hq6
    have hB7s := Nat.le_of_eq hB7.symm
    have hl5 := rec_short HG.recs hq5
    refine wp_loopN (fun mz az wv => ∃ (i : Nat) (aq : Option Addr) (cq : Nat) (q : List RV) (us2 : Nat → Value), mz = q6.length - i ∧ az = ⟨[.slice ao ls.length cap, undef, .bool false, .pointer (some ⟨p, 0, none⟩), .pointer (some ⟨lp, 0, none⟩), .slice aoz qz.length capz, .int .i64 0, us1 0, us1 1, .pointer (some ⟨lp5, 0, none⟩), .slice ao5 q5.length cap5, .int .i64 0, .pointer (some ⟨lp6, 0, none⟩), .slice ao6 q6.length cap6, .int .i64 0, .slice aq q.length cq, undef, us2 0, undef, undef, undef, .pointer (some ⟨p, 0, none⟩), .tuple #[.pointer (some ⟨lp, 0, none⟩), .slice aoz qz.length capz, .int .i64 0], .pointer (some ⟨p, 0, none⟩), .tuple #[.pointer (some ⟨lp, 0, none⟩), .slice aoz qz.length capz, .int .i64 0], .pointer (some ⟨lp, 0, none⟩), .slice aoz qz.length capz, .int .i64 0, .pointer (some ⟨p, 0, none⟩), .bool false, .bool false, .pointer (some ⟨lp, 0, none⟩), .bool false, .bool false, .bool false, .int .i64 0, .bool false, .bool false, .bool false, .bool true, .bool false, .bool false, .slice ao ls.length cap, .int .i64 ((ls.length : Nat) : Int), .int .i64 ((j : Nat) : Int), .bool false, us1 3, us1 4, us1 5, us1 6, us1 7, us1 8, us1 9, us1 10, us1 11, .tuple #[.pointer (some ⟨lp5, 0, none⟩), .slice ao5 q5.length cap5, .int .i64 0], .pointer (some ⟨p, 0, none⟩), .tuple #[.pointer (some ⟨lp5, 0, none⟩), .slice ao5 q5.length cap5, .int .i64 0], .pointer (some ⟨lp5, 0, none⟩), .slice ao5 q5.length cap5, .int .i64 0, .tuple #[.pointer (some ⟨lp6, 0, none⟩), .slice ao6 q6.length cap6, .int .i64 0], .pointer (some ⟨p, 0, none⟩), .tuple #[.pointer (some ⟨lp6, 0, none⟩), .slice ao6 q6.length cap6, .int .i64 0], .pointer (some ⟨lp6, 0, none⟩), .slice ao6 q6.length cap6, .int .i64 0, .slice ao5 q5.length cap5, .int .i64 ((q5.length : Nat) : Int), .pointer (some ⟨lp, 0, none⟩), .int .i64 ((h.c : Nat) : Int), .bool false, .bool false, .slice ao5 q5.length cap5, .slice ao6 q6.length cap6, .bool true, .bool false, .bool false, .slice ao6 q6.length cap6, .int .i64 ((q6.length : Nat) : Int), .int .i64 ((i : Nat) : Int), us2 1, us2 2, us2 3, us2 4, us2 5, us2 6, us2 7, us2 8, us2 9, us2 10, undef, undef, undef, undef, undef, undef, undef, undef, undef, undef, undef, undef, undef, undef, undef, undef, undef, undef, undef, undef, undef, undef].toArray, []⟩ ∧ i ≤ q6.length ∧ q.length = i ∧ q.map (·.l) = (q6.map (·.2)).take i ∧ Gro w wv ∧ RS wv B5 ao5 cap5 q5 ∧ RS wv B6 ao6 cap6 q6 ∧ LO wv B7 aq cq q ∧ B7 ≤ wv.heap.size) ?_ _ ⟨0, none, 0, [], (fun kz => ([undef, undef, undef, undef, undef, undef, undef, undef, undef, undef, undef] : List Value).getD kz undef), rfl, rfl, Nat.zero_le _, rfl, rfl, GG, HL5, HL6, LO.nil _ _, hB7s⟩
    clear GG HL5 HL6
    rintro mz az wv ⟨i, aq, cq, q, us2, rfl, rfl, hi, hqi, hqw, GG, HL5, HL6, HQ, hB7s⟩
    refine wp_seq ?_
    refine wp_region_lit ?_
    obtain ⟨p2, hp2⟩ : ∃ p, decide (((i : Nat) : Int) < ((q6.length : Nat) : Int)) = p := ⟨_, rfl⟩
    refine s_val 81 rfl rfl (.bool p2) (run_lssT 3 _ _ _ rfl ((i : Nat) : Int) ((q6.length : Nat) : Int) rfl rfl p2 hp2 _) ?_
    refine nr ?_; intro U h; simp only [z0, z1] at h; subst h
    cases p2
    · have hin : i = q6.length := by have := of_decide_eq_false hp2; omega
      refine wpList_nil ?_
      refine then_n ?_
      refine wp_seq ?_
      refine wp_cond_false rfl ?_
      refine wp_exit ?_
      refine then_x ?_
      refine then_x ?_
      refine blk_x ?_
      refine then_n ?_
      refine wp_seq ?_
      refine wp_seq ?_
      refine wp_region_lit ?_
      refine s_val 91 rfl rfl (.slice ao5 q5.length cap5) (rfl) ?_
      refine nr ?_; intro U h; simp only [z0, z1] at h; subst h
      refine s_val 92 rfl rfl (.int .i64 ((q5.length : Nat) : Int)) (run_len Try.underlying30 _ rfl _ _ _ rfl _) ?_
      refine nr ?_; intro U h; simp only [z0, z1] at h; subst h
      refine s_val 93 rfl rfl (.int .i64 0) (rfl) ?_
      refine nr ?_; intro U h; simp only [z0, z1] at h; subst h
      refine wpList_nil ?_
      refine then_n ?_
      refine wp_block ?_
      have hqw : q.map (·.l) = q6.map (·.2) := by rw [hqw, List.take_of_length_le (by rw [List.length_map]; omega)]
      have OA := HL5.ox
      have WA := HL5.wk
      refine wp_loopN (fun mz az wv => ∃ (m : Nat) (us3 : Nat → Value), mz = q5.length - m ∧ az = ⟨[.slice ao ls.length cap, undef, .bool false, .pointer (some ⟨p, 0, none⟩), .pointer (some ⟨lp, 0, none⟩), .slice aoz qz.length capz, .int .i64 0, us1 0, us1 1, .pointer (some ⟨lp5, 0, none⟩), .slice ao5 q5.length cap5, .int .i64 0, .pointer (some ⟨lp6, 0, none⟩), .slice ao6 q6.length cap6, .int .i64 0, .slice aq q.length cq, undef, us2 0, undef, us3 0, us3 1, .pointer (some ⟨p, 0, none⟩), .tuple #[.pointer (some ⟨lp, 0, none⟩), .slice aoz qz.length capz, .int .i64 0], .pointer (some ⟨p, 0, none⟩), .tuple #[.pointer (some ⟨lp, 0, none⟩), .slice aoz qz.length capz, .int .i64 0], .pointer (some ⟨lp, 0, none⟩), .slice aoz qz.length capz, .int .i64 0, .pointer (some ⟨p, 0, none⟩), .bool false, .bool false, .pointer (some ⟨lp, 0, none⟩), .bool false, .bool false, .bool false, .int .i64 0, .bool false, .bool false, .bool false, .bool true, .bool false, .bool false, .slice ao ls.length cap, .int .i64 ((ls.length : Nat) : Int), .int .i64 ((j : Nat) : Int), .bool false, us1 3, us1 4, us1 5, us1 6, us1 7, us1 8, us1 9, us1 10, us1 11, .tuple #[.pointer (some ⟨lp5, 0, none⟩), .slice ao5 q5.length cap5, .int .i64 0], .pointer (some ⟨p, 0, none⟩), .tuple #[.pointer (some ⟨lp5, 0, none⟩), .slice ao5 q5.length cap5, .int .i64 0], .pointer (some ⟨lp5, 0, none⟩), .slice ao5 q5.length cap5, .int .i64 0, .tuple #[.pointer (some ⟨lp6, 0, none⟩), .slice ao6 q6.length cap6, .int .i64 0], .pointer (some ⟨p, 0, none⟩), .tuple #[.pointer (some ⟨lp6, 0, none⟩), .slice ao6 q6.length cap6, .int .i64 0], .pointer (some ⟨lp6, 0, none⟩), .slice ao6 q6.length cap6, .int .i64 0, .slice ao5 q5.length cap5, .int .i64 ((q5.length : Nat) : Int), .pointer (some ⟨lp, 0, none⟩), .int .i64 ((h.c : Nat) : Int), .bool false, .bool false, .slice ao5 q5.length cap5, .slice ao6 q6.length cap6, .bool true, .bool false, .bool false, .slice ao6 q6.length cap6, .int .i64 ((q6.length : Nat) : Int), .int .i64 ((i : Nat) : Int), .bool false, us2 2, us2 3, us2 4, us2 5, us2 6, us2 7, us2 8, us2 9, us2 10, .slice ao5 q5.length cap5, .int .i64 ((q5.length : Nat) : Int), .int .i64 ((m : Nat) : Int), us3 2, us3 3, us3 4, us3 5, us3 6, us3 7, us3 8, us3 9, us3 10, us3 11, us3 12, us3 13, us3 14, us3 15, us3 16, us3 17, undef, undef, undef].toArray, []⟩ ∧ m ≤ q5.length ∧ Gro w wv ∧ OX wv 22 1 B5 ao5 cap5 q5.length (q5.map rv) ∧ WK wv q5 ∧ RS wv B6 ao6 cap6 q6 ∧ LO wv B7 aq cq q) ?_ _ ⟨0, (fun kz => ([undef, undef, undef, undef, undef, undef, undef, undef, undef, undef, undef, undef, undef, undef, undef, undef, undef, undef] : List Value).getD kz undef), rfl, rfl, Nat.zero_le _, GG, OA, WA, HL6, HQ⟩
      clear GG OA WA HL6 HQ
      rintro mz az wv ⟨m, us3, rfl, rfl, hm, GG, OA, WA, HL6, HQ⟩
      refine wp_seq ?_
      refine wp_region_lit ?_
      obtain ⟨p3, hp3⟩ : ∃ p, decide (((m : Nat) : Int) < ((q5.length : Nat) : Int)) = p := ⟨_, rfl⟩
      refine s_val 94 rfl rfl (.bool p3) (run_lssT 3 _ _ _ rfl ((m : Nat) : Int) ((q5.length : Nat) : Int) rfl rfl p3 hp3 _) ?_
      refine nr ?_; intro U h; simp only [z0, z1] at h; subst h
      cases p3
      · refine wpList_nil ?_
        refine then_n ?_
        refine wp_seq ?_
        refine wp_cond_false rfl ?_
        refine wp_exit ?_
        refine then_x ?_
        refine then_x ?_
        refine blk_x ?_
        refine then_n ?_
        refine wp_seq ?_
        refine wp_region_lit ?_
        refine s_val 110 rfl rfl (.slice ao6 q6.length cap6) (rfl) ?_
        refine nr ?_; intro U h; simp only [z0, z1] at h; subst h
        refine s_val 111 rfl rfl (.slice aq q.length cq) (rfl) ?_
        refine nr ?_; intro U h; simp only [z0, z1] at h; subst h
        have HC := sameAll_any _ ao6 cap6 (q6.map (·.2)) HL6.lc aq cq (q.map (·.l)) HQ.lc (by rw [List.length_map]; omega)
        rw [decide_eq_true hqw.symm, List.length_map, List.length_map] at HC
        refine s_callv 112 rfl rfl _ 14 Try.call14 rfl rfl _ rfl [.slice ao6 q6.length cap6, .slice aq q.length cq] rfl (HC) ?_
        intro w8 G
        replace OA := OA.gro G
        replace WA := WA.gro G
        replace HL6 := HL6.gro G
        replace HQ := HQ.gro G
        replace GG := GG.trans G
        clear G
        refine nr ?_; intro U h; simp only [z0, z1] at h; subst h
        clear HC
        refine s_val 2 rfl rfl (.bool true) (rfl) ?_
        refine nr ?_; intro U h; simp only [z0, z1] at h; subst h
        refine wpList_nil ?_
        refine then_n ?_
        refine wp_ret ?_
        refine bodyPost_ret (results_tmp Try.results7 _ _ _) rfl ?_
        exact ⟨rfl, GG⟩
      have hmn : m < q5.length := by have := of_decide_eq_true hp3; omega
      refine wpList_nil ?_
      refine then_n ?_
      refine wp_seq ?_
      refine wp_cond_true rfl ?_
      refine wp_skip ?_
      refine then_n ?_
      refine wp_seq ?_
      refine wp_block ?_
      refine wp_seq ?_
      refine wp_region_lit ?_
      obtain ⟨y, hy⟩ : ∃ y, q5[m]? = some y := ⟨_, List.getElem?_eq_getElem hmn⟩
      have hym := List.mem_of_getElem? hy
      obtain ⟨cd, hco⟩ := OA.xc.some (by omega)
      have hy24 := hl5 y hym
      refine s_val 95 rfl rfl (.pointer (some (cd.add m))) (run_idx23 _ _ rfl cd q5.length cap5 m (by exact congrArg (fun a => Value.slice a q5.length cap5) hco) rfl hmn _) ?_
      refine nr ?_; intro U h; simp only [z0, z1] at h; subst h
      refine s_val 96 rfl rfl (.slice (some ⟨y.1, 0, none⟩) y.2.length y.2.length) (run_ld24 _ rfl _ rfl _ _ (OA.xc.cell cd hco m (rv y) (by rw [List.getElem?_map, hy]; rfl))) ?_
      refine nr ?_; intro U h; simp only [z0, z1] at h; subst h
      refine s_val 19 rfl rfl (.slice (some ⟨y.1, 0, none⟩) y.2.length y.2.length) (rfl) ?_
      refine nr ?_; intro U h; simp only [z0, z1] at h; subst h
      refine wpList_nil ?_
      refine then_n ?_
      refine wp_seq ?_
      refine wp_region_lit ?_
      refine s_val 97 rfl rfl (.slice (some ⟨y.1, 0, none⟩) y.2.length y.2.length) (rfl) ?_
      refine nr ?_; intro U h; simp only [z0, z1] at h; subst h
      refine s_val 98 rfl rfl (.int .i64 ((y.2.length : Nat) : Int)) (run_len Try.underlying22 _ rfl _ _ _ rfl _) ?_
      refine nr ?_; intro U h; simp only [z0, z1] at h; subst h
      refine s_val 99 rfl rfl (.int .i64 0) (rfl) ?_
      refine nr ?_; intro U h; simp only [z0, z1] at h; subst h
      refine wpList_nil ?_
      refine then_n ?_
      refine wp_block ?_
      refine wp_loopN (fun mz az wv => ∃ (t : Nat) (us4 : Nat → Value), mz = y.2.length - t ∧ az = ⟨[.slice ao ls.length cap, undef, .bool false, .pointer (some ⟨p, 0, none⟩), .pointer (some ⟨lp, 0, none⟩), .slice aoz qz.length capz, .int .i64 0, us1 0, us1 1, .pointer (some ⟨lp5, 0, none⟩), .slice ao5 q5.length cap5, .int .i64 0, .pointer (some ⟨lp6, 0, none⟩), .slice ao6 q6.length cap6, .int .i64 0, .slice aq q.length cq, undef, us2 0, undef, .slice (some ⟨y.1, 0, none⟩) y.2.length y.2.length, us4 0, .pointer (some ⟨p, 0, none⟩), .tuple #[.pointer (some ⟨lp, 0, none⟩), .slice aoz qz.length capz, .int .i64 0], .pointer (some ⟨p, 0, none⟩), .tuple #[.pointer (some ⟨lp, 0, none⟩), .slice aoz qz.length capz, .int .i64 0], .pointer (some ⟨lp, 0, none⟩), .slice aoz qz.length capz, .int .i64 0, .pointer (some ⟨p, 0, none⟩), .bool false, .bool false, .pointer (some ⟨lp, 0, none⟩), .bool false, .bool false, .bool false, .int .i64 0, .bool false, .bool false, .bool false, .bool true, .bool false, .bool false, .slice ao ls.length cap, .int .i64 ((ls.length : Nat) : Int), .int .i64 ((j : Nat) : Int), .bool false, us1 3, us1 4, us1 5, us1 6, us1 7, us1 8, us1 9, us1 10, us1 11, .tuple #[.pointer (some ⟨lp5, 0, none⟩), .slice ao5 q5.length cap5, .int .i64 0], .pointer (some ⟨p, 0, none⟩), .tuple #[.pointer (some ⟨lp5, 0, none⟩), .slice ao5 q5.length cap5, .int .i64 0], .pointer (some ⟨lp5, 0, none⟩), .slice ao5 q5.length cap5, .int .i64 0, .tuple #[.pointer (some ⟨lp6, 0, none⟩), .slice ao6 q6.length cap6, .int .i64 0], .pointer (some ⟨p, 0, none⟩), .tuple #[.pointer (some ⟨lp6, 0, none⟩), .slice ao6 q6.length cap6, .int .i64 0], .pointer (some ⟨lp6, 0, none⟩), .slice ao6 q6.length cap6, .int .i64 0, .slice ao5 q5.length cap5, .int .i64 ((q5.length : Nat) : Int), .pointer (some ⟨lp, 0, none⟩), .int .i64 ((h.c : Nat) : Int), .bool false, .bool false, .slice ao5 q5.length cap5, .slice ao6 q6.length cap6, .bool true, .bool false, .bool false, .slice ao6 q6.length cap6, .int .i64 ((q6.length : Nat) : Int), .int .i64 ((i : Nat) : Int), .bool false, us2 2, us2 3, us2 4, us2 5, us2 6, us2 7, us2 8, us2 9, us2 10, .slice ao5 q5.length cap5, .int .i64 ((q5.length : Nat) : Int), .int .i64 ((m : Nat) : Int), .bool true, .pointer (some (cd.add m)), .slice (some ⟨y.1, 0, none⟩) y.2.length y.2.length, .slice (some ⟨y.1, 0, none⟩) y.2.length y.2.length, .int .i64 ((y.2.length : Nat) : Int), .int .i64 ((t : Nat) : Int), us4 1, us4 2, us4 3, us4 4, us4 5, us4 6, us4 7, us4 8, us4 9, us3 17, undef, undef, undef].toArray, []⟩ ∧ t ≤ y.2.length ∧ Gro w wv ∧ OX wv 22 1 B5 ao5 cap5 q5.length (q5.map rv) ∧ WK wv q5 ∧ RS wv B6 ao6 cap6 q6 ∧ LO wv B7 aq cq q) ?_ _ ⟨0, (fun kz => ([us3 1, us3 8, us3 9, us3 10, us3 11, us3 12, us3 13, us3 14, us3 15, us3 16] : List Value).getD kz undef), rfl, rfl, Nat.zero_le _, GG, OA, WA, HL6, HQ⟩
      clear GG OA WA HL6 HQ
      rintro mz az wv ⟨t, us4, rfl, rfl, ht, GG, OA, WA, HL6, HQ⟩
      refine wp_seq ?_
      refine wp_region_lit ?_
      obtain ⟨p4, hp4⟩ : ∃ p, decide (((t : Nat) : Int) < ((y.2.length : Nat) : Int)) = p := ⟨_, rfl⟩
      refine s_val 100 rfl rfl (.bool p4) (run_lssT 3 _ _ _ rfl ((t : Nat) : Int) ((y.2.length : Nat) : Int) rfl rfl p4 hp4 _) ?_
      refine nr ?_; intro U h; simp only [z0, z1] at h; subst h
      cases p4
      · refine wpList_nil ?_
        refine then_n ?_
        refine wp_seq ?_
        refine wp_cond_false rfl ?_
        refine wp_exit ?_
        refine then_x ?_
        refine then_x ?_
        refine blk_x ?_
        refine blk_n ?_
        refine then_n ?_
        refine wp_region_lit ?_
        refine s_val 109 rfl rfl (.int .i64 ((m + 1 : Nat) : Int)) (run_add64 _ _ _ rfl ((m : Nat) : Int) 1 _ rfl rfl (by omega) (by omega) (by omega) _) ?_
        refine nr ?_; intro U h; simp only [z0, z1] at h; subst h
        refine s_val 93 rfl rfl (.int .i64 ((m + 1 : Nat) : Int)) (rfl) ?_
        refine nr ?_; intro U h; simp only [z0, z1] at h; subst h
        refine wpList_nil ?_
        refine then_n ?_
        exact ⟨_, (by omega : q5.length - (m + 1) < q5.length - m), m + 1, (fun kz => ([.slice (some ⟨y.1, 0, none⟩) y.2.length y.2.length, us4 0, .bool true, .pointer (some (cd.add m)), .slice (some ⟨y.1, 0, none⟩) y.2.length y.2.length, .slice (some ⟨y.1, 0, none⟩) y.2.length y.2.length, .int .i64 ((y.2.length : Nat) : Int), .int .i64 ((t : Nat) : Int), .bool false, us4 2, us4 3, us4 4, us4 5, us4 6, us4 7, us4 8, us4 9, .int .i64 ((m + 1 : Nat) : Int)] : List Value).getD kz undef), rfl, rfl, hmn, GG, OA, WA, HL6, HQ⟩
      have htn : t < y.2.length := by have := of_decide_eq_true hp4; omega
      refine wpList_nil ?_
      refine then_n ?_
      refine wp_seq ?_
      refine wp_cond_true rfl ?_
      refine wp_skip ?_
      refine then_n ?_
      refine wp_seq ?_
      refine wp_block ?_
      refine wp_seq ?_
      refine wp_region_lit ?_
      refine s_val 101 rfl rfl (.int .i64 ((t : Nat) : Int)) (rfl) ?_
      refine nr ?_; intro U h; simp only [z0, z1] at h; subst h
      refine s_val 20 rfl rfl (.int .i64 ((t : Nat) : Int)) (rfl) ?_
      refine nr ?_; intro U h; simp only [z0, z1] at h; subst h
      refine wpList_nil ?_
      refine then_n ?_
      refine wp_region_lit ?_
      refine s_val 102 rfl rfl (.slice (some ⟨y.1, 0, none⟩) y.2.length y.2.length) (rfl) ?_
      refine nr ?_; intro U h; simp only [z0, z1] at h; subst h
      refine s_val 103 rfl rfl (.int .i64 ((t : Nat) : Int)) (rfl) ?_
      refine nr ?_; intro U h; simp only [z0, z1] at h; subst h
      obtain ⟨l1, hl1, kl1, hb1⟩ := WA y hym
      refine s_val 104 rfl rfl (.pointer (some ⟨y.1, t, none⟩)) (bat _ _ rfl y.1 y.2.length y.2.length t rfl rfl htn _) ?_
      refine nr ?_; intro U h; simp only [z0, z1] at h; subst h
      refine s_val 105 rfl rfl (.int .u8 ((l1.getD t 0 : Nat) : Int)) (run_ld bT _ rfl ⟨y.1, t, none⟩ rfl _ _ (bvc kl1 (by omega))) ?_
      refine nr ?_; intro U h; simp only [z0, z1] at h; subst h
      refine s_val 106 rfl rfl (.int .u8 ((inc8 (l1.getD t 0) : Nat) : Int)) (run_inc8 _ _ _ rfl (l1.getD t 0) rfl rfl _) ?_
      refine nr ?_; intro U h; simp only [z0, z1] at h; subst h
      refine s_val 107 rfl rfl (.pointer (some ⟨y.1, t, none⟩)) (bat _ _ rfl y.1 y.2.length y.2.length t rfl rfl htn _) ?_
      refine nr ?_; intro U h; simp only [z0, z1] at h; subst h
      refine s_store rfl rfl 5 _ _ rfl y.1 t rfl (.int .u8 ((inc8 (l1.getD t 0) : Nat) : Int)) rfl 5 _ kl1 #[.int .u8 ((inc8 (l1.getD t 0) : Nat) : Int)] rfl si5 (by simp only [List.size_toArray, List.length_cons, List.length_nil, bv_size]; omega) (one1 _) _ (bv_set l1 t (inc8 (l1.getD t 0)) (by omega)) ?_
      intro w8 St
      replace OA := OA.apart St (fun ad ha => by obtain ⟨cur, hc⟩ := OA.blk22 ha; exact ne_type hc kl1 (by decide))
      replace HL6 := HL6.st St kl1 (hx5 y hym).2
      replace HQ := HQ.st St kl1 (hB67 y hym)
      replace WA := WA.st kl1 St (set_len _ _ _) (set_byte hb1 _ _ (inc8_lt _))
      replace GG := GG.store St (hx5 y hym).1
      clear St kl1
      refine wpList_nil ?_
      refine blk_n ?_
      refine then_n ?_
      refine wp_region_lit ?_
      refine s_val 108 rfl rfl (.int .i64 ((t + 1 : Nat) : Int)) (run_add64 _ _ _ rfl ((t : Nat) : Int) 1 _ rfl rfl (by omega) (by omega) (by omega) _) ?_
      refine nr ?_; intro U h; simp only [z0, z1] at h; subst h
      refine s_val 99 rfl rfl (.int .i64 ((t + 1 : Nat) : Int)) (rfl) ?_
      refine nr ?_; intro U h; simp only [z0, z1] at h; subst h
      refine wpList_nil ?_
      refine then_n ?_
      exact ⟨_, (by omega : y.2.length - (t + 1) < y.2.length - t), t + 1, (fun kz => ([.int .i64 ((t : Nat) : Int), .bool true, .int .i64 ((t : Nat) : Int), .slice (some ⟨y.1, 0, none⟩) y.2.length y.2.length, .int .i64 ((t : Nat) : Int), .pointer (some ⟨y.1, t, none⟩), .int .u8 ((l1.getD t 0 : Nat) : Int), .int .u8 ((inc8 (l1.getD t 0) : Nat) : Int), .pointer (some ⟨y.1, t, none⟩), .int .i64 ((t + 1 : Nat) : Int)] : List Value).getD kz undef), rfl, rfl, htn, GG, OA, WA, HL6, HQ⟩
    have hin : i < q6.length := by have := of_decide_eq_true hp2; omega
    refine wpList_nil ?_
    refine then_n ?_
    refine wp_seq ?_
    refine wp_cond_true rfl ?_
    refine wp_skip ?_
    refine then_n ?_
    refine wp_seq ?_
    refine wp_block ?_
    refine wp_seq ?_
    refine wp_region_lit ?_
    obtain ⟨x, hx⟩ : ∃ x, q6[i]? = some x := ⟨_, List.getElem?_eq_getElem hin⟩
    have hxm := List.mem_of_getElem? hx
    obtain ⟨bd, hbo⟩ := HL6.ox.xc.some (by omega)
    have hx24 := hl6 x hxm
    refine s_val 82 rfl rfl (.pointer (some (bd.add i))) (run_idx23 _ _ rfl bd q6.length cap6 i (by exact congrArg (fun a => Value.slice a q6.length cap6) hbo) rfl hin _) ?_
    refine nr ?_; intro U h; simp only [z0, z1] at h; subst h
    refine s_val 83 rfl rfl (.slice (some ⟨x.1, 0, none⟩) x.2.length x.2.length) (run_ld24 _ rfl _ rfl _ _ (HL6.ox.xc.cell bd hbo i (rv x) (by rw [List.getElem?_map, hx]; rfl))) ?_
    refine nr ?_; intro U h; simp only [z0, z1] at h; subst h
    refine s_val 17 rfl rfl (.slice (some ⟨x.1, 0, none⟩) x.2.length x.2.length) (rfl) ?_
    refine nr ?_; intro U h; simp only [z0, z1] at h; subst h
    refine wpList_nil ?_
    refine then_n ?_
    refine wp_region_lit ?_
    refine s_val 84 rfl rfl (.slice aq q.length cq) (rfl) ?_
    refine nr ?_; intro U h; simp only [z0, z1] at h; subst h
    refine s_bsl 85 rfl rfl 22 0 _ rfl [] rfl #[] 5 (by kernel_rfl) ?_
    intro w8 gb G1 egb kgb
    refine nr ?_; intro U h; simp only [z0, z1] at h; subst h
    refine s_val 86 rfl rfl (.slice (some ⟨x.1, 0, none⟩) x.2.length x.2.length) (rfl) ?_
    refine nr ?_; intro U h; simp only [z0, z1] at h; subst h
    have hB7u : B7 ≤ gb := egb ▸ hB7s
    have hgbl := lt_of_heap kgb
    have HO1 : OB _ 5 .u8 gb (some ⟨gb, 0, none⟩) 0 [] := OB.made kgb (Nat.le_refl _) (Nat.le_refl _) (Nat.zero_le _) rfl rfl (fun x hx => by cases hx)
    refine s_app bT 87 rfl rfl _ _ rfl rfl HO1 (l' := x.2) rfl ((nc_all (HL6.row x hxm).2.1 (HL6.row x hxm).2.2).gro G1) (by simp only [List.length_nil]; omega) (by decide) (Nat.le_of_lt (lt_of_heap kgb)) ?_
    intro ao4 cap4 w9 HO2 BB
    rw [List.nil_append] at HO2
    simp only [List.nil_append]
    have hB7t := Nat.le_trans hB7u (Nat.le_trans (Nat.le_of_lt hgbl) BB.size)
    have G := below_gro G1 BB (Nat.le_of_eq egb)
    have bgb : B7 ≤ gb := egb ▸ hB7s
    have HO := HO2.mono bgb
    clear HO1 HO2 BB G1 egb kgb
    replace HL5 := HL5.gro G
    replace HL6 := HL6.gro G
    replace HQ := HQ.gro G
    replace GG := GG.trans G
    clear G
    refine nr ?_; intro U h; simp only [z0, z1] at h; subst h
    refine s_bsl 88 rfl rfl 30 1 _ rfl [(0, .slice ao4 x.2.length cap4)] rfl #[.slice ao4 x.2.length cap4] 22 (by kernel_rfl) ?_
    intro w10 gB G eB kgB
    have hgB7 : B7 ≤ gB := eB ▸ hB7t
    clear eB
    replace HL5 := HL5.gro G
    replace HL6 := HL6.gro G
    replace HQ := HQ.gro G
    replace HO := HO.gro G
    replace GG := GG.trans G
    clear G
    refine nr ?_; intro U h; simp only [z0, z1] at h; subst h
    refine s_appXG rT 89 rfl rfl _ _ rfl rfl HQ.ox rfl (xc_one kgB rfl) (by omega) (by decide) (Nat.le_of_lt (Nat.lt_of_le_of_lt hgB7 (lt_of_heap kgB))) ?_
    intro aq2 cq2 w11 HX GX
    have HQ2 := LO.app (x := ⟨ao4, cap4, x.2⟩) HQ HX GX HO
    have hB7s2 := Nat.le_trans (Nat.le_of_lt (Nat.lt_of_le_of_lt hgB7 (lt_of_heap kgB))) GX.size
    replace HL5 := HL5.groB ha5 HQ.ox GX
    replace HL6 := HL6.groB ha6 HQ.ox GX
    replace GG := GX.gro GG (fun y hy => Nat.le_trans hB7w (HQ.ox.base y hy))
    clear HX GX HQ HO kgB
    refine nr ?_; intro U h; simp only [z0, z1] at h; subst h
    refine s_val 15 rfl rfl (.slice aq2 (q.length + 1) cq2) (rfl) ?_
    refine nr ?_; intro U h; simp only [z0, z1] at h; subst h
    refine wpList_nil ?_
    refine blk_n ?_
    refine then_n ?_
    refine wp_region_lit ?_
    refine s_val 90 rfl rfl (.int .i64 ((i + 1 : Nat) : Int)) (run_add64 _ _ _ rfl ((i : Nat) : Int) 1 _ rfl rfl (by omega) (by omega) (by omega) _) ?_
    refine nr ?_; intro U h; simp only [z0, z1] at h; subst h
    refine s_val 80 rfl rfl (.int .i64 ((i + 1 : Nat) : Int)) (rfl) ?_
    refine nr ?_; intro U h; simp only [z0, z1] at h; subst h
    refine wpList_nil ?_
    refine then_n ?_
    exact ⟨_, (by omega : q6.length - (i + 1) < q6.length - i), i + 1, aq2, cq2, q ++ [⟨ao4, cap4, x.2⟩], (fun kz => ([.slice (some ⟨x.1, 0, none⟩) x.2.length x.2.length, .bool true, .pointer (some (bd.add i)), .slice (some ⟨x.1, 0, none⟩) x.2.length x.2.length, .slice aq q.length cq, .slice (some ⟨gb, 0, none⟩) (([] : List Nat).length) 0, .slice (some ⟨x.1, 0, none⟩) x.2.length x.2.length, .slice ao4 x.2.length cap4, .slice (some ⟨gB, 0, none⟩) 1 1, .slice aq2 (q.length + 1) cq2, .int .i64 ((i + 1 : Nat) : Int)] : List Value).getD kz undef), rfl, (by rw [List.length_append]; rfl), hin, (by rw [List.length_append]; simp; omega), (by rw [List.map_append, hqw]; exact take_step hx), GG, HL5, HL6, HQ2, hB7s2⟩
  have hjn : j < ls.length := by have := of_decide_eq_true hp1; omega
  obtain ⟨ad, ao3, cap3, hao, clA, ncA⟩ := HA.at hjn
  have hrl := hlens _ (getD_mem2 hjn)
  refine wpList_nil ?_
  refine then_n ?_
  refine wp_seq ?_
  refine wp_cond_true rfl ?_
  refine wp_skip ?_
  refine then_n ?_
  refine wp_seq ?_
  refine wp_block ?_
  refine wp_seq ?_
  refine wp_region_lit ?_
  refine s_val 46 rfl rfl (.int .i64 ((j : Nat) : Int)) (rfl) ?_
  refine nr ?_; intro U h; simp only [z0, z1] at h; subst h
  refine s_val 47 rfl rfl (.pointer (some (ad.add j))) (run_idx23 _ _ rfl ad ls.length cap j (by exact congrArg (fun a => Value.slice a ls.length cap) hao) rfl hjn _) ?_
  refine nr ?_; intro U h; simp only [z0, z1] at h; subst h
  refine s_val 48 rfl rfl (.slice ao3 ((ls.getD j []).length) cap3) (run_ld24 _ rfl _ rfl _ _ (gro_cell GG clA)) ?_
  refine nr ?_; intro U h; simp only [z0, z1] at h; subst h
  refine s_val 7 rfl rfl (.int .i64 ((j : Nat) : Int)) (rfl) ?_
  refine nr ?_; intro U h; simp only [z0, z1] at h; subst h
  refine s_val 8 rfl rfl (.slice ao3 ((ls.getD j []).length) cap3) (rfl) ?_
  refine nr ?_; intro U h; simp only [z0, z1] at h; subst h
  refine wpList_nil ?_
  refine then_n ?_
  refine wp_seq ?_
  refine wp_seq ?_
  refine wp_region_lit ?_
  refine s_val 49 rfl rfl (.int .i64 ((j : Nat) : Int)) (rfl) ?_
  refine nr ?_; intro U h; simp only [z0, z1] at h; subst h
  obtain ⟨p2, hp2⟩ : ∃ p, decide (60 < ((j : Nat) : Int)) = p := ⟨_, rfl⟩
  refine s_val 50 rfl rfl (.bool p2) (run_gtrT 3 _ _ _ rfl ((j : Nat) : Int) 60 rfl rfl p2 hp2 _) ?_
  refine nr ?_; intro U h; simp only [z0, z1] at h; subst h
  cases p2
  · have hj60 : j ≤ 60 := by have := of_decide_eq_false hp2; omega
    refine wpList_nil ?_
    refine then_n ?_
    refine wp_cond_false rfl ?_
    refine wp_skip ?_
    refine then_n ?_
    refine wp_region_lit ?_
    refine s_val 51 rfl rfl (.pointer (some ⟨lp, 0, none⟩)) (rfl) ?_
    refine nr ?_; intro U h; simp only [z0, z1] at h; subst h
    refine s_val 52 rfl rfl (.slice ao3 ((ls.getD j []).length) cap3) (rfl) ?_
    refine nr ?_; intro U h; simp only [z0, z1] at h; subst h
    have HX := append_good _ lp p h dw HK sg 400 L pw dn HD _ HG ao3 cap3 (ls.getD j []) ⟨ncA.gro GG, fun ad ha h0 => by have := ncA.lt ad ha h0; simp; omega⟩ hP (by omega) hn1 hn2 (by omega) (by omega)
    refine s_callx 53 rfl rfl _ 21 Try.call21 rfl rfl _ rfl [.pointer (some ⟨lp, 0, none⟩), .slice ao3 ((ls.getD j []).length) cap3] rfl (HX) (fun _ _ ⟨_, _, _, _, _, _, he, _⟩ => ⟨_, he⟩) ?_
    rintro v w4 ⟨err, L2, pw2, h2, dw2, dn2, he, G, hd1, hd2, HD2, HK2, hP2, hg2, hres⟩
    cases he
    replace GG := G.gro GG (by simp; omega)
    clear G HX HD HK
    have HD := HD2
    have HK := HK2
    clear HD2 HK2
    refine nr ?_; intro U h; simp only [z0, z1] at h; subst h
    refine wpList_nil ?_
    refine blk_n ?_
    refine then_n ?_
    refine wp_region_lit ?_
    refine s_val 54 rfl rfl (.int .i64 ((j + 1 : Nat) : Int)) (run_add64 _ _ _ rfl ((j : Nat) : Int) 1 _ rfl rfl (by omega) (by omega) (by omega) _) ?_
    refine nr ?_; intro U h; simp only [z0, z1] at h; subst h
    refine s_val 44 rfl rfl (.int .i64 ((j + 1 : Nat) : Int)) (rfl) ?_
    refine nr ?_; intro U h; simp only [z0, z1] at h; subst h
    refine wpList_nil ?_
    refine then_n ?_
    rcases hres with ⟨_, HG2⟩ | ⟨_, HG2⟩
    · exact ⟨_, (by omega : ls.length - (j + 1) < ls.length - j), j + 1, dn2, pw2, L2, h2, dw2, _, (fun kz => ([.int .i64 ((j : Nat) : Int), .slice ao3 ((ls.getD j []).length) cap3, .bool true, .int .i64 ((j : Nat) : Int), .pointer (some (ad.add j)), .slice ao3 ((ls.getD j []).length) cap3, .int .i64 ((j : Nat) : Int), .bool false, .pointer (some ⟨lp, 0, none⟩), .slice ao3 ((ls.getD j []).length) cap3, .int .i64 err, .int .i64 ((j + 1 : Nat) : Int)] : List Value).getD kz undef), rfl, rfl, hjn, (by omega), ⟨by omega, by omega⟩, hP2, (by omega), HG2, GG, HD, HK⟩
    · exact ⟨_, (by omega : ls.length - (j + 1) < ls.length - j), j + 1, dn2, pw2, L2, h2, dw2, _, (fun kz => ([.int .i64 ((j : Nat) : Int), .slice ao3 ((ls.getD j []).length) cap3, .bool true, .int .i64 ((j : Nat) : Int), .pointer (some (ad.add j)), .slice ao3 ((ls.getD j []).length) cap3, .int .i64 ((j : Nat) : Int), .bool false, .pointer (some ⟨lp, 0, none⟩), .slice ao3 ((ls.getD j []).length) cap3, .int .i64 err, .int .i64 ((j + 1 : Nat) : Int)] : List Value).getD kz undef), rfl, rfl, hjn, (by omega), ⟨by omega, by omega⟩, hP2, (by omega), HG2, GG, HD, HK⟩
  refine wpList_nil ?_
  refine then_n ?_
  refine wp_cond_true rfl ?_
  refine wp_exit ?_
  refine then_x ?_
  refine blk_xn (by decide) ?_
  refine then_x ?_
  refine then_x ?_
  refine blk_x ?_
  refine then_n ?_
  refine wp_seq ?_
  refine wp_region_lit ?_
  refine s_val 56 rfl rfl (.pointer (some ⟨p, 0, none⟩)) (rfl) ?_
  refine nr ?_; intro U h; simp only [z0, z1] at h; subst h
  obtain ⟨B5, hB5⟩ : ∃ B, wv.heap.size = B := ⟨_, rfl⟩
  refine s_callx 57 rfl rfl _ 12 Try.call12 rfl rfl _ rfl [.pointer (some ⟨p, 0, none⟩)] rfl (open_ok _ p sg 400 L pw dn HD (by decide) _ (HG.opens (by omega))) (fun _ _ ⟨_, _, _, _, he, _⟩ => ⟨_, he⟩) ?_
  rintro v w4 ⟨lp5, ao5, cap5, q5, he, hq5, G, blp5, HK5, HL5⟩
  cases he
  rw [hB5] at HL5
  have hbw5 : w.heap.size ≤ B5 := by rw [← hB5]; exact GG.size
  clear HK5 hB5
  replace HD := HD.gro G
  replace HK := HK.gro G
  replace GG := GG.trans G
  clear G
  refine nr ?_; intro U h; simp only [z0, z1] at h; subst h
  refine s_val 55 rfl rfl (.tuple #[.pointer (some ⟨lp5, 0, none⟩), .slice ao5 q5.length cap5, .int .i64 0]) (rfl) ?_
  refine nr ?_; intro U h; simp only [z0, z1] at h; subst h
  refine s_val 58 rfl rfl (.pointer (some ⟨lp5, 0, none⟩)) (rfl) ?_
  refine nr ?_; intro U h; simp only [z0, z1] at h; subst h
  refine s_val 59 rfl rfl (.slice ao5 q5.length cap5) (rfl) ?_
  refine nr ?_; intro U h; simp only [z0, z1] at h; subst h
  refine s_val 60 rfl rfl (.int .i64 0) (rfl) ?_
  refine nr ?_; intro U h; simp only [z0, z1] at h; subst h
  refine s_val 9 rfl rfl (.pointer (some ⟨lp5, 0, none⟩)) (rfl) ?_
  refine nr ?_; intro U h; simp only [z0, z1] at h; subst h
  refine s_val 10 rfl rfl (.slice ao5 q5.length cap5) (rfl) ?_
  refine nr ?_; intro U h; simp only [z0, z1] at h; subst h
  refine s_val 11 rfl rfl (.int .i64 0) (rfl) ?_
  refine nr ?_; intro U h; simp only [z0, z1] at h; subst h
  refine wpList_nil ?_
  refine then_n ?_
  refine wp_seq ?_
  refine wp_region_lit ?_
  refine s_val 62 rfl rfl (.pointer (some ⟨p, 0, none⟩)) (rfl) ?_
  refine nr ?_; intro U h; simp only [z0, z1] at h; subst h
  obtain ⟨B6, hB6⟩ : ∃ B, w4.heap.size = B := ⟨_, rfl⟩
  refine s_callx 63 rfl rfl _ 12 Try.call12 rfl rfl _ rfl [.pointer (some ⟨p, 0, none⟩)] rfl (open_ok _ p sg 400 L pw dn HD (by decide) _ (HG.opens (by omega))) (fun _ _ ⟨_, _, _, _, he, _⟩ => ⟨_, he⟩) ?_
  rintro v w5 ⟨lp6, ao6, cap6, q6, he, hq6, G, blp6, HK6, HL6⟩
  cases he
  rw [hB6] at HL6
  have hbw6 : w.heap.size ≤ B6 := by rw [← hB6]; exact GG.size
  have hx5 : ∀ x ∈ q5, w.heap.size ≤ x.1 ∧ x.1 < B6 := fun x hx => ⟨Nat.le_trans hbw5 (HL5.row x hx).1, by rw [← hB6]; exact lt_of_heap (HL5.row x hx).2.1⟩
  clear HK6 hB6
  replace HD := HD.gro G
  replace HK := HK.gro G
  replace HL5 := HL5.gro G
  replace GG := GG.trans G
  clear G
  refine nr ?_; intro U h; simp only [z0, z1] at h; subst h
  refine s_val 61 rfl rfl (.tuple #[.pointer (some ⟨lp6, 0, none⟩), .slice ao6 q6.length cap6, .int .i64 0]) (rfl) ?_
  refine nr ?_; intro U h; simp only [z0, z1] at h; subst h
  refine s_val 64 rfl rfl (.pointer (some ⟨lp6, 0, none⟩)) (rfl) ?_
  refine nr ?_; intro U h; simp only [z0, z1] at h; subst h
  refine s_val 65 rfl rfl (.slice ao6 q6.length cap6) (rfl) ?_
  refine nr ?_; intro U h; simp only [z0, z1] at h; subst h
  refine s_val 66 rfl rfl (.int .i64 0) (rfl) ?_
  refine nr ?_; intro U h; simp only [z0, z1] at h; subst h
  refine s_val 12 rfl rfl (.pointer (some ⟨lp6, 0, none⟩)) (rfl) ?_
  refine nr ?_; intro U h; simp only [z0, z1] at h; subst h
  refine s_val 13 rfl rfl (.slice ao6 q6.length cap6) (rfl) ?_
  refine nr ?_; intro U h; simp only [z0, z1] at h; subst h
  refine s_val 14 rfl rfl (.int .i64 0) (rfl) ?_
  refine nr ?_; intro U h; simp only [z0, z1] at h; subst h
  refine wpList_nil ?_
  refine then_n ?_
  refine wp_seq ?_
  refine wp_seq ?_
  refine wp_region_opq ?_
  intro OPS hY
  have y5 := hY 5 72 rfl
  clear hY
  refine s_val 67 rfl rfl (.slice ao5 q5.length cap5) (rfl) ?_
  refine nr ?_; intro U h; simp only [z0, z1] at h; subst h
  refine s_val 68 rfl rfl (.int .i64 ((q5.length : Nat) : Int)) (run_len Try.underlying30 _ rfl _ _ _ rfl _) ?_
  refine nr ?_; intro U h; simp only [z0, z1] at h; subst h
  refine s_val 69 rfl rfl (.pointer (some ⟨lp, 0, none⟩)) (rfl) ?_
  refine nr ?_; intro U h; simp only [z0, z1] at h; subst h
  have hc5 : q5.length = h.c := by have h1 := HG.num; rw [hq5, List.length_map] at h1; exact h1
  have hc6 : q6.length = h.c := by have h1 := HG.num; rw [hq6, List.length_map] at h1; exact h1
  have hcu := HG.cnt
  have huf := HG.fit
  refine s_callv 70 rfl rfl _ 16 Try.call16 rfl rfl _ rfl [.pointer (some ⟨lp, 0, none⟩)] rfl (len_any _ lp p h dw HK (by omega)) ?_
  intro w6 G
  replace HD := HD.gro G
  replace HK := HK.gro G
  replace HL5 := HL5.gro G
  replace HL6 := HL6.gro G
  replace GG := GG.trans G
  clear G
  refine nr ?_; intro U h; simp only [z0, z1] at h; subst h
  refine s_val 71 rfl rfl (.bool false) (run_neq_k 3 .i64 _ _ _ rfl Try.underlying3 ((q5.length : Nat) : Int) ((h.c : Nat) : Int) rfl rfl false (decide_eq_true (by omega)) _) ?_
  refine nr ?_; intro U h; simp only [z0, z1] at h; subst h
  refine s_val 72 rfl rfl (.bool false) (rfl) ?_
  refine nr ?_; intro U h; simp only [z0, z1] at h; subst h
  refine s_gvalY 73 rfl rfl y5 rfl (.slice ao5 q5.length cap5) (rfl) ?_
  refine nr ?_; intro U h; simp only [z0, z1] at h; subst h
  refine s_gvalY 74 rfl rfl y5 rfl (.slice ao6 q6.length cap6) (rfl) ?_
  refine nr ?_; intro U h; simp only [z0, z1] at h; subst h
  have HC := sameAll_any _ ao5 cap5 (q5.map (·.2)) HL5.lc ao6 cap6 (q6.map (·.2)) HL6.lc (by rw [List.length_map]; omega)
  rw [decide_eq_true (hq5.symm.trans hq6), List.length_map, List.length_map] at HC
  refine s_gcallvY 75 rfl rfl y5 rfl _ 14 Try.call14 rfl rfl _ rfl [.slice ao5 q5.length cap5, .slice ao6 q6.length cap6] rfl (HC) ?_
  intro w7 G
  replace HD := HD.gro G
  replace HK := HK.gro G
  replace HL5 := HL5.gro G
  replace HL6 := HL6.gro G
  replace GG := GG.trans G
  clear G
  refine nr ?_; intro U h; simp only [z0, z1] at h; subst h
  clear HC
  refine s_gvalY 76 rfl rfl y5 rfl (.bool false) (run_nt _ _ rfl true rfl) ?_
  refine nr ?_; intro U h; simp only [z0, z1] at h; subst h
  refine s_val 77 rfl rfl (.bool false) (rfl) ?_
  refine nr ?_; intro U h; simp only [z0, z1] at h; subst h
  refine wpList_nil ?_
  refine then_n ?_
  refine wp_cond_false rfl ?_
  refine wp_skip ?_
  refine then_n ?_
  refine wp_seq ?_
  refine wp_region_lit ?_
  refine s_val 15 rfl rfl (.slice none 0 0) (rfl) ?_
  refine nr ?_; intro U h; simp only [z0, z1] at h; subst h
  refine wpList_nil ?_
  refine then_n ?_
  refine wp_seq ?_
  refine wp_seq ?_
  refine wp_region_lit ?_
  refine s_val 78 rfl rfl (.slice ao6 q6.length cap6) (rfl) ?_
  refine nr ?_; intro U h; simp only [z0, z1] at h; subst h
  refine s_val 79 rfl rfl (.int .i64 ((q6.length : Nat) : Int)) (run_len Try.underlying30 _ rfl _ _ _ rfl _) ?_
  refine nr ?_; intro U h; simp only [z0, z1] at h; subst h
  refine s_val 80 rfl rfl (.int .i64 0) (rfl) ?_
  refine nr ?_; intro U h; simp only [z0, z1] at h; subst h
  refine wpList_nil ?_
  refine then_n ?_
  refine wp_block ?_
  obtain ⟨B7, hB7⟩ : ∃ B, w7.heap.size = B := ⟨_, rfl⟩
  have hB7w : w.heap.size ≤ B7 := by rw [← hB7]; exact GG.size
  have ha5 : ∀ ad, ao5 = some ad → ad.block < B7 := fun ad ha => by rw [← hB7]; exact (HL5.ox.ge ad ha).2
  have ha6 : ∀ ad, ao6 = some ad → ad.block < B7 := fun ad ha => by rw [← hB7]; exact (HL6.ox.ge ad ha).2
  have hB67 : ∀ x ∈ q5, x.1 < B7 := fun x hx => by rw [← hB7]; exact lt_of_heap (HL5.row x hx).2.1
  have hl6 := rec_short HG.recs hq6
  have hB7s := Nat.le_of_eq hB7.symm
  have hl5 := rec_short HG.recs hq5
  refine wp_loopN (fun mz az wv => ∃ (i : Nat) (aq : Option Addr) (cq : Nat) (q : List RV) (us2 : Nat → Value), mz = q6.length - i ∧ az = ⟨[.slice ao ls.length cap, undef, .bool false, .pointer (some ⟨p, 0, none⟩), .pointer (some ⟨lp, 0, none⟩), .slice aoz qz.length capz, .int .i64 0, .int .i64 ((j : Nat) : Int), .slice ao3 ((ls.getD j []).length) cap3, .pointer (some ⟨lp5, 0, none⟩), .slice ao5 q5.length cap5, .int .i64 0, .pointer (some ⟨lp6, 0, none⟩), .slice ao6 q6.length cap6, .int .i64 0, .slice aq q.length cq, undef, us2 0, undef, undef, undef, .pointer (some ⟨p, 0, none⟩), .tuple #[.pointer (some ⟨lp, 0, none⟩), .slice aoz qz.length capz, .int .i64 0], .pointer (some ⟨p, 0, none⟩), .tuple #[.pointer (some ⟨lp, 0, none⟩), .slice aoz qz.length capz, .int .i64 0], .pointer (some ⟨lp, 0, none⟩), .slice aoz qz.length capz, .int .i64 0, .pointer (some ⟨p, 0, none⟩), .bool false, .bool false, .pointer (some ⟨lp, 0, none⟩), .bool false, .bool false, .bool false, .int .i64 0, .bool false, .bool false, .bool false, .bool true, .bool false, .bool false, .slice ao ls.length cap, .int .i64 ((ls.length : Nat) : Int), .int .i64 ((j : Nat) : Int), .bool true, .int .i64 ((j : Nat) : Int), .pointer (some (ad.add j)), .slice ao3 ((ls.getD j []).length) cap3, .int .i64 ((j : Nat) : Int), .bool true, us1 8, us1 9, us1 10, us1 11, .tuple #[.pointer (some ⟨lp5, 0, none⟩), .slice ao5 q5.length cap5, .int .i64 0], .pointer (some ⟨p, 0, none⟩), .tuple #[.pointer (some ⟨lp5, 0, none⟩), .slice ao5 q5.length cap5, .int .i64 0], .pointer (some ⟨lp5, 0, none⟩), .slice ao5 q5.length cap5, .int .i64 0, .tuple #[.pointer (some ⟨lp6, 0, none⟩), .slice ao6 q6.length cap6, .int .i64 0], .pointer (some ⟨p, 0, none⟩), .tuple #[.pointer (some ⟨lp6, 0, none⟩), .slice ao6 q6.length cap6, .int .i64 0], .pointer (some ⟨lp6, 0, none⟩), .slice ao6 q6.length cap6, .int .i64 0, .slice ao5 q5.length cap5, .int .i64 ((q5.length : Nat) : Int), .pointer (some ⟨lp, 0, none⟩), .int .i64 ((h.c : Nat) : Int), .bool false, .bool false, .slice ao5 q5.length cap5, .slice ao6 q6.length cap6, .bool true, .bool false, .bool false, .slice ao6 q6.length cap6, .int .i64 ((q6.length : Nat) : Int), .int .i64 ((i : Nat) : Int), us2 1, us2 2, us2 3, us2 4, us2 5, us2 6, us2 7, us2 8, us2 9, us2 10, undef, undef, undef, undef, undef, undef, undef, undef, undef, undef, undef, undef, undef, undef, undef, undef, undef, undef, undef, undef, undef, undef].toArray, []⟩ ∧ i ≤ q6.length ∧ q.length = i ∧ q.map (·.l) = (q6.map (·.2)).take i ∧ Gro w wv ∧ RS wv B5 ao5 cap5 q5 ∧ RS wv B6 ao6 cap6 q6 ∧ LO wv B7 aq cq q ∧ B7 ≤ wv.heap.size) ?_ _ ⟨0, none, 0, [], (fun kz => ([undef, undef, undef, undef, undef, undef, undef, undef, undef, undef, undef] : List Value).getD kz undef), rfl, rfl, Nat.zero_le _, rfl, rfl, GG, HL5, HL6, LO.nil _ _, hB7s⟩
  clear GG HL5 HL6
  rintro mz az wv ⟨i, aq, cq, q, us2, rfl, rfl, hi, hqi, hqw, GG, HL5, HL6, HQ, hB7s⟩
  refine wp_seq ?_
  refine wp_region_lit ?_
  obtain ⟨p3, hp3⟩ : ∃ p, decide (((i : Nat) : Int) < ((q6.length : Nat) : Int)) = p := ⟨_, rfl⟩
  refine s_val 81 rfl rfl (.bool p3) (run_lssT 3 _ _ _ rfl ((i : Nat) : Int) ((q6.length : Nat) : Int) rfl rfl p3 hp3 _) ?_
  refine nr ?_; intro U h; simp only [z0, z1] at h; subst h
  cases p3
  · have hin : i = q6.length := by have := of_decide_eq_false hp3; omega
    refine wpList_nil ?_
    refine then_n ?_
    refine wp_seq ?_
    refine wp_cond_false rfl ?_
    refine wp_exit ?_
    refine then_x ?_
    refine then_x ?_
    refine blk_x ?_
    refine then_n ?_
    refine wp_seq ?_
    refine wp_seq ?_
    refine wp_region_lit ?_
    refine s_val 91 rfl rfl (.slice ao5 q5.length cap5) (rfl) ?_
    refine nr ?_; intro U h; simp only [z0, z1] at h; subst h
    refine s_val 92 rfl rfl (.int .i64 ((q5.length : Nat) : Int)) (run_len Try.underlying30 _ rfl _ _ _ rfl _) ?_
    refine nr ?_; intro U h; simp only [z0, z1] at h; subst h
    refine s_val 93 rfl rfl (.int .i64 0) (rfl) ?_
    refine nr ?_; intro U h; simp only [z0, z1] at h; subst h
    refine wpList_nil ?_
    refine then_n ?_
    refine wp_block ?_
    have hqw : q.map (·.l) = q6.map (·.2) := by rw [hqw, List.take_of_length_le (by rw [List.length_map]; omega)]
    have OA := HL5.ox
    have WA := HL5.wk
    refine wp_loopN (fun mz az wv => ∃ (m : Nat) (us3 : Nat → Value), mz = q5.length - m ∧ az = ⟨[.slice ao ls.length cap, undef, .bool false, .pointer (some ⟨p, 0, none⟩), .pointer (some ⟨lp, 0, none⟩), .slice aoz qz.length capz, .int .i64 0, .int .i64 ((j : Nat) : Int), .slice ao3 ((ls.getD j []).length) cap3, .pointer (some ⟨lp5, 0, none⟩), .slice ao5 q5.length cap5, .int .i64 0, .pointer (some ⟨lp6, 0, none⟩), .slice ao6 q6.length cap6, .int .i64 0, .slice aq q.length cq, undef, us2 0, undef, us3 0, us3 1, .pointer (some ⟨p, 0, none⟩), .tuple #[.pointer (some ⟨lp, 0, none⟩), .slice aoz qz.length capz, .int .i64 0], .pointer (some ⟨p, 0, none⟩), .tuple #[.pointer (some ⟨lp, 0, none⟩), .slice aoz qz.length capz, .int .i64 0], .pointer (some ⟨lp, 0, none⟩), .slice aoz qz.length capz, .int .i64 0, .pointer (some ⟨p, 0, none⟩), .bool false, .bool false, .pointer (some ⟨lp, 0, none⟩), .bool false, .bool false, .bool false, .int .i64 0, .bool false, .bool false, .bool false, .bool true, .bool false, .bool false, .slice ao ls.length cap, .int .i64 ((ls.length : Nat) : Int), .int .i64 ((j : Nat) : Int), .bool true, .int .i64 ((j : Nat) : Int), .pointer (some (ad.add j)), .slice ao3 ((ls.getD j []).length) cap3, .int .i64 ((j : Nat) : Int), .bool true, us1 8, us1 9, us1 10, us1 11, .tuple #[.pointer (some ⟨lp5, 0, none⟩), .slice ao5 q5.length cap5, .int .i64 0], .pointer (some ⟨p, 0, none⟩), .tuple #[.pointer (some ⟨lp5, 0, none⟩), .slice ao5 q5.length cap5, .int .i64 0], .pointer (some ⟨lp5, 0, none⟩), .slice ao5 q5.length cap5, .int .i64 0, .tuple #[.pointer (some ⟨lp6, 0, none⟩), .slice ao6 q6.length cap6, .int .i64 0], .pointer (some ⟨p, 0, none⟩), .tuple #[.pointer (some ⟨lp6, 0, none⟩), .slice ao6 q6.length cap6, .int .i64 0], .pointer (some ⟨lp6, 0, none⟩), .slice ao6 q6.length cap6, .int .i64 0, .slice ao5 q5.length cap5, .int .i64 ((q5.length : Nat) : Int), .pointer (some ⟨lp, 0, none⟩), .int .i64 ((h.c : Nat) : Int), .bool false, .bool false, .slice ao5 q5.length cap5, .slice ao6 q6.length cap6, .bool true, .bool false, .bool false, .slice ao6 q6.length cap6, .int .i64 ((q6.length : Nat) : Int), .int .i64 ((i : Nat) : Int), .bool false, us2 2, us2 3, us2 4, us2 5, us2 6, us2 7, us2 8, us2 9, us2 10, .slice ao5 q5.length cap5, .int .i64 ((q5.length : Nat) : Int), .int .i64 ((m : Nat) : Int), us3 2, us3 3, us3 4, us3 5, us3 6, us3 7, us3 8, us3 9, us3 10, us3 11, us3 12, us3 13, us3 14, us3 15, us3 16, us3 17, undef, undef, undef].toArray, []⟩ ∧ m ≤ q5.length ∧ Gro w wv ∧ OX wv 22 1 B5 ao5 cap5 q5.length (q5.map rv) ∧ WK wv q5 ∧ RS wv B6 ao6 cap6 q6 ∧ LO wv B7 aq cq q) ?_ _ ⟨0, (fun kz => ([undef, undef, undef, undef, undef, undef, undef, undef, undef, undef, undef, undef, undef, undef, undef, undef, undef, undef] : List Value).getD kz undef), rfl, rfl, Nat.zero_le _, GG, OA, WA, HL6, HQ⟩
    clear GG OA WA HL6 HQ
    rintro mz az wv ⟨m, us3, rfl, rfl, hm, GG, OA, WA, HL6, HQ⟩
    refine wp_seq ?_
    refine wp_region_lit ?_
    obtain ⟨p4, hp4⟩ : ∃ p, decide (((m : Nat) : Int) < ((q5.length : Nat) : Int)) = p := ⟨_, rfl⟩
    refine s_val 94 rfl rfl (.bool p4) (run_lssT 3 _ _ _ rfl ((m : Nat) : Int) ((q5.length : Nat) : Int) rfl rfl p4 hp4 _) ?_
    refine nr ?_; intro U h; simp only [z0, z1] at h; subst h
    cases p4
    · refine wpList_nil ?_
      refine then_n ?_
      refine wp_seq ?_
      refine wp_cond_false rfl ?_
      refine wp_exit ?_
      refine then_x ?_
      refine then_x ?_
      refine blk_x ?_
      refine then_n ?_
      refine wp_seq ?_
      refine wp_region_lit ?_
      refine s_val 110 rfl rfl (.slice ao6 q6.length cap6) (rfl) ?_
      refine nr ?_; intro U h; simp only [z0, z1] at h; subst h
      refine s_val 111 rfl rfl (.slice aq q.length cq) (rfl) ?_
      refine nr ?_; intro U h; simp only [z0, z1] at h; subst h
      have HC := sameAll_any _ ao6 cap6 (q6.map (·.2)) HL6.lc aq cq (q.map (·.l)) HQ.lc (by rw [List.length_map]; omega)
      rw [decide_eq_true hqw.symm, List.length_map, List.length_map] at HC
      refine s_callv 112 rfl rfl _ 14 Try.call14 rfl rfl _ rfl [.slice ao6 q6.length cap6, .slice aq q.length cq] rfl (HC) ?_
      intro w8 G
      replace OA := OA.gro G
      replace WA := WA.gro G
      replace HL6 := HL6.gro G
      replace HQ := HQ.gro G
      replace GG := GG.trans G
      clear G
      refine nr ?_; intro U h; simp only [z0, z1] at h; subst h
      clear HC
      refine s_val 2 rfl rfl (.bool true) (rfl) ?_
      refine nr ?_; intro U h; simp only [z0, z1] at h; subst h
      refine wpList_nil ?_
      refine then_n ?_
      refine wp_ret ?_
      refine bodyPost_ret (results_tmp Try.results7 _ _ _) rfl ?_
      exact ⟨rfl, GG⟩
    have hmn : m < q5.length := by have := of_decide_eq_true hp4; omega
    refine wpList_nil ?_
    refine then_n ?_
    refine wp_seq ?_
    refine wp_cond_true rfl ?_
    refine wp_skip ?_
    refine then_n ?_
    refine wp_seq ?_
    refine wp_block ?_
    refine wp_seq ?_
    refine wp_region_lit ?_
    obtain ⟨y, hy⟩ : ∃ y, q5[m]? = some y := ⟨_, List.getElem?_eq_getElem hmn⟩
    have hym := List.mem_of_getElem? hy
    obtain ⟨cd, hco⟩ := OA.xc.some (by omega)
    have hy24 := hl5 y hym
    refine s_val 95 rfl rfl (.pointer (some (cd.add m))) (run_idx23 _ _ rfl cd q5.length cap5 m (by exact congrArg (fun a => Value.slice a q5.length cap5) hco) rfl hmn _) ?_
    refine nr ?_; intro U h; simp only [z0, z1] at h; subst h
    refine s_val 96 rfl rfl (.slice (some ⟨y.1, 0, none⟩) y.2.length y.2.length) (run_ld24 _ rfl _ rfl _ _ (OA.xc.cell cd hco m (rv y) (by rw [List.getElem?_map, hy]; rfl))) ?_
    refine nr ?_; intro U h; simp only [z0, z1] at h; subst h
    refine s_val 19 rfl rfl (.slice (some ⟨y.1, 0, none⟩) y.2.length y.2.length) (rfl) ?_
    refine nr ?_; intro U h; simp only [z0, z1] at h; subst h
    refine wpList_nil ?_
    refine then_n ?_
    refine wp_seq ?_
    refine wp_region_lit ?_
    refine s_val 97 rfl rfl (.slice (some ⟨y.1, 0, none⟩) y.2.length y.2.length) (rfl) ?_
    refine nr ?_; intro U h; simp only [z0, z1] at h; subst h
    refine s_val 98 rfl rfl (.int .i64 ((y.2.length : Nat) : Int)) (run_len Try.underlying22 _ rfl _ _ _ rfl _) ?_
    refine nr ?_; intro U h; simp only [z0, z1] at h; subst h
    refine s_val 99 rfl rfl (.int .i64 0) (rfl) ?_
    refine nr ?_; intro U h; simp only [z0, z1] at h; subst h
    refine wpList_nil ?_
    refine then_n ?_
    refine wp_block ?_
    refine wp_loopN (fun mz az wv => ∃ (t : Nat) (us4 : Nat → Value), mz = y.2.length - t ∧ az = ⟨[.slice ao ls.length cap, undef, .bool false, .pointer (some ⟨p, 0, none⟩), .pointer (some ⟨lp, 0, none⟩), .slice aoz qz.length capz, .int .i64 0, .int .i64 ((j : Nat) : Int), .slice ao3 ((ls.getD j []).length) cap3, .pointer (some ⟨lp5, 0, none⟩), .slice ao5 q5.length cap5, .int .i64 0, .pointer (some ⟨lp6, 0, none⟩), .slice ao6 q6.length cap6, .int .i64 0, .slice aq q.length cq, undef, us2 0, undef, .slice (some ⟨y.1, 0, none⟩) y.2.length y.2.length, us4 0, .pointer (some ⟨p, 0, none⟩), .tuple #[.pointer (some ⟨lp, 0, none⟩), .slice aoz qz.length capz, .int .i64 0], .pointer (some ⟨p, 0, none⟩), .tuple #[.pointer (some ⟨lp, 0, none⟩), .slice aoz qz.length capz, .int .i64 0], .pointer (some ⟨lp, 0, none⟩), .slice aoz qz.length capz, .int .i64 0, .pointer (some ⟨p, 0, none⟩), .bool false, .bool false, .pointer (some ⟨lp, 0, none⟩), .bool false, .bool false, .bool false, .int .i64 0, .bool false, .bool false, .bool false, .bool true, .bool false, .bool false, .slice ao ls.length cap, .int .i64 ((ls.length : Nat) : Int), .int .i64 ((j : Nat) : Int), .bool true, .int .i64 ((j : Nat) : Int), .pointer (some (ad.add j)), .slice ao3 ((ls.getD j []).length) cap3, .int .i64 ((j : Nat) : Int), .bool true, us1 8, us1 9, us1 10, us1 11, .tuple #[.pointer (some ⟨lp5, 0, none⟩), .slice ao5 q5.length cap5, .int .i64 0], .pointer (some ⟨p, 0, none⟩), .tuple #[.pointer (some ⟨lp5, 0, none⟩), .slice ao5 q5.length cap5, .int .i64 0], .pointer (some ⟨lp5, 0, none⟩), .slice ao5 q5.length cap5, .int .i64 0, .tuple #[.pointer (some ⟨lp6, 0, none⟩), .slice ao6 q6.length cap6, .int .i64 0], .pointer (some ⟨p, 0, none⟩), .tuple #[.pointer (some ⟨lp6, 0, none⟩), .slice ao6 q6.length cap6, .int .i64 0], .pointer (some ⟨lp6, 0, none⟩), .slice ao6 q6.length cap6, .int .i64 0, .slice ao5 q5.length cap5, .int .i64 ((q5.length : Nat) : Int), .pointer (some ⟨lp, 0, none⟩), .int .i64 ((h.c : Nat) : Int), .bool false, .bool false, .slice ao5 q5.length cap5, .slice ao6 q6.length cap6, .bool true, .bool false, .bool false, .slice ao6 q6.length cap6, .int .i64 ((q6.length : Nat) : Int), .int .i64 ((i : Nat) : Int), .bool false, us2 2, us2 3, us2 4, us2 5, us2 6, us2 7, us2 8, us2 9, us2 10, .slice ao5 q5.length cap5, .int .i64 ((q5.length : Nat) : Int), .int .i64 ((m : Nat) : Int), .bool true, .pointer (some (cd.add m)), .slice (some ⟨y.1, 0, none⟩) y.2.length y.2.length, .slice (some ⟨y.1, 0, none⟩) y.2.length y.2.length, .int .i64 ((y.2.length : Nat) : Int), .int .i64 ((t : Nat) : Int), us4 1, us4 2, us4 3, us4 4, us4 5, us4 6, us4 7, us4 8, us4 9, us3 17, undef, undef, undef].toArray, []⟩ ∧ t ≤ y.2.length ∧ Gro w wv ∧ OX wv 22 1 B5 ao5 cap5 q5.length (q5.map rv) ∧ WK wv q5 ∧ RS wv B6 ao6 cap6 q6 ∧ LO wv B7 aq cq q) ?_ _ ⟨0, (fun kz => ([us3 1, us3 8, us3 9, us3 10, us3 11, us3 12, us3 13, us3 14, us3 15, us3 16] : List Value).getD kz undef), rfl, rfl, Nat.zero_le _, GG, OA, WA, HL6, HQ⟩
    clear GG OA WA HL6 HQ
    rintro mz az wv ⟨t, us4, rfl, rfl, ht, GG, OA, WA, HL6, HQ⟩
    refine wp_seq ?_
    refine wp_region_lit ?_
    obtain ⟨p5, hp5⟩ : ∃ p, decide (((t : Nat) : Int) < ((y.2.length : Nat) : Int)) = p := ⟨_, rfl⟩
    refine s_val 100 rfl rfl (.bool p5) (run_lssT 3 _ _ _ rfl ((t : Nat) : Int) ((y.2.length : Nat) : Int) rfl rfl p5 hp5 _) ?_
    refine nr ?_; intro U h; simp only [z0, z1] at h; subst h
    cases p5
    · refine wpList_nil ?_
      refine then_n ?_
      refine wp_seq ?_
      refine wp_cond_false rfl ?_
      refine wp_exit ?_
      refine then_x ?_
      refine then_x ?_
      refine blk_x ?_
      refine blk_n ?_
      refine then_n ?_
      refine wp_region_lit ?_
      refine s_val 109 rfl rfl (.int .i64 ((m + 1 : Nat) : Int)) (run_add64 _ _ _ rfl ((m : Nat) : Int) 1 _ rfl rfl (by omega) (by omega) (by omega) _) ?_
      refine nr ?_; intro U h; simp only [z0, z1] at h; subst h
      refine s_val 93 rfl rfl (.int .i64 ((m + 1 : Nat) : Int)) (rfl) ?_
      refine nr ?_; intro U h; simp only [z0, z1] at h; subst h
      refine wpList_nil ?_
      refine then_n ?_
      exact ⟨_, (by omega : q5.length - (m + 1) < q5.length - m), m + 1, (fun kz => ([.slice (some ⟨y.1, 0, none⟩) y.2.length y.2.length, us4 0, .bool true, .pointer (some (cd.add m)), .slice (some ⟨y.1, 0, none⟩) y.2.length y.2.length, .slice (some ⟨y.1, 0, none⟩) y.2.length y.2.length, .int .i64 ((y.2.length : Nat) : Int), .int .i64 ((t : Nat) : Int), .bool false, us4 2, us4 3, us4 4, us4 5, us4 6, us4 7, us4 8, us4 9, .int .i64 ((m + 1 : Nat) : Int)] : List Value).getD kz undef), rfl, rfl, hmn, GG, OA, WA, HL6, HQ⟩
    have htn : t < y.2.length := by have := of_decide_eq_true hp5; omega
    refine wpList_nil ?_
    refine then_n ?_
    refine wp_seq ?_
    refine wp_cond_true rfl ?_
    refine wp_skip ?_
    refine then_n ?_
    refine wp_seq ?_
    refine wp_block ?_
    refine wp_seq ?_
    refine wp_region_lit ?_
    refine s_val 101 rfl rfl (.int .i64 ((t : Nat) : Int)) (rfl) ?_
    refine nr ?_; intro U h; simp only [z0, z1] at h; subst h
    refine s_val 20 rfl rfl (.int .i64 ((t : Nat) : Int)) (rfl) ?_
    refine nr ?_; intro U h; simp only [z0, z1] at h; subst h
    refine wpList_nil ?_
    refine then_n ?_
    refine wp_region_lit ?_
    refine s_val 102 rfl rfl (.slice (some ⟨y.1, 0, none⟩) y.2.length y.2.length) (rfl) ?_
    refine nr ?_; intro U h; simp only [z0, z1] at h; subst h
    refine s_val 103 rfl rfl (.int .i64 ((t : Nat) : Int)) (rfl) ?_
    refine nr ?_; intro U h; simp only [z0, z1] at h; subst h
    obtain ⟨l1, hl1, kl1, hb1⟩ := WA y hym
    refine s_val 104 rfl rfl (.pointer (some ⟨y.1, t, none⟩)) (bat _ _ rfl y.1 y.2.length y.2.length t rfl rfl htn _) ?_
    refine nr ?_; intro U h; simp only [z0, z1] at h; subst h
    refine s_val 105 rfl rfl (.int .u8 ((l1.getD t 0 : Nat) : Int)) (run_ld bT _ rfl ⟨y.1, t, none⟩ rfl _ _ (bvc kl1 (by omega))) ?_
    refine nr ?_; intro U h; simp only [z0, z1] at h; subst h
    refine s_val 106 rfl rfl (.int .u8 ((inc8 (l1.getD t 0) : Nat) : Int)) (run_inc8 _ _ _ rfl (l1.getD t 0) rfl rfl _) ?_
    refine nr ?_; intro U h; simp only [z0, z1] at h; subst h
    refine s_val 107 rfl rfl (.pointer (some ⟨y.1, t, none⟩)) (bat _ _ rfl y.1 y.2.length y.2.length t rfl rfl htn _) ?_
    refine nr ?_; intro U h; simp only [z0, z1] at h; subst h
    refine s_store rfl rfl 5 _ _ rfl y.1 t rfl (.int .u8 ((inc8 (l1.getD t 0) : Nat) : Int)) rfl 5 _ kl1 #[.int .u8 ((inc8 (l1.getD t 0) : Nat) : Int)] rfl si5 (by simp only [List.size_toArray, List.length_cons, List.length_nil, bv_size]; omega) (one1 _) _ (bv_set l1 t (inc8 (l1.getD t 0)) (by omega)) ?_
    intro w8 St
    replace OA := OA.apart St (fun ad ha => by obtain ⟨cur, hc⟩ := OA.blk22 ha; exact ne_type hc kl1 (by decide))
    replace HL6 := HL6.st St kl1 (hx5 y hym).2
    replace HQ := HQ.st St kl1 (hB67 y hym)
    replace WA := WA.st kl1 St (set_len _ _ _) (set_byte hb1 _ _ (inc8_lt _))
    replace GG := GG.store St (hx5 y hym).1
    clear St kl1
    refine wpList_nil ?_
    refine blk_n ?_
    refine then_n ?_
    refine wp_region_lit ?_
    refine s_val 108 rfl rfl (.int .i64 ((t + 1 : Nat) : Int)) (run_add64 _ _ _ rfl ((t : Nat) : Int) 1 _ rfl rfl (by omega) (by omega) (by omega) _) ?_
    refine nr ?_; intro U h; simp only [z0, z1] at h; subst h
    refine s_val 99 rfl rfl (.int .i64 ((t + 1 : Nat) : Int)) (rfl) ?_
    refine nr ?_; intro U h; simp only [z0, z1] at h; subst h
    refine wpList_nil ?_
    refine then_n ?_
    exact ⟨_, (by omega : y.2.length - (t + 1) < y.2.length - t), t + 1, (fun kz => ([.int .i64 ((t : Nat) : Int), .bool true, .int .i64 ((t : Nat) : Int), .slice (some ⟨y.1, 0, none⟩) y.2.length y.2.length, .int .i64 ((t : Nat) : Int), .pointer (some ⟨y.1, t, none⟩), .int .u8 ((l1.getD t 0 : Nat) : Int), .int .u8 ((inc8 (l1.getD t 0) : Nat) : Int), .pointer (some ⟨y.1, t, none⟩), .int .i64 ((t + 1 : Nat) : Int)] : List Value).getD kz undef), rfl, rfl, htn, GG, OA, WA, HL6, HQ⟩
  have hin : i < q6.length := by have := of_decide_eq_true hp3; omega
  refine wpList_nil ?_
  refine then_n ?_
  refine wp_seq ?_
  refine wp_cond_true rfl ?_
  refine wp_skip ?_
  refine then_n ?_
  refine wp_seq ?_
  refine wp_block ?_
  refine wp_seq ?_
  refine wp_region_lit ?_
  obtain ⟨x, hx⟩ : ∃ x, q6[i]? = some x := ⟨_, List.getElem?_eq_getElem hin⟩
  have hxm := List.mem_of_getElem? hx
  obtain ⟨bd, hbo⟩ := HL6.ox.xc.some (by omega)
  have hx24 := hl6 x hxm
  refine s_val 82 rfl rfl (.pointer (some (bd.add i))) (run_idx23 _ _ rfl bd q6.length cap6 i (by exact congrArg (fun a => Value.slice a q6.length cap6) hbo) rfl hin _) ?_
  refine nr ?_; intro U h; simp only [z0, z1] at h; subst h
  refine s_val 83 rfl rfl (.slice (some ⟨x.1, 0, none⟩) x.2.length x.2.length) (run_ld24 _ rfl _ rfl _ _ (HL6.ox.xc.cell bd hbo i (rv x) (by rw [List.getElem?_map, hx]; rfl))) ?_
  refine nr ?_; intro U h; simp only [z0, z1] at h; subst h
  refine s_val 17 rfl rfl (.slice (some ⟨x.1, 0, none⟩) x.2.length x.2.length) (rfl) ?_
  refine nr ?_; intro U h; simp only [z0, z1] at h; subst h
  refine wpList_nil ?_
  refine then_n ?_
  refine wp_region_lit ?_
  refine s_val 84 rfl rfl (.slice aq q.length cq) (rfl) ?_
  refine nr ?_; intro U h; simp only [z0, z1] at h; subst h
  refine s_bsl 85 rfl rfl 22 0 _ rfl [] rfl #[] 5 (by kernel_rfl) ?_
  intro w8 gb G1 egb kgb
  refine nr ?_; intro U h; simp only [z0, z1] at h; subst h
  refine s_val 86 rfl rfl (.slice (some ⟨x.1, 0, none⟩) x.2.length x.2.length) (rfl) ?_
  refine nr ?_; intro U h; simp only [z0, z1] at h; subst h
  have hB7u : B7 ≤ gb := egb ▸ hB7s
  have hgbl := lt_of_heap kgb
  have HO1 : OB _ 5 .u8 gb (some ⟨gb, 0, none⟩) 0 [] := OB.made kgb (Nat.le_refl _) (Nat.le_refl _) (Nat.zero_le _) rfl rfl (fun x hx => by cases hx)
  refine s_app bT 87 rfl rfl _ _ rfl rfl HO1 (l' := x.2) rfl ((nc_all (HL6.row x hxm).2.1 (HL6.row x hxm).2.2).gro G1) (by simp only [List.length_nil]; omega) (by decide) (Nat.le_of_lt (lt_of_heap kgb)) ?_
  intro ao4 cap4 w9 HO2 BB
  rw [List.nil_append] at HO2
  simp only [List.nil_append]
  have hB7t := Nat.le_trans hB7u (Nat.le_trans (Nat.le_of_lt hgbl) BB.size)
  have G := below_gro G1 BB (Nat.le_of_eq egb)
  have bgb : B7 ≤ gb := egb ▸ hB7s
  have HO := HO2.mono bgb
  clear HO1 HO2 BB G1 egb kgb
  replace HL5 := HL5.gro G
  replace HL6 := HL6.gro G
  replace HQ := HQ.gro G
  replace GG := GG.trans G
  clear G
  refine nr ?_; intro U h; simp only [z0, z1] at h; subst h
  refine s_bsl 88 rfl rfl 30 1 _ rfl [(0, .slice ao4 x.2.length cap4)] rfl #[.slice ao4 x.2.length cap4] 22 (by kernel_rfl) ?_
  intro w10 gB G eB kgB
  have hgB7 : B7 ≤ gB := eB ▸ hB7t
  clear eB
  replace HL5 := HL5.gro G
  replace HL6 := HL6.gro G
  replace HQ := HQ.gro G
  replace HO := HO.gro G
  replace GG := GG.trans G
  clear G
  refine nr ?_; intro U h; simp only [z0, z1] at h; subst h
  refine s_appXG rT 89 rfl rfl _ _ rfl rfl HQ.ox rfl (xc_one kgB rfl) (by omega) (by decide) (Nat.le_of_lt (Nat.lt_of_le_of_lt hgB7 (lt_of_heap kgB))) ?_
  intro aq2 cq2 w11 HX GX
  have HQ2 := LO.app (x := ⟨ao4, cap4, x.2⟩) HQ HX GX HO
  have hB7s2 := Nat.le_trans (Nat.le_of_lt (Nat.lt_of_le_of_lt hgB7 (lt_of_heap kgB))) GX.size
  replace HL5 := HL5.groB ha5 HQ.ox GX
  replace HL6 := HL6.groB ha6 HQ.ox GX
  replace GG := GX.gro GG (fun y hy => Nat.le_trans hB7w (HQ.ox.base y hy))
  clear HX GX HQ HO kgB
  refine nr ?_; intro U h; simp only [z0, z1] at h; subst h
  refine s_val 15 rfl rfl (.slice aq2 (q.length + 1) cq2) (rfl) ?_
  refine nr ?_; intro U h; simp only [z0, z1] at h; subst h
  refine wpList_nil ?_
  refine blk_n ?_
  refine then_n ?_
  refine wp_region_lit ?_
  refine s_val 90 rfl rfl (.int .i64 ((i + 1 : Nat) : Int)) (run_add64 _ _ _ rfl ((i : Nat) : Int) 1 _ rfl rfl (by omega) (by omega) (by omega) _) ?_
  refine nr ?_; intro U h; simp only [z0, z1] at h; subst h
  refine s_val 80 rfl rfl (.int .i64 ((i + 1 : Nat) : Int)) (rfl) ?_
  refine nr ?_; intro U h; simp only [z0, z1] at h; subst h
  refine wpList_nil ?_
  refine then_n ?_
  exact ⟨_, (by omega : q6.length - (i + 1) < q6.length - i), i + 1, aq2, cq2, q ++ [⟨ao4, cap4, x.2⟩], (fun kz => ([.slice (some ⟨x.1, 0, none⟩) x.2.length x.2.length, .bool true, .pointer (some (bd.add i)), .slice (some ⟨x.1, 0, none⟩) x.2.length x.2.length, .slice aq q.length cq, .slice (some ⟨gb, 0, none⟩) (([] : List Nat).length) 0, .slice (some ⟨x.1, 0, none⟩) x.2.length x.2.length, .slice ao4 x.2.length cap4, .slice (some ⟨gB, 0, none⟩) 1 1, .slice aq2 (q.length + 1) cq2, .int .i64 ((i + 1 : Nat) : Int)] : List Value).getD kz undef), rfl, (by rw [List.length_append]; rfl), hin, (by rw [List.length_append]; simp; omega), (by rw [List.map_append, hqw]; exact take_step hx), GG, HL5, HL6, HQ2, hB7s2⟩
end Go.Proofs.Ytaejjmoocnpdaaa
