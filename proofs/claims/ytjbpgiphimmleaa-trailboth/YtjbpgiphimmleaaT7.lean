/- The laws on new memory and on two trails that make one. -/
import Derived.Test.YtjbpgiphimmleaaT6
namespace Go.Proofs.Ytjbpgiphimmleaa
open Go.RowKit Go.Maps

section
variable {w w' : World} {B : Nat} {ao : Option Addr} {cap : Nat} {l : List Int}
theorem OI.apart (h : OI w B ao cap l) {g : Nat} {x : Obj} (S : Stored w w' g x) (hg : g < B) : OI w' B ao cap l := ⟨h.own.apart S (fun ad ha => by have := (h.own.ge ad ha).1; omega), h.all⟩
/-- The block of a row of one's own that isn't empty. -/
theorem OI.blk (h : OI w B ao cap l) (h0 : 0 < l.length) : ∃ g cur, ao = some ⟨g, 0, none⟩ ∧ B ≤ g ∧ w.heap[g]? = some (.cells cur 3 (0, 0)) ∧ l.length ≤ cap ∧ cap ≤ maxLen ∧ cur.size = cap ∧ cur.toList.take l.length = ci l := by
  rcases h.own.own.2 with ⟨h1, h2⟩ | ⟨g, c, cur, h1, hB, h2, h3, h4, h5, h6⟩
  · omega
  · injection h1 with e1 e2 e3
    subst e1 e3
    exact ⟨g, cur, rfl, hB, h2, h3, h4, by omega, by rwa [Nat.mul_one] at h6⟩
theorem OI.cellv (h : OI w B ao cap l) {g j : Nat} (hg : ao = some ⟨g, 0, none⟩) (hj : j < l.length) : w.cell? ⟨g, j, none⟩ = some (.int .i64 (l.getD j 0)) := by
  have := h.rc.xc.cell _ hg j _ (ci_get hj)
  rwa [add_at, Nat.zero_add] at this
theorem OI.put (h : OI w B ao cap l) {g j : Nat} {cur : Array Value} (hg : ao = some ⟨g, 0, none⟩) (hc : w.heap[g]? = some (.cells cur 3 (0, 0))) (hj : j < l.length) (y : Int) (hy : I64 y) (St : Stored w w' g (.cells (splice cur j #[.int .i64 y]) 3 (0, 0))) : OI w' B ao cap (l.set j y) := by
  subst hg
  obtain ⟨g2, cur2, h1, hB, h2, h3, h4, h5, h6⟩ := h.blk (by omega)
  cases h1
  rw [hc] at h2
  cases h2
  have hs : splice cur j #[.int .i64 y] = cur.setIfInBounds j (.int .i64 y) := splice_one _ _ _ (by omega)
  refine ⟨OX.made St.new hB (by rw [List.length_set]; exact h3) h4 ?_ (ci_len _) ?_ (ci_one _), fun x hx => ?_⟩
  · rw [hs]
    simpa using h5
  · rw [hs, List.length_set, Array.toList_setIfInBounds, Nat.mul_one, List.take_set, h6]
    simp [ci, List.map_set]
  · rcases List.mem_or_eq_of_mem_set hx with hx | hx
    · exact h.all x hx
    · exact hx ▸ hy
end
section
variable {o : Oper} {A : Act} {w : World}
theorem run_ixG (x y : Operand) (ho : o.op = .indexAddr 22 x y) {ao : Option Addr} {g : Nat} (hg : ao = some ⟨g, 0, none⟩) (n c j : Nat) (hx : A.eval x = .slice ao n c) (hy : A.eval y = .int .i64 (j : Int)) (hj : j < n) :
    (execOp A.eval o).run Try.prog w = .ok (.value (.pointer (some ⟨g, j, none⟩))) w := by
  subst hg
  exact run_ixB x y ho g n c j hx hy hj
theorem run_ldG (x : Operand) (ho : o.op = .load 3 x) (g j : Nat) (v : Value) (hx : A.eval x = .pointer (some ⟨g, j, none⟩)) (hc : w.cell? ⟨g, j, none⟩ = some v) : (execOp A.eval o).run Try.prog w = .ok (.value v) w := run_ld nI x ho _ hx w v hc
/-- A number and one, as an int. -/
def inc64 (x : Int) : Int := wrap64 (x + 1)
theorem inc64_ok (x : Int) : I64 (inc64 x) := I64.of (wrap64_wf _)
theorem run_inc (x y : Operand) (t2 : TypeId) (ho : o.op = .binOp .add 3 x y t2) (a : Int) (hx : A.eval x = .int .i64 a) (hy : A.eval y = .int .i64 1) : (execOp A.eval o).run Try.prog w = .ok (.value (.int .i64 (inc64 a))) w := by
  refine run_binop .add 3 x y t2 ho _ _ _ hx hy (by simp [eqGuard]) ?_
  have : IntKind.i64.wrap (a + 1) = inc64 a := by
    simp [IntKind.wrap, IntKind.bits, IntKind.signed, inc64, wrap64]
    split <;> omega
  simp [go_sem, this]
end
def ownY (B : Nat) (L : List Int) : PostE := PostE.ex (fun v x => ∃ ao cap, v = .slice ao L.length cap ∧ OY x 3 1 B ao cap L.length (ci L)) (fun _ _ _ G ⟨a, c, h1, h2⟩ => ⟨a, c, h1, h2.gro G⟩)
theorem fill_ownY (B : Nat) (L : List Int) (v : Value) : (ownY B L).fill v = v := rfl
def rowE (B : Nat) : PostE := PostE.ex (fun v x => ∃ ao, v = .slice ao 0 0 ∧ OY x 3 1 B ao 0 0 []) (fun _ _ _ G ⟨a, h1, h2⟩ => ⟨a, h1, h2.gro G⟩)
theorem fill_rowE (B : Nat) (v : Value) : (rowE B).fill v = v := rfl
set_option maxRecDepth 100000 in
set_option maxHeartbeats 4000000 in
theorem trailNew_any (w : World) (ao : Option Addr) (cap : Nat) (l : List Int) (H : RC w ao cap l) : Calls Try.prog 7 #[.slice ao l.length cap] w (fun e w' => e = .returned (.bool true) ∧ Gro w w') := by
  refine s_enter Try.func7 rfl Try.ntmps7 [.slice ao l.length cap] [.slice ao l.length cap, undef, undef, undef, undef, undef, undef, undef, undef, undef, undef, undef, undef, undef, undef, undef, undef, undef, undef, undef, undef, undef, undef, undef, undef, undef, undef, undef, undef, undef, undef, undef, undef, undef, undef, undef, undef, undef, undef, undef, undef, undef, undef, undef, undef, undef, undef, undef, undef, undef, undef, undef, undef, undef, undef, undef, undef, undef, undef, undef, undef, undef, undef, undef, undef] rfl ?_
  have GG := Gro.refl w
  obtain ⟨t, ht⟩ : ∃ t, l.take 100 = t := ⟨_, rfl⟩
  have HT : RC w ao t.length t := ht ▸ H.takeN 100
  have htl : t.length ≤ 100 := by rw [← ht, List.length_take]; omega
  have hel := erz_len t
  refine wp_seq ?_
  refine wp_region_lit ?_
  refine s_val 2 rfl rfl (.bool false) (rfl) ?_
  refine nr ?_; intro U h; simp only [z0, z1] at h; subst h
  refine wpList_nil ?_
  refine then_n ?_
  refine wp_seq ?_
  refine wp_region_lit ?_
  refine s_bsl 10 rfl rfl 22 0 _ rfl [] rfl (ci ([] : List Int)).toArray 3 (bs0  _) ?_
  intro w1 q1 G eq1 kq1
  have bq1 := size_base GG eq1
  replace GG := GG.trans G
  clear G
  have HR1 : RC _ (some ⟨q1, 0, none⟩) ([] : List Int).length ([] : List Int) := RC.blk kq1 (allZ [] trivial) (Nat.le_refl _)
  clear eq1
  refine nr ?_; intro U h; simp only [z0, z1] at h; subst h
  refine s_val 11 rfl rfl (.slice ao l.length cap) (rfl) ?_
  refine nr ?_; intro U h; simp only [z0, z1] at h; subst h
  refine s_callv 12 rfl rfl _ 9 Try.call9 rfl rfl _ rfl [.slice ao l.length cap, .int .i64 100] rfl (Calls.valV (cut_any _ ao cap l (H.gro GG) 100) (by rw [ht])) ?_
  intro w2 G
  replace kq1 := G.has kq1
  replace HR1 := HR1.gro G
  replace GG := GG.trans G
  clear G
  refine nr ?_; intro U h; simp only [z0, z1] at h; subst h
  have HOq : OI _ w.heap.size (some ⟨q1, 0, none⟩) 0 [] := ⟨OX.made kq1 bq1 (Nat.le_refl _) (by decide) rfl rfl rfl (fun _ h => by cases h), fun _ h => by cases h⟩
  refine s_appI 13 rfl rfl _ _ rfl (l := []) rfl HOq rfl (HT.gro GG) (by have h0 : ([] : List Int).length = 0 := rfl; omega) GG.size ?_
  intro aot capt w3 HOt HB
  replace GG := below_gro GG HB (Nat.le_refl _)
  rw [List.nil_append] at HOt
  simp only [List.nil_append]
  clear HOq HB HR1 kq1
  obtain ⟨B1, hB1⟩ : ∃ B1, w3.heap.size = B1 := ⟨_, rfl⟩
  have htB : ∀ ad, aot = some ad → ad.block < B1 := fun ad ha => hB1 ▸ (HOt.own.ge ad ha).2
  have hwB : w.heap.size ≤ B1 := hB1 ▸ GG.size
  refine nr ?_; intro U h; simp only [z0, z1] at h; subst h
  refine s_val 0 rfl rfl (.slice aot t.length capt) (rfl) ?_
  refine nr ?_; intro U h; simp only [z0] at h; subst h
  refine wpList_nil ?_
  refine then_n ?_
  refine wp_seq ?_
  refine wp_region_lit ?_
  refine s_val 14 rfl rfl (.slice aot t.length capt) (rfl) ?_
  refine nr ?_; intro U h; simp only [z0, z1] at h; subst h
  refine s_callx 15 rfl rfl _ 10 Try.call10 rfl rfl _ rfl [.slice aot t.length capt] rfl (erase_any _ aot capt t HOt.rc (by omega)) (by rintro _ _ ⟨_, _, he, _⟩; exact ⟨_, he⟩) ?_
  rintro v w4 ⟨aoa, capa, he, G, HA⟩
  cases he
  rw [hB1] at HA
  have hB1B2 := G.size
  rw [hB1] at hB1B2
  replace HOt := HOt.gro G
  replace GG := GG.trans G
  clear G
  obtain ⟨B2, hB2⟩ : ∃ B2, w4.heap.size = B2 := ⟨_, rfl⟩
  rw [hB2] at hB1B2
  have haoa : ∀ ad, aoa = some ad → ad.block < B2 := fun ad ha => hB2 ▸ (HA.own.ge ad ha).2
  refine nr ?_; intro U h; simp only [z0, z1] at h; subst h
  refine s_val 16 rfl rfl (.slice aot t.length capt) (rfl) ?_
  refine nr ?_; intro U h; simp only [z0, z1] at h; subst h
  refine s_callx 17 rfl rfl _ 11 Try.call11 rfl rfl _ rfl [.slice aot t.length capt] rfl (back_any _ aot capt t HOt.rc (by omega)) (by rintro _ _ ⟨_, _, he, _⟩; exact ⟨_, he⟩) ?_
  rintro v w5 ⟨aok, capk, he, G, HK⟩
  cases he
  rw [hB2] at HK
  have hB2B3 := G.size
  rw [hB2] at hB2B3
  replace HOt := HOt.gro G
  replace HA := HA.gro G
  replace GG := GG.trans G
  clear G
  obtain ⟨B3, hB3⟩ : ∃ B3, w5.heap.size = B3 := ⟨_, rfl⟩
  rw [hB3] at hB2B3
  have haok : ∀ ad, aok = some ad → ad.block < B3 := fun ad ha => hB3 ▸ (HK.own.ge ad ha).2
  refine nr ?_; intro U h; simp only [z0, z1] at h; subst h
  refine s_val 3 rfl rfl (.slice aoa ((erz t).length) capa) (rfl) ?_
  refine nr ?_; intro U h; simp only [z0, z1] at h; subst h
  refine s_val 4 rfl rfl (.slice aok ((t.reverse).length) capk) (rfl) ?_
  refine nr ?_; intro U h; simp only [z0, z1] at h; subst h
  refine wpList_nil ?_
  refine then_n ?_
  refine wp_seq ?_
  refine wp_region_lit ?_
  have GSZc := Nat.le_of_eq hB3.symm
  refine s_bsl 18 rfl rfl 22 0 _ rfl [] rfl (ci []).toArray 3 (bs0 _) ?_
  intro w6 qc Gqc eqc kqc
  refine nr ?_; intro U h; simp only [z0, z1] at h; subst h
  refine s_val 19 rfl rfl (.slice aoa ((erz t).length) capa) (rfl) ?_
  refine nr ?_; intro U h; simp only [z0, z1] at h; subst h
  have HOc : OI _ qc (some ⟨qc, 0, none⟩) 0 [] := ⟨OX.made kqc (Nat.le_refl _) (Nat.le_refl _) (by decide) rfl rfl rfl (fun _ h => by cases h), fun _ h => by cases h⟩
  refine s_appI 20 rfl rfl _ _ rfl (l := []) rfl HOc rfl (HA.rc.gro Gqc) (by have h0 : ([] : List Int).length = 0 := rfl; have h1 : (erz t).length ≤ 1000000 := (by have := erz_len t; omega); omega) (Nat.le_of_lt (lt_of_heap kqc)) ?_
  intro aoc capc w7 HOc2 HBc
  have Gc := below_gro Gqc HBc (Nat.le_of_eq eqc)
  rw [List.nil_append] at HOc2
  simp only [List.nil_append]
  replace HOt := HOt.gro Gc
  replace HA := HA.gro Gc
  replace HK := HK.gro Gc
  replace GG := GG.trans Gc
  have HRc := HOc2.rc
  refine nr ?_; intro U h; simp only [z0, z1] at h; subst h
  clear HRc
  replace HOc2 := HOc2.mono (show B2 ≤ qc by have := Gqc.size; have := GSZc; omega)
  have GSZd := Nat.le_trans (Nat.le_of_eq hB3.symm) Gc.size
  refine s_bsl 21 rfl rfl 22 0 _ rfl [] rfl (ci []).toArray 3 (bs0 _) ?_
  intro w8 qd Gqd eqd kqd
  refine nr ?_; intro U h; simp only [z0, z1] at h; subst h
  refine s_val 22 rfl rfl (.slice aok ((t.reverse).length) capk) (rfl) ?_
  refine nr ?_; intro U h; simp only [z0, z1] at h; subst h
  have HOd : OI _ qd (some ⟨qd, 0, none⟩) 0 [] := ⟨OX.made kqd (Nat.le_refl _) (Nat.le_refl _) (by decide) rfl rfl rfl (fun _ h => by cases h), fun _ h => by cases h⟩
  refine s_appI 23 rfl rfl _ _ rfl (l := []) rfl HOd rfl (HK.rc.gro Gqd) (by have h0 : ([] : List Int).length = 0 := rfl; have h1 : (t.reverse).length ≤ 1000000 := (by simp only [List.length_reverse]; omega); omega) (Nat.le_of_lt (lt_of_heap kqd)) ?_
  intro aod capd w9 HOd2 HBd
  have Gd := below_gro Gqd HBd (Nat.le_of_eq eqd)
  rw [List.nil_append] at HOd2
  simp only [List.nil_append]
  replace HOt := HOt.gro Gd
  replace HA := HA.gro Gd
  replace HK := HK.gro Gd
  replace HOc2 := HOc2.gro Gd
  replace GG := GG.trans Gd
  have HRd := HOd2.rc
  refine nr ?_; intro U h; simp only [z0, z1] at h; subst h
  clear HRd
  replace HOd2 := HOd2.mono (show B2 ≤ qd by have := Gqd.size; have := GSZd; omega)
  refine s_val 5 rfl rfl (.slice aoc ((erz t).length) capc) (rfl) ?_
  refine nr ?_; intro U h; simp only [z0, z1] at h; subst h
  refine s_val 6 rfl rfl (.slice aod ((t.reverse).length) capd) (rfl) ?_
  refine nr ?_; intro U h; simp only [z0, z1] at h; subst h
  refine wpList_nil ?_
  refine then_n ?_
  refine wp_seq ?_
  refine wp_seq ?_
  refine wp_region_lit ?_
  refine s_val 24 rfl rfl (.slice aot t.length capt) (rfl) ?_
  refine nr ?_; intro U h; simp only [z0, z1] at h; subst h
  refine s_val 25 rfl rfl (.int .i64 ((t.length : Nat) : Int)) (run_len Try.underlying22 _ rfl _ _ _ rfl _) ?_
  refine nr ?_; intro U h; simp only [z0, z1] at h; subst h
  refine s_val 26 rfl rfl (.int .i64 0) (rfl) ?_
  refine nr ?_; intro U h; simp only [z0, z1] at h; subst h
  refine wpList_nil ?_
  refine then_n ?_
  refine wp_block ?_
  refine wp_loopN (fun mz az wv => ∃ (i : Nat) (lt : List Int) (us1 : Nat → Value), mz = t.length - i ∧ az = ⟨[.slice aot t.length capt, undef, .bool false, .slice aoa ((erz t).length) capa, .slice aok ((t.reverse).length) capk, .slice aoc ((erz t).length) capc, .slice aod ((t.reverse).length) capd, us1 0, undef, undef, .slice (some ⟨q1, 0, none⟩) (([] : List Int).length) (([] : List Int).length), .slice ao l.length cap, .slice ao t.length t.length, .slice aot t.length capt, .slice aot t.length capt, .slice aoa ((erz t).length) capa, .slice aot t.length capt, .slice aok ((t.reverse).length) capk, .slice (some ⟨qc, 0, none⟩) 0 0, .slice aoa ((erz t).length) capa, .slice aoc ((erz t).length) capc, .slice (some ⟨qd, 0, none⟩) 0 0, .slice aok ((t.reverse).length) capk, .slice aod ((t.reverse).length) capd, .slice aot t.length capt, .int .i64 ((t.length : Nat) : Int), .int .i64 ((i : Nat) : Int), us1 1, us1 2, us1 3, us1 4, us1 5, us1 6, us1 7, us1 8, us1 9, undef, undef, undef, undef, undef, undef, undef, undef, undef, undef, undef, undef, undef, undef, undef, undef, undef, undef, undef, undef, undef, undef, undef, undef, undef, undef, undef, undef, undef].toArray, []⟩ ∧ i ≤ t.length ∧ lt.length = t.length ∧ Gro w wv ∧ OI wv w.heap.size aot capt lt ∧ OI wv B1 aoa capa (erz t) ∧ OI wv B2 aok capk (t.reverse) ∧ OI wv B2 aoc capc (erz t) ∧ OI wv B2 aod capd (t.reverse)) ?_ _ ⟨0, t, (fun kz => ([undef, undef, undef, undef, undef, undef, undef, undef, undef, undef] : List Value).getD kz undef), rfl, rfl, Nat.zero_le _, rfl, GG, HOt, HA, HK, HOc2, HOd2⟩
  clear GG HOt HA HK HOc2 HOd2
  rintro mz az wv ⟨i, lt, us1, rfl, rfl, hi, hllt, GG, HOt, HA, HK, HOc2, HOd2⟩
  refine wp_seq ?_
  refine wp_region_lit ?_
  cases hi1 : decide (((i : Nat) : Int) < ((t.length : Nat) : Int))
  · have hie : i = t.length := by have := of_decide_eq_false hi1; omega
    refine s_val 27 rfl rfl (.bool false) (run_lssT 3 _ _ _ rfl ((i : Nat) : Int) ((t.length : Nat) : Int) rfl rfl false hi1 _) ?_
    refine nr ?_; intro U h; simp only [z0, z1] at h; subst h
    refine wpList_nil ?_
    refine then_n ?_
    refine wp_seq ?_
    refine wp_cond_false rfl ?_
    refine wp_exit ?_
    refine then_x ?_
    refine then_x ?_
    refine blk_x ?_
    refine then_n ?_
    refine wp_seq ?_
    refine wp_region_opq ?_
    intro OPS hY
    have y3 := hY 3 39 rfl
    clear hY
    refine s_val 36 rfl rfl (.slice aoa ((erz t).length) capa) (rfl) ?_
    refine nr ?_; intro U h; simp only [z0, z1] at h; subst h
    refine s_val 37 rfl rfl (.slice aoc ((erz t).length) capc) (rfl) ?_
    refine nr ?_; intro U h; simp only [z0, z1] at h; subst h
    refine s_callv 38 rfl rfl _ 13 Try.call13 rfl rfl _ rfl [.slice aoa ((erz t).length) capa, .slice aoc ((erz t).length) capc] rfl (Calls.bool (same_any _ aoa capa (erz t) (HA.rc) (by have := erz_len t; omega) aoc capc (erz t) (HOc2.rc) (by have := erz_len t; omega)) (decide_eq_true (rfl))) ?_
    intro w10 G
    replace HOt := HOt.gro G
    replace HA := HA.gro G
    replace HK := HK.gro G
    replace HOc2 := HOc2.gro G
    replace HOd2 := HOd2.gro G
    replace GG := GG.trans G
    clear G
    refine nr ?_; intro U h; simp only [z0, z1] at h; subst h
    refine s_val 39 rfl rfl (.bool true) (rfl) ?_
    refine nr ?_; intro U h; simp only [z0, z1] at h; subst h
    refine s_gvalY 40 rfl rfl y3 rfl (.slice aok ((t.reverse).length) capk) (rfl) ?_
    refine nr ?_; intro U h; simp only [z0, z1] at h; subst h
    refine s_gvalY 41 rfl rfl y3 rfl (.slice aod ((t.reverse).length) capd) (rfl) ?_
    refine nr ?_; intro U h; simp only [z0, z1] at h; subst h
    refine s_gcallvY 42 rfl rfl y3 rfl _ 13 Try.call13 rfl rfl _ rfl [.slice aok ((t.reverse).length) capk, .slice aod ((t.reverse).length) capd] rfl (Calls.bool (same_any _ aok capk (t.reverse) (HK.rc) (by simp only [List.length_reverse]; omega) aod capd (t.reverse) (HOd2.rc) (by simp only [List.length_reverse]; omega)) (decide_eq_true (rfl))) ?_
    intro w11 G
    replace HOt := HOt.gro G
    replace HA := HA.gro G
    replace HK := HK.gro G
    replace HOc2 := HOc2.gro G
    replace HOd2 := HOd2.gro G
    replace GG := GG.trans G
    clear G
    refine nr ?_; intro U h; simp only [z0, z1] at h; subst h
    refine s_val 43 rfl rfl (.bool true) (rfl) ?_
    refine nr ?_; intro U h; simp only [z0, z1] at h; subst h
    refine s_val 8 rfl rfl (.bool true) (rfl) ?_
    refine nr ?_; intro U h; simp only [z0, z1] at h; subst h
    refine wpList_nil ?_
    refine then_n ?_
    refine wp_seq ?_
    refine wp_seq ?_
    refine wp_region_lit ?_
    refine s_val 44 rfl rfl (.slice aoa ((erz t).length) capa) (rfl) ?_
    refine nr ?_; intro U h; simp only [z0, z1] at h; subst h
    refine s_val 45 rfl rfl (.int .i64 (((erz t).length : Nat) : Int)) (run_len Try.underlying22 _ rfl _ _ _ rfl _) ?_
    refine nr ?_; intro U h; simp only [z0, z1] at h; subst h
    refine s_val 46 rfl rfl (.int .i64 0) (rfl) ?_
    refine nr ?_; intro U h; simp only [z0, z1] at h; subst h
    refine wpList_nil ?_
    refine then_n ?_
    refine wp_block ?_
    refine wp_loopN (fun mz az wv => ∃ (j : Nat) (la : List Int) (us2 : Nat → Value), mz = (erz t).length - j ∧ az = ⟨[.slice aot t.length capt, undef, .bool false, .slice aoa ((erz t).length) capa, .slice aok ((t.reverse).length) capk, .slice aoc ((erz t).length) capc, .slice aod ((t.reverse).length) capd, us1 0, .bool true, us2 0, .slice (some ⟨q1, 0, none⟩) (([] : List Int).length) (([] : List Int).length), .slice ao l.length cap, .slice ao t.length t.length, .slice aot t.length capt, .slice aot t.length capt, .slice aoa ((erz t).length) capa, .slice aot t.length capt, .slice aok ((t.reverse).length) capk, .slice (some ⟨qc, 0, none⟩) 0 0, .slice aoa ((erz t).length) capa, .slice aoc ((erz t).length) capc, .slice (some ⟨qd, 0, none⟩) 0 0, .slice aok ((t.reverse).length) capk, .slice aod ((t.reverse).length) capd, .slice aot t.length capt, .int .i64 ((t.length : Nat) : Int), .int .i64 ((i : Nat) : Int), .bool false, us1 2, us1 3, us1 4, us1 5, us1 6, us1 7, us1 8, us1 9, .slice aoa ((erz t).length) capa, .slice aoc ((erz t).length) capc, .bool true, .bool true, .slice aok ((t.reverse).length) capk, .slice aod ((t.reverse).length) capd, .bool true, .bool true, .slice aoa ((erz t).length) capa, .int .i64 (((erz t).length : Nat) : Int), .int .i64 ((j : Nat) : Int), us2 1, us2 2, us2 3, us2 4, us2 5, us2 6, us2 7, us2 8, us2 9, undef, undef, undef, undef, undef, undef, undef, undef, undef].toArray, []⟩ ∧ j ≤ (erz t).length ∧ la.length = (erz t).length ∧ Gro w wv ∧ OI wv B1 aoa capa la ∧ OI wv B2 aok capk (t.reverse) ∧ OI wv B2 aod capd (t.reverse)) ?_ _ ⟨0, (erz t), (fun kz => ([undef, undef, undef, undef, undef, undef, undef, undef, undef, undef] : List Value).getD kz undef), rfl, rfl, Nat.zero_le _, rfl, GG, HA, HK, HOd2⟩
    clear GG HA HK HOd2
    rintro mz az wv ⟨j, la, us2, rfl, rfl, hj, hlla, GG, HA, HK, HOd2⟩
    refine wp_seq ?_
    refine wp_region_lit ?_
    cases hj1 : decide (((j : Nat) : Int) < (((erz t).length : Nat) : Int))
    · have hje : j = (erz t).length := by have := of_decide_eq_false hj1; omega
      refine s_val 47 rfl rfl (.bool false) (run_lssT 3 _ _ _ rfl ((j : Nat) : Int) (((erz t).length : Nat) : Int) rfl rfl false hj1 _) ?_
      refine nr ?_; intro U h; simp only [z0, z1] at h; subst h
      refine wpList_nil ?_
      refine then_n ?_
      refine wp_seq ?_
      refine wp_cond_false rfl ?_
      refine wp_exit ?_
      refine then_x ?_
      refine then_x ?_
      refine blk_x ?_
      refine then_n ?_
      refine wp_seq ?_
      refine wp_region_opq ?_
      intro OPS hY
      have y1 := hY 1 57 rfl
      have y4 := hY 4 60 rfl
      clear hY
      refine s_callv 56 rfl rfl _ 12 Try.call12 rfl rfl _ rfl [] rfl (fixed_any _) ?_
      intro w12 G
      replace HA := HA.gro G
      replace HK := HK.gro G
      replace HOd2 := HOd2.gro G
      replace GG := GG.trans G
      clear G
      refine nr ?_; intro U h; simp only [z0, z1] at h; subst h
      refine s_val 57 rfl rfl (.bool true) (rfl) ?_
      refine nr ?_; intro U h; simp only [z0, z1] at h; subst h
      refine s_gvalY 58 rfl rfl y1 rfl (.bool true) (rfl) ?_
      refine nr ?_; intro U h; simp only [z0, z1] at h; subst h
      refine s_val 59 rfl rfl (.bool true) (rfl) ?_
      refine nr ?_; intro U h; simp only [z0, z1] at h; subst h
      refine s_val 60 rfl rfl (.bool true) (rfl) ?_
      refine nr ?_; intro U h; simp only [z0, z1] at h; subst h
      refine s_gvalY 61 rfl rfl y4 rfl (.slice aok ((t.reverse).length) capk) (rfl) ?_
      refine nr ?_; intro U h; simp only [z0, z1] at h; subst h
      refine s_gvalY 62 rfl rfl y4 rfl (.slice aod ((t.reverse).length) capd) (rfl) ?_
      refine nr ?_; intro U h; simp only [z0, z1] at h; subst h
      refine s_gcallvY 63 rfl rfl y4 rfl _ 13 Try.call13 rfl rfl _ rfl [.slice aok ((t.reverse).length) capk, .slice aod ((t.reverse).length) capd] rfl (Calls.bool (same_any _ aok capk (t.reverse) (HK.rc) (by simp only [List.length_reverse]; omega) aod capd (t.reverse) (HOd2.rc) (by simp only [List.length_reverse]; omega)) (decide_eq_true (rfl))) ?_
      intro w13 G
      replace HA := HA.gro G
      replace HK := HK.gro G
      replace HOd2 := HOd2.gro G
      replace GG := GG.trans G
      clear G
      refine nr ?_; intro U h; simp only [z0, z1] at h; subst h
      refine s_val 64 rfl rfl (.bool true) (rfl) ?_
      refine nr ?_; intro U h; simp only [z0, z1] at h; subst h
      refine s_val 2 rfl rfl (.bool true) (rfl) ?_
      refine nr ?_; intro U h; simp only [z0, z1] at h; subst h
      refine wpList_nil ?_
      refine then_n ?_
      refine wp_ret ?_
      refine bodyPost_ret (results_tmp Try.results7 _ _ _) rfl ?_
      exact ⟨rfl, GG⟩
    · have hjl : j < (erz t).length := by have := of_decide_eq_true hj1; omega
      refine s_val 47 rfl rfl (.bool true) (run_lssT 3 _ _ _ rfl ((j : Nat) : Int) (((erz t).length : Nat) : Int) rfl rfl true hj1 _) ?_
      refine nr ?_; intro U h; simp only [z0, z1] at h; subst h
      refine wpList_nil ?_
      refine then_n ?_
      refine wp_seq ?_
      refine wp_cond_true rfl ?_
      refine wp_skip ?_
      refine then_n ?_
      refine wp_seq ?_
      refine wp_block ?_
      refine wp_seq ?_
      refine wp_region_lit ?_
      refine s_val 48 rfl rfl (.int .i64 ((j : Nat) : Int)) (rfl) ?_
      refine nr ?_; intro U h; simp only [z0, z1] at h; subst h
      refine s_val 9 rfl rfl (.int .i64 ((j : Nat) : Int)) (rfl) ?_
      refine nr ?_; intro U h; simp only [z0, z1] at h; subst h
      refine wpList_nil ?_
      refine then_n ?_
      refine wp_region_lit ?_
      refine s_val 49 rfl rfl (.slice aoa ((erz t).length) capa) (rfl) ?_
      refine nr ?_; intro U h; simp only [z0, z1] at h; subst h
      refine s_val 50 rfl rfl (.int .i64 ((j : Nat) : Int)) (rfl) ?_
      refine nr ?_; intro U h; simp only [z0, z1] at h; subst h
      obtain ⟨g, cur, hg, hgB, kg, _, _, hcs, _⟩ := HA.blk (by omega)
      refine s_val 51 rfl rfl (.pointer (some ⟨g, j, none⟩)) (run_ixG _ _ rfl hg _ _ j rfl rfl hjl) ?_
      refine nr ?_; intro U h; simp only [z0, z1] at h; subst h
      refine s_val 52 rfl rfl (.int .i64 (la.getD j 0)) (run_ldG _ rfl g j _ rfl (HA.cellv hg (by omega))) ?_
      refine nr ?_; intro U h; simp only [z0, z1] at h; subst h
      refine s_val 53 rfl rfl (.int .i64 (inc64 (la.getD j 0))) (run_inc _ _ _ rfl (la.getD j 0) rfl rfl) ?_
      refine nr ?_; intro U h; simp only [z0, z1] at h; subst h
      refine s_val 54 rfl rfl (.pointer (some ⟨g, j, none⟩)) (run_ixG _ _ rfl hg _ _ j rfl rfl hjl) ?_
      refine nr ?_; intro U h; simp only [z0, z1] at h; subst h
      refine s_store rfl rfl 3 _ _ rfl g j rfl (.int .i64 (inc64 (la.getD j 0))) rfl 3 _ kg #[.int .i64 (inc64 (la.getD j 0))] rfl si3 (by have := HA.rc.fit; show j + 1 ≤ _; omega) (i_one _) _ rfl ?_
      intro w12 St
      have hgu : g < B2 := haoa _ hg
      replace HK := HK.apart St (by omega)
      replace HOd2 := HOd2.apart St (by omega)
      replace GG := GG.store St (by omega)
      replace HA := HA.put hg kg (by omega) _ (inc64_ok _) St
      clear St kg hcs
      refine wpList_nil ?_
      refine blk_n ?_
      refine then_n ?_
      refine wp_region_lit ?_
      refine s_val 55 rfl rfl (.int .i64 ((j + 1 : Nat) : Int)) (run_addI 3 _ _ _ rfl ((j : Nat) : Int) 1 ((j + 1 : Nat) : Int) rfl rfl (by omega) (by omega) (by omega) _) ?_
      refine nr ?_; intro U h; simp only [z0, z1] at h; subst h
      refine s_val 46 rfl rfl (.int .i64 ((j + 1 : Nat) : Int)) (rfl) ?_
      refine nr ?_; intro U h; simp only [z0, z1] at h; subst h
      refine wpList_nil ?_
      refine then_n ?_
      exact ⟨_, (by omega : (erz t).length - (j + 1) < (erz t).length - j), j + 1, la.set j (inc64 (la.getD j 0)), (fun kz => ([.int .i64 ((j : Nat) : Int), .bool true, .int .i64 ((j : Nat) : Int), .slice aoa ((erz t).length) capa, .int .i64 ((j : Nat) : Int), .pointer (some ⟨g, j, none⟩), .int .i64 (la.getD j 0), .int .i64 (inc64 (la.getD j 0)), .pointer (some ⟨g, j, none⟩), .int .i64 ((j + 1 : Nat) : Int)] : List Value).getD kz undef), rfl, rfl, hjl, (by rw [List.length_set]; exact hlla), GG, HA, HK, HOd2⟩
  · have hil : i < t.length := by have := of_decide_eq_true hi1; omega
    refine s_val 27 rfl rfl (.bool true) (run_lssT 3 _ _ _ rfl ((i : Nat) : Int) ((t.length : Nat) : Int) rfl rfl true hi1 _) ?_
    refine nr ?_; intro U h; simp only [z0, z1] at h; subst h
    refine wpList_nil ?_
    refine then_n ?_
    refine wp_seq ?_
    refine wp_cond_true rfl ?_
    refine wp_skip ?_
    refine then_n ?_
    refine wp_seq ?_
    refine wp_block ?_
    refine wp_seq ?_
    refine wp_region_lit ?_
    refine s_val 28 rfl rfl (.int .i64 ((i : Nat) : Int)) (rfl) ?_
    refine nr ?_; intro U h; simp only [z0, z1] at h; subst h
    refine s_val 7 rfl rfl (.int .i64 ((i : Nat) : Int)) (rfl) ?_
    refine nr ?_; intro U h; simp only [z0, z1] at h; subst h
    refine wpList_nil ?_
    refine then_n ?_
    refine wp_region_lit ?_
    refine s_val 29 rfl rfl (.slice aot t.length capt) (rfl) ?_
    refine nr ?_; intro U h; simp only [z0, z1] at h; subst h
    refine s_val 30 rfl rfl (.int .i64 ((i : Nat) : Int)) (rfl) ?_
    refine nr ?_; intro U h; simp only [z0, z1] at h; subst h
    obtain ⟨g, cur, hg, hgB, kg, _, _, hcs, _⟩ := HOt.blk (by omega)
    refine s_val 31 rfl rfl (.pointer (some ⟨g, i, none⟩)) (run_ixG _ _ rfl hg _ _ i rfl rfl hil) ?_
    refine nr ?_; intro U h; simp only [z0, z1] at h; subst h
    refine s_val 32 rfl rfl (.int .i64 (lt.getD i 0)) (run_ldG _ rfl g i _ rfl (HOt.cellv hg (by omega))) ?_
    refine nr ?_; intro U h; simp only [z0, z1] at h; subst h
    refine s_val 33 rfl rfl (.int .i64 (inc64 (lt.getD i 0))) (run_inc _ _ _ rfl (lt.getD i 0) rfl rfl) ?_
    refine nr ?_; intro U h; simp only [z0, z1] at h; subst h
    refine s_val 34 rfl rfl (.pointer (some ⟨g, i, none⟩)) (run_ixG _ _ rfl hg _ _ i rfl rfl hil) ?_
    refine nr ?_; intro U h; simp only [z0, z1] at h; subst h
    refine s_store rfl rfl 3 _ _ rfl g i rfl (.int .i64 (inc64 (lt.getD i 0))) rfl 3 _ kg #[.int .i64 (inc64 (lt.getD i 0))] rfl si3 (by have := HOt.rc.fit; show i + 1 ≤ _; omega) (i_one _) _ rfl ?_
    intro w10 St
    have hgu : g < B1 := htB _ hg
    replace HA := HA.apart St (by omega)
    replace HK := HK.apart St (by omega)
    replace HOc2 := HOc2.apart St (by omega)
    replace HOd2 := HOd2.apart St (by omega)
    replace GG := GG.store St (by omega)
    replace HOt := HOt.put hg kg (by omega) _ (inc64_ok _) St
    clear St kg hcs
    refine wpList_nil ?_
    refine blk_n ?_
    refine then_n ?_
    refine wp_region_lit ?_
    refine s_val 35 rfl rfl (.int .i64 ((i + 1 : Nat) : Int)) (run_addI 3 _ _ _ rfl ((i : Nat) : Int) 1 ((i + 1 : Nat) : Int) rfl rfl (by omega) (by omega) (by omega) _) ?_
    refine nr ?_; intro U h; simp only [z0, z1] at h; subst h
    refine s_val 26 rfl rfl (.int .i64 ((i + 1 : Nat) : Int)) (rfl) ?_
    refine nr ?_; intro U h; simp only [z0, z1] at h; subst h
    refine wpList_nil ?_
    refine then_n ?_
    exact ⟨_, (by omega : t.length - (i + 1) < t.length - i), i + 1, lt.set i (inc64 (lt.getD i 0)), (fun kz => ([.int .i64 ((i : Nat) : Int), .bool true, .int .i64 ((i : Nat) : Int), .slice aot t.length capt, .int .i64 ((i : Nat) : Int), .pointer (some ⟨g, i, none⟩), .int .i64 (lt.getD i 0), .int .i64 (inc64 (lt.getD i 0)), .pointer (some ⟨g, i, none⟩), .int .i64 ((i + 1 : Nat) : Int)] : List Value).getD kz undef), rfl, rfl, hil, (by rw [List.length_set]; exact hllt), GG, HOt, HA, HK, HOc2, HOd2⟩
set_option maxRecDepth 100000 in
set_option maxHeartbeats 4000000 in
theorem trailBoth_any (w : World) (ao : Option Addr) (cap : Nat) (l : List Int) (H : RC w ao cap l) (bo : Option Addr) (bap : Nat) (m : List Int) (HM : RC w bo bap m) : Calls Try.prog 8 #[.slice ao l.length cap, .slice bo m.length bap] w (fun e w' => e = .returned (.bool true) ∧ Gro w w') := by
  refine s_enter Try.func8 rfl Try.ntmps8 [.slice ao l.length cap, .slice bo m.length bap] [.slice ao l.length cap, .slice bo m.length bap, undef, undef, undef, undef, undef, undef, undef, undef, undef, undef, undef, undef, undef, undef, undef, undef, undef, undef, undef, undef, undef, undef, undef, undef, undef, undef, undef, undef, undef, undef, undef, undef, undef, undef, undef, undef, undef, undef, undef, undef, undef, undef, undef, undef, undef, undef, undef, undef, undef, undef, undef, undef, undef, undef, undef, undef, undef, undef, undef, undef, undef, undef, undef, undef, undef, undef, undef, undef, undef, undef, undef, undef, undef, undef, undef, undef, undef, undef, undef, undef, undef, undef, undef, undef, undef, undef, undef, undef, undef, undef, undef, undef, undef, undef, undef, undef, undef, undef, undef, undef, undef, undef, undef] rfl ?_
  have GG := Gro.refl w
  obtain ⟨t, ht⟩ : ∃ t, l.take 50 = t := ⟨_, rfl⟩
  have HT : RC w ao t.length t := ht ▸ H.takeN 50
  have htl : t.length ≤ 50 := by rw [← ht, List.length_take]; omega
  obtain ⟨s, hs⟩ : ∃ s, m.take 50 = s := ⟨_, rfl⟩
  have HS : RC w bo s.length s := hs ▸ HM.takeN 50
  have hsl : s.length ≤ 50 := by rw [← hs, List.length_take]; omega
  refine wp_seq ?_
  refine wp_region_lit ?_
  refine s_val 4 rfl rfl (.bool false) (rfl) ?_
  refine nr ?_; intro U h; simp only [z0, z1] at h; subst h
  refine wpList_nil ?_
  refine then_n ?_
  refine wp_seq ?_
  refine wp_region_lit ?_
  refine s_val 8 rfl rfl (.slice ao l.length cap) (rfl) ?_
  refine nr ?_; intro U h; simp only [z0, z1] at h; subst h
  refine s_callv 9 rfl rfl _ 9 Try.call9 rfl rfl _ rfl [.slice ao l.length cap, .int .i64 50] rfl (Calls.valV (cut_any _ ao cap l (H.gro GG) 50) (by rw [ht])) ?_
  intro w1 G
  replace GG := GG.trans G
  clear G
  refine nr ?_; intro U h; simp only [z0, z1] at h; subst h
  refine s_val 10 rfl rfl (.slice bo m.length bap) (rfl) ?_
  refine nr ?_; intro U h; simp only [z0, z1] at h; subst h
  refine s_callv 11 rfl rfl _ 9 Try.call9 rfl rfl _ rfl [.slice bo m.length bap, .int .i64 50] rfl (Calls.valV (cut_any _ bo bap m (HM.gro GG) 50) (by rw [hs])) ?_
  intro w2 G
  replace GG := GG.trans G
  clear G
  refine nr ?_; intro U h; simp only [z0, z1] at h; subst h
  refine s_val 0 rfl rfl (.slice ao t.length t.length) (rfl) ?_
  refine nr ?_; intro U h; simp only [z0] at h; subst h
  refine s_val 1 rfl rfl (.slice bo s.length s.length) (rfl) ?_
  refine nr ?_; intro U h; simp only [z0, z1] at h; subst h
  refine wpList_nil ?_
  refine then_n ?_
  refine wp_seq ?_
  refine wp_seq ?_
  cases ha0 : decide (((t.length : Nat) : Int) = 0)
  · have hta : 0 < t.length := by have := of_decide_eq_false ha0; omega
    cases hb0 : decide (((s.length : Nat) : Int) = 0)
    · have hsa : 0 < s.length := by have := of_decide_eq_false hb0; omega
      cases hab : decide ((t.getD (t.length - 1) 0) = (s.getD 0 0))
      · refine wp_region_exA (A := ?Ax2) 19 [(0, 12), (1, 13), (2, 14), (3, 15), (4, 16), (5, 17), (6, 18), (7, 19), (8, 20), (9, 21), (10, 22), (11, 23), (12, 24), (13, 25), (14, 26), (15, 27), (16, 28), (17, 29), (18, 30)] [.val (.slice ao t.length t.length), .val (.int .i64 ((t.length : Nat) : Int)), .val (.bool false), .val (.bool false), .val (.slice bo s.length s.length), .val (.int .i64 ((s.length : Nat) : Int)), .val (.bool false), .val (.bool false), .val (.bool false), .val (.slice ao t.length t.length), .val (.slice ao t.length t.length), .val (.int .i64 ((t.length : Nat) : Int)), .val (.int .i64 ((t.length - 1 : Nat) : Int)), .val (.pointer (pA ao (t.length - 1))), .val (.int .i64 (t.getD (t.length - 1) 0)), .val (.slice bo s.length s.length), .val (.pointer (pA bo 0)), .val (.int .i64 (s.getD 0 0)), .val (.bool true)] follows (by kernel_rfl) rfl ?hAx2 (opsA_cons ?o0x2 (opsA_cons ?o1x2 (opsA_cons ?o2x2 (opsA_cons ?o3x2 (opsA_cons ?o4x2 (opsA_cons ?o5x2 (opsA_cons ?o6x2 (opsA_cons ?o7x2 (opsA_cons ?o8x2 (opsA_cons ?o9x2 (opsA_cons ?o10x2 (opsA_cons ?o11x2 (opsA_cons ?o12x2 (opsA_cons ?o13x2 (opsA_cons ?o14x2 (opsA_cons ?o15x2 (opsA_cons ?o16x2 (opsA_cons ?o17x2 (opsA_cons ?o18x2 opsA_nil))))))))))))))))))) ?restx2
        case hAx2 =>
          intro ptrs
          simp only [full, foldSlots, filledE, postE, List.foldl_cons, List.foldl_nil, List.getD_cons_zero, List.getD_cons_succ, fill_val, List.set_cons_zero, List.set_cons_succ]
          exact rfl
        case o0x2 => exact fun _ _ _ _ => opE_move (v := .slice ao t.length t.length) _ rfl rfl rfl
        case o1x2 => exact fun _ _ _ _ => opE_value (v := .int .i64 ((t.length : Nat) : Int)) rfl (run_len Try.underlying22 _ rfl _ _ _ rfl _)
        case o2x2 => exact fun _ _ _ _ => opE_value (v := .bool false) rfl (run_eq_k 3 .i64 _ _ _ rfl Try.underlying3 ((t.length : Nat) : Int) 0 rfl rfl false ha0 _)
        case o3x2 => exact fun _ _ _ _ => opE_move (v := .bool false) _ rfl rfl rfl
        case o4x2 => exact fun _ _ _ _ => opE_move (v := .slice bo s.length s.length) _ rfl rfl rfl
        case o5x2 => exact fun _ _ _ _ => opE_value (v := .int .i64 ((s.length : Nat) : Int)) rfl (run_len Try.underlying22 _ rfl _ _ _ rfl _)
        case o6x2 => exact fun _ _ _ _ => opE_value (v := .bool false) rfl (run_eq_k 3 .i64 _ _ _ rfl Try.underlying3 ((s.length : Nat) : Int) 0 rfl rfl false hb0 _)
        case o7x2 => exact fun _ _ _ _ => opE_pick (v := .bool false) _ _ _ rfl rfl false rfl rfl
        case o8x2 => exact fun _ _ _ _ => opE_move (v := .bool false) _ rfl rfl rfl
        case o9x2 => exact fun _ _ _ _ => opE_move (v := .slice ao t.length t.length) _ rfl rfl rfl
        case o10x2 => exact fun _ _ _ _ => opE_move (v := .slice ao t.length t.length) _ rfl rfl rfl
        case o11x2 => exact fun _ _ _ _ => opE_value (v := .int .i64 ((t.length : Nat) : Int)) rfl (run_len Try.underlying22 _ rfl _ _ _ rfl _)
        case o12x2 => exact fun _ _ _ _ => opE_value (v := .int .i64 ((t.length - 1 : Nat) : Int)) rfl (run_subI 3 _ _ _ rfl ((t.length : Nat) : Int) 1 ((t.length - 1 : Nat) : Int) rfl rfl (by omega) (by omega) (by omega) _)
        case o13x2 => exact fun _ _ hw _ => opE_value (v := .pointer (pA ao (t.length - 1))) rfl (run_ixI (HT.gro (GG.drew.trans hw)) _ _ rfl rfl (t.length - 1) rfl (by omega))
        case o14x2 => exact fun _ _ hw _ => opE_value (v := .int .i64 (t.getD (t.length - 1) 0)) rfl (run_ldI (HT.gro (GG.drew.trans hw)) _ rfl (t.length - 1) rfl (by omega))
        case o15x2 => exact fun _ _ _ _ => opE_move (v := .slice bo s.length s.length) _ rfl rfl rfl
        case o16x2 => exact fun _ _ hw _ => opE_value (v := .pointer (pA bo 0)) rfl (run_ixI (HS.gro (GG.drew.trans hw)) _ _ rfl rfl 0 rfl (by omega))
        case o17x2 => exact fun _ _ hw _ => opE_value (v := .int .i64 (s.getD 0 0)) rfl (run_ldI (HS.gro (GG.drew.trans hw)) _ rfl 0 rfl (by omega))
        case o18x2 => exact fun _ _ _ _ => opE_value (v := .bool true) rfl (run_neq_k 3 .i64 _ _ _ rfl Try.underlying3 (t.getD (t.length - 1) 0) (s.getD 0 0) rfl rfl true hab _)
        intro ptrs w3 GD hxE
        simp only [List.drop_succ_cons, List.drop_zero]
        replace GG := GG.drew.trans GD
        clear GD
        refine s_val 31 rfl rfl (.bool true) (rfl) ?_
        refine nr ?_; intro U h; simp only [z0, z1] at h; subst h
        refine wpList_nil ?_
        refine then_n ?_
        refine wp_cond_true rfl ?_
        refine wp_seq ?_
        refine wp_region_lit ?_
        refine s_callv 32 rfl rfl _ 12 Try.call12 rfl rfl _ rfl [] rfl (fixed_any _) ?_
        intro w4 G
        replace GG := GG.trans G
        clear G
        refine nr ?_; intro U h; simp only [z0, z1] at h; subst h
        refine s_val 4 rfl rfl (.bool true) (rfl) ?_
        refine nr ?_; intro U h; simp only [z0, z1] at h; subst h
        refine wpList_nil ?_
        refine then_n ?_
        refine wp_ret ?_
        refine then_r ?_
        refine bodyPost_ret (results_tmp Try.results8 _ _ _) rfl ?_
        exact ⟨rfl, GG⟩
      · refine wp_region_exA (A := ?Ax3) 19 [(0, 12), (1, 13), (2, 14), (3, 15), (4, 16), (5, 17), (6, 18), (7, 19), (8, 20), (9, 21), (10, 22), (11, 23), (12, 24), (13, 25), (14, 26), (15, 27), (16, 28), (17, 29), (18, 30)] [.val (.slice ao t.length t.length), .val (.int .i64 ((t.length : Nat) : Int)), .val (.bool false), .val (.bool false), .val (.slice bo s.length s.length), .val (.int .i64 ((s.length : Nat) : Int)), .val (.bool false), .val (.bool false), .val (.bool false), .val (.slice ao t.length t.length), .val (.slice ao t.length t.length), .val (.int .i64 ((t.length : Nat) : Int)), .val (.int .i64 ((t.length - 1 : Nat) : Int)), .val (.pointer (pA ao (t.length - 1))), .val (.int .i64 (t.getD (t.length - 1) 0)), .val (.slice bo s.length s.length), .val (.pointer (pA bo 0)), .val (.int .i64 (s.getD 0 0)), .val (.bool false)] follows (by kernel_rfl) rfl ?hAx3 (opsA_cons ?o0x3 (opsA_cons ?o1x3 (opsA_cons ?o2x3 (opsA_cons ?o3x3 (opsA_cons ?o4x3 (opsA_cons ?o5x3 (opsA_cons ?o6x3 (opsA_cons ?o7x3 (opsA_cons ?o8x3 (opsA_cons ?o9x3 (opsA_cons ?o10x3 (opsA_cons ?o11x3 (opsA_cons ?o12x3 (opsA_cons ?o13x3 (opsA_cons ?o14x3 (opsA_cons ?o15x3 (opsA_cons ?o16x3 (opsA_cons ?o17x3 (opsA_cons ?o18x3 opsA_nil))))))))))))))))))) ?restx3
        case hAx3 =>
          intro ptrs
          simp only [full, foldSlots, filledE, postE, List.foldl_cons, List.foldl_nil, List.getD_cons_zero, List.getD_cons_succ, fill_val, List.set_cons_zero, List.set_cons_succ]
          exact rfl
        case o0x3 => exact fun _ _ _ _ => opE_move (v := .slice ao t.length t.length) _ rfl rfl rfl
        case o1x3 => exact fun _ _ _ _ => opE_value (v := .int .i64 ((t.length : Nat) : Int)) rfl (run_len Try.underlying22 _ rfl _ _ _ rfl _)
        case o2x3 => exact fun _ _ _ _ => opE_value (v := .bool false) rfl (run_eq_k 3 .i64 _ _ _ rfl Try.underlying3 ((t.length : Nat) : Int) 0 rfl rfl false ha0 _)
        case o3x3 => exact fun _ _ _ _ => opE_move (v := .bool false) _ rfl rfl rfl
        case o4x3 => exact fun _ _ _ _ => opE_move (v := .slice bo s.length s.length) _ rfl rfl rfl
        case o5x3 => exact fun _ _ _ _ => opE_value (v := .int .i64 ((s.length : Nat) : Int)) rfl (run_len Try.underlying22 _ rfl _ _ _ rfl _)
        case o6x3 => exact fun _ _ _ _ => opE_value (v := .bool false) rfl (run_eq_k 3 .i64 _ _ _ rfl Try.underlying3 ((s.length : Nat) : Int) 0 rfl rfl false hb0 _)
        case o7x3 => exact fun _ _ _ _ => opE_pick (v := .bool false) _ _ _ rfl rfl false rfl rfl
        case o8x3 => exact fun _ _ _ _ => opE_move (v := .bool false) _ rfl rfl rfl
        case o9x3 => exact fun _ _ _ _ => opE_move (v := .slice ao t.length t.length) _ rfl rfl rfl
        case o10x3 => exact fun _ _ _ _ => opE_move (v := .slice ao t.length t.length) _ rfl rfl rfl
        case o11x3 => exact fun _ _ _ _ => opE_value (v := .int .i64 ((t.length : Nat) : Int)) rfl (run_len Try.underlying22 _ rfl _ _ _ rfl _)
        case o12x3 => exact fun _ _ _ _ => opE_value (v := .int .i64 ((t.length - 1 : Nat) : Int)) rfl (run_subI 3 _ _ _ rfl ((t.length : Nat) : Int) 1 ((t.length - 1 : Nat) : Int) rfl rfl (by omega) (by omega) (by omega) _)
        case o13x3 => exact fun _ _ hw _ => opE_value (v := .pointer (pA ao (t.length - 1))) rfl (run_ixI (HT.gro (GG.drew.trans hw)) _ _ rfl rfl (t.length - 1) rfl (by omega))
        case o14x3 => exact fun _ _ hw _ => opE_value (v := .int .i64 (t.getD (t.length - 1) 0)) rfl (run_ldI (HT.gro (GG.drew.trans hw)) _ rfl (t.length - 1) rfl (by omega))
        case o15x3 => exact fun _ _ _ _ => opE_move (v := .slice bo s.length s.length) _ rfl rfl rfl
        case o16x3 => exact fun _ _ hw _ => opE_value (v := .pointer (pA bo 0)) rfl (run_ixI (HS.gro (GG.drew.trans hw)) _ _ rfl rfl 0 rfl (by omega))
        case o17x3 => exact fun _ _ hw _ => opE_value (v := .int .i64 (s.getD 0 0)) rfl (run_ldI (HS.gro (GG.drew.trans hw)) _ rfl 0 rfl (by omega))
        case o18x3 => exact fun _ _ _ _ => opE_value (v := .bool false) rfl (run_neq_k 3 .i64 _ _ _ rfl Try.underlying3 (t.getD (t.length - 1) 0) (s.getD 0 0) rfl rfl false hab _)
        intro ptrs w3 GD hxE
        simp only [List.drop_succ_cons, List.drop_zero]
        replace GG := GG.drew.trans GD
        clear GD
        refine s_val 31 rfl rfl (.bool false) (rfl) ?_
        refine nr ?_; intro U h; simp only [z0, z1] at h; subst h
        refine wpList_nil ?_
        refine then_n ?_
        refine wp_cond_false rfl ?_
        refine wp_skip ?_
        refine then_n ?_
        refine wp_seq ?_
        obtain ⟨B, hB⟩ : ∃ B, w3.heap.size = B := ⟨_, rfl⟩
        have hwB : w.heap.size ≤ B := hB ▸ GG.size
        refine wp_region_exA (A := ?A4) 5 [(0, 33), (1, 34), (2, 35), (3, 36), (4, 37)] [rowE B, .val (.slice ao t.length t.length), ownY B t, .val (.slice bo s.length s.length), .val (.slice (if s.length = 1 then bo else bo.map (·.add (1 * 1))) (s.drop 1).length (s.length - 1))] follows (by kernel_rfl) rfl ?hA4 (opsA_cons ?o0 (opsA_cons ?o1 (opsA_cons ?o2 (opsA_cons ?o3 (opsA_cons ?o4 opsA_nil))))) ?rest4
        case hA4 =>
          intro ptrs
          simp only [full, foldSlots, filledE, postE, List.foldl_cons, List.foldl_nil, List.getD_cons_zero, List.getD_cons_succ, fill_val, fill_rowE, fill_ownY, List.set_cons_zero, List.set_cons_succ]
          exact rfl
        case o0 => exact fun _ x hw _ => opE_new (rowE B) rfl (run_bsl 22 0 _ rfl [] rfl (bs0 _)) (gro_alloc _ _) ⟨_, rfl, (OX.made (cap := 0) (n := 0) (cs := []) (heap_alloc_new _ _) (Nat.le_trans (Nat.le_of_eq hB.symm) hw.size) (Nat.le_refl _) (by decide) rfl rfl rfl (fun _ h => by cases h)).oy⟩
        case o1 => exact fun _ _ _ _ => opE_move (v := .slice ao t.length t.length) _ rfl rfl rfl
        case o2 =>
          intro ptrs w' hw hE
          obtain ⟨⟨aq, hq, oq⟩, _⟩ := hE
          refine opE_appY rI (ownY B t) rfl _ _ rfl (B := B) (ao := aq) (n := 0) (cs := []) hq oq (ao' := ao) (cap' := t.length) (m := t.length) (cs' := ci t) rfl (HT.gro (GG.drew.trans hw)).xc (by omega) (by decide) (Nat.le_trans (Nat.le_of_eq hB.symm) hw.size) ?_
          intro ao2 cap2 w2 h1 _ _
          rw [Nat.zero_add, List.nil_append] at h1
          exact ⟨ao2, cap2, by rw [Nat.zero_add], h1⟩
        case o3 => exact fun _ _ _ _ => opE_move (v := .slice bo s.length s.length) _ rfl rfl rfl
        case o4 => exact fun _ _ _ _ => opE_value (v := .slice (if s.length = 1 then bo else bo.map (·.add (1 * 1))) (s.drop 1).length (s.length - 1)) rfl ((run_cutX rI _ _ rfl bo s.length s.length 1 rfl rfl (by omega) _).trans (by rw [List.length_drop]))
        intro ptrs w4 GD hxE
        simp only [List.drop_succ_cons, List.drop_zero]
        have hBs := Nat.le_trans (Nat.le_of_eq hB.symm) GD.size
        replace GG := GG.drew.trans GD
        obtain ⟨_, ⟨ao8, cap8, hx8, HY⟩, _⟩ := hxE
        simp only [hx8]
        clear hx8 GD
        have HSd := (HS.gro GG).drop 1 (by omega)
        refine s_appY rI 38 rfl rfl _ _ rfl (n := t.length) rfl HY rfl HSd.xc (by rw [List.length_drop]; omega) (by decide) hBs ?_
        intro ao9 cap9 w5 HY9 GS _
        replace GG := GS.gro GG (fun k hk => Nat.le_trans hwB (HY.base k hk))
        clear HSd GS
        rw [← ci_app, ← List.length_append] at HY9
        rw [← List.length_append]
        have hbt1 := both_last (a := t) hsa (of_decide_eq_true hab)
        have hbt2 := both_head (a := t) (b := s) hta
        have hbt3 : (t ++ s.drop 1).length ≤ 100 := by rw [List.length_append, List.length_drop]; omega
        have hbt4 : 0 < (t ++ s.drop 1).length := by rw [List.length_append]; omega
        have HRb : RC _ ao9 cap9 (t ++ s.drop 1) := ⟨HY9.xc, fun x hx => (List.mem_append.1 hx).elim (HT.all x) (fun h => HS.all x (List.mem_of_mem_drop h))⟩
        unfold both at hbt1 hbt2
        generalize t ++ s.drop 1 = bt at HRb hbt1 hbt2 hbt3 hbt4 ⊢
        clear HY HY9
        have hbe := erz_len bt
        have hbp := erz_pos hbt4
        have hbr : (erz bt).reverse.length = (erz bt).length := List.length_reverse
        refine nr ?_; intro U h; simp only [z0, z1] at h; subst h
        refine s_val 5 rfl rfl (.slice ao9 bt.length cap9) (rfl) ?_
        refine nr ?_; intro U h; simp only [z0, z1] at h; subst h
        refine wpList_nil ?_
        refine then_n ?_
        refine wp_seq ?_
        refine wp_region_lit ?_
        refine s_val 39 rfl rfl (.slice ao9 bt.length cap9) (rfl) ?_
        refine nr ?_; intro U h; simp only [z0, z1] at h; subst h
        refine s_callx 40 rfl rfl _ 10 Try.call10 rfl rfl _ rfl [.slice ao9 bt.length cap9] rfl (erase_any _ ao9 cap9 bt (HRb) (by omega)) (by rintro _ _ ⟨_, _, he, _⟩; exact ⟨_, he⟩) ?_
        rintro v w6 ⟨ao1, cap1, he, G, HO1⟩
        cases he
        replace HO1 := HO1.mono GG.size
        replace HRb := HRb.gro G
        replace GG := GG.trans G
        clear G
        have HR1 := HO1.rc
        refine nr ?_; intro U h; simp only [z0, z1] at h; subst h
        refine s_val 6 rfl rfl (.slice ao1 ((erz bt).length) cap1) (rfl) ?_
        refine nr ?_; intro U h; simp only [z0, z1] at h; subst h
        refine wpList_nil ?_
        refine then_n ?_
        refine wp_seq ?_
        refine wp_region_lit ?_
        refine s_val 41 rfl rfl (.slice ao1 ((erz bt).length) cap1) (rfl) ?_
        refine nr ?_; intro U h; simp only [z0, z1] at h; subst h
        refine s_callx 42 rfl rfl _ 11 Try.call11 rfl rfl _ rfl [.slice ao1 ((erz bt).length) cap1] rfl (back_any _ ao1 cap1 (erz bt) (HR1) (by have := erz_len bt; omega)) (by rintro _ _ ⟨_, _, he, _⟩; exact ⟨_, he⟩) ?_
        rintro v w7 ⟨ao2, cap2, he, G, HO2⟩
        cases he
        replace HO2 := HO2.mono GG.size
        replace HRb := HRb.gro G
        replace HR1 := HR1.gro G
        replace HO1 := HO1.gro G
        replace GG := GG.trans G
        clear G
        have HR2 := HO2.rc
        refine nr ?_; intro U h; simp only [z0, z1] at h; subst h
        refine s_val 7 rfl rfl (.slice ao2 (((erz bt).reverse).length) cap2) (rfl) ?_
        refine nr ?_; intro U h; simp only [z0, z1] at h; subst h
        refine wpList_nil ?_
        refine then_n ?_
        refine wp_seq ?_
        refine wp_region_exA (A := ?Ax4) 61 [(0, 43), (1, 44), (2, 45), (3, 46), (4, 47), (5, 48), (6, 49), (7, 50), (8, 51), (9, 52), (10, 53), (11, 54), (12, 55), (13, 56), (14, 57), (15, 58), (16, 59), (17, 60), (18, 61), (19, 62), (20, 63), (21, 64), (22, 65), (23, 66), (24, 67), (25, 68), (26, 69), (27, 70), (28, 71), (29, 72), (30, 73), (31, 74), (32, 75), (33, 76), (34, 77), (35, 78), (36, 79), (37, 80), (38, 81), (39, 82), (40, 83), (41, 84), (42, 85), (43, 86), (44, 87), (45, 88), (46, 89), (47, 90), (48, 91), (49, 92), (50, 93), (51, 94), (52, 95), (53, 96), (54, 97), (55, 98), (56, 99), (57, 100), (58, 101), (59, 102), (60, 103)] [.val (.bool true), .val (.bool true), .val (.slice ao1 ((erz bt).length) cap1), .val (.int .i64 (((erz bt).length : Nat) : Int)), .val (.bool true), .val (.bool true), .val (.bool true), .val (.slice ao1 ((erz bt).length) cap1), .val (.pointer (pA ao1 0)), .val (.int .i64 ((erz bt).getD 0 0)), .val (.slice ao t.length t.length), .val (.pointer (pA ao 0)), .val (.int .i64 (t.getD 0 0)), .val (.bool true), .val (.bool true), .val (.bool true), .val (.slice ao1 ((erz bt).length) cap1), .val (.slice ao1 ((erz bt).length) cap1), .val (.int .i64 (((erz bt).length : Nat) : Int)), .val (.int .i64 (((erz bt).length - 1 : Nat) : Int)), .val (.pointer (pA ao1 ((erz bt).length - 1))), .val (.int .i64 ((erz bt).getD ((erz bt).length - 1) 0)), .val (.slice bo s.length s.length), .val (.slice bo s.length s.length), .val (.int .i64 ((s.length : Nat) : Int)), .val (.int .i64 ((s.length - 1 : Nat) : Int)), .val (.pointer (pA bo (s.length - 1))), .val (.int .i64 (s.getD (s.length - 1) 0)), .val (.bool true), .val (.bool true), .val (.bool true), .val (.slice ao1 ((erz bt).length) cap1), .val (.bool true), .val (.bool true), .val (.bool true), .val (.slice ao1 ((erz bt).length) cap1), .val (.slice ao9 bt.length cap9), .val (.bool true), .val (.bool true), .val (.bool true), .val (.slice ao2 (((erz bt).reverse).length) cap2), .val (.int .i64 ((((erz bt).reverse).length : Nat) : Int)), .val (.slice ao1 ((erz bt).length) cap1), .val (.int .i64 (((erz bt).length : Nat) : Int)), .val (.bool true), .val (.bool true), .val (.bool true), .val (.slice ao2 (((erz bt).reverse).length) cap2), .val (.pointer (pA ao2 0)), .val (.int .i64 (((erz bt).reverse).getD 0 0)), .val (.slice ao1 ((erz bt).length) cap1), .val (.slice ao1 ((erz bt).length) cap1), .val (.int .i64 (((erz bt).length : Nat) : Int)), .val (.int .i64 (((erz bt).length - 1 : Nat) : Int)), .val (.pointer (pA ao1 ((erz bt).length - 1))), .val (.int .i64 ((erz bt).getD ((erz bt).length - 1) 0)), .val (.bool true), .val (.bool true), .val (.bool true), .val (.slice ao2 (((erz bt).reverse).length) cap2), .val (.bool true)] follows (by kernel_rfl) rfl ?hAx4 (opsA_cons ?o0x4 (opsA_cons ?o1x4 (opsA_cons ?o2x4 (opsA_cons ?o3x4 (opsA_cons ?o4x4 (opsA_cons ?o5x4 (opsA_cons ?o6x4 (opsA_cons ?o7x4 (opsA_cons ?o8x4 (opsA_cons ?o9x4 (opsA_cons ?o10x4 (opsA_cons ?o11x4 (opsA_cons ?o12x4 (opsA_cons ?o13x4 (opsA_cons ?o14x4 (opsA_cons ?o15x4 (opsA_cons ?o16x4 (opsA_cons ?o17x4 (opsA_cons ?o18x4 (opsA_cons ?o19x4 (opsA_cons ?o20x4 (opsA_cons ?o21x4 (opsA_cons ?o22x4 (opsA_cons ?o23x4 (opsA_cons ?o24x4 (opsA_cons ?o25x4 (opsA_cons ?o26x4 (opsA_cons ?o27x4 (opsA_cons ?o28x4 (opsA_cons ?o29x4 (opsA_cons ?o30x4 (opsA_cons ?o31x4 (opsA_cons ?o32x4 (opsA_cons ?o33x4 (opsA_cons ?o34x4 (opsA_cons ?o35x4 (opsA_cons ?o36x4 (opsA_cons ?o37x4 (opsA_cons ?o38x4 (opsA_cons ?o39x4 (opsA_cons ?o40x4 (opsA_cons ?o41x4 (opsA_cons ?o42x4 (opsA_cons ?o43x4 (opsA_cons ?o44x4 (opsA_cons ?o45x4 (opsA_cons ?o46x4 (opsA_cons ?o47x4 (opsA_cons ?o48x4 (opsA_cons ?o49x4 (opsA_cons ?o50x4 (opsA_cons ?o51x4 (opsA_cons ?o52x4 (opsA_cons ?o53x4 (opsA_cons ?o54x4 (opsA_cons ?o55x4 (opsA_cons ?o56x4 (opsA_cons ?o57x4 (opsA_cons ?o58x4 (opsA_cons ?o59x4 (opsA_cons ?o60x4 opsA_nil))))))))))))))))))))))))))))))))))))))))))))))))))))))))))))) ?restx4
        case hAx4 =>
          intro ptrs
          simp only [full, foldSlots, filledE, postE, List.foldl_cons, List.foldl_nil, List.getD_cons_zero, List.getD_cons_succ, fill_val, List.set_cons_zero, List.set_cons_succ]
          exact rfl
        case o0x4 =>
          intro ptrs w' hw hE
          exact opE_call (.val (.bool true)) rfl _ 12 Try.call12 rfl rfl _ rfl [] rfl ((fixed_any _).mono fun e w' ⟨he, hg⟩ => ⟨_, he, hg, rfl⟩)
        case o1x4 => exact fun _ _ _ _ => opE_move (v := .bool true) _ rfl rfl rfl
        case o2x4 => exact fun _ _ _ _ => opE_move (v := .slice ao1 ((erz bt).length) cap1) _ rfl rfl rfl
        case o3x4 => exact fun _ _ _ _ => opE_value (v := .int .i64 (((erz bt).length : Nat) : Int)) rfl (run_len Try.underlying22 _ rfl _ _ _ rfl _)
        case o4x4 => exact fun _ _ _ _ => opE_value (v := .bool true) rfl (run_gtrT 3 _ _ _ rfl _ _ rfl rfl true (decide_eq_true (by omega)) _)
        case o5x4 => exact fun _ _ _ _ => opE_pick (v := .bool true) _ _ _ rfl rfl true rfl rfl
        case o6x4 => exact fun _ _ _ _ => opE_move (v := .bool true) _ rfl rfl rfl
        case o7x4 => exact fun _ _ _ _ => opE_move (v := .slice ao1 ((erz bt).length) cap1) _ rfl rfl rfl
        case o8x4 => exact fun _ _ hw _ => opE_value (v := .pointer (pA ao1 0)) rfl (run_ixI (HR1.gro ((Gro.refl _).drew.trans hw)) _ _ rfl rfl 0 rfl (by omega))
        case o9x4 => exact fun _ _ hw _ => opE_value (v := .int .i64 ((erz bt).getD 0 0)) rfl (run_ldI (HR1.gro ((Gro.refl _).drew.trans hw)) _ rfl 0 rfl (by omega))
        case o10x4 => exact fun _ _ _ _ => opE_move (v := .slice ao t.length t.length) _ rfl rfl rfl
        case o11x4 => exact fun _ _ hw _ => opE_value (v := .pointer (pA ao 0)) rfl (run_ixI (HT.gro (GG.drew.trans hw)) _ _ rfl rfl 0 rfl (by omega))
        case o12x4 => exact fun _ _ hw _ => opE_value (v := .int .i64 (t.getD 0 0)) rfl (run_ldI (HT.gro (GG.drew.trans hw)) _ rfl 0 rfl (by omega))
        case o13x4 => exact fun _ _ _ _ => opE_value (v := .bool true) rfl (run_eq_k 3 .i64 _ _ _ rfl Try.underlying3 _ _ rfl rfl true (decide_eq_true ((erz_head bt).trans hbt2)) _)
        case o14x4 => exact fun _ _ _ _ => opE_pick (v := .bool true) _ _ _ rfl rfl true rfl rfl
        case o15x4 => exact fun _ _ _ _ => opE_move (v := .bool true) _ rfl rfl rfl
        case o16x4 => exact fun _ _ _ _ => opE_move (v := .slice ao1 ((erz bt).length) cap1) _ rfl rfl rfl
        case o17x4 => exact fun _ _ _ _ => opE_move (v := .slice ao1 ((erz bt).length) cap1) _ rfl rfl rfl
        case o18x4 => exact fun _ _ _ _ => opE_value (v := .int .i64 (((erz bt).length : Nat) : Int)) rfl (run_len Try.underlying22 _ rfl _ _ _ rfl _)
        case o19x4 => exact fun _ _ _ _ => opE_value (v := .int .i64 (((erz bt).length - 1 : Nat) : Int)) rfl (run_subI 3 _ _ _ rfl (((erz bt).length : Nat) : Int) 1 (((erz bt).length - 1 : Nat) : Int) rfl rfl (by omega) (by omega) (by omega) _)
        case o20x4 => exact fun _ _ hw _ => opE_value (v := .pointer (pA ao1 ((erz bt).length - 1))) rfl (run_ixI (HR1.gro ((Gro.refl _).drew.trans hw)) _ _ rfl rfl ((erz bt).length - 1) rfl (by omega))
        case o21x4 => exact fun _ _ hw _ => opE_value (v := .int .i64 ((erz bt).getD ((erz bt).length - 1) 0)) rfl (run_ldI (HR1.gro ((Gro.refl _).drew.trans hw)) _ rfl ((erz bt).length - 1) rfl (by omega))
        case o22x4 => exact fun _ _ _ _ => opE_move (v := .slice bo s.length s.length) _ rfl rfl rfl
        case o23x4 => exact fun _ _ _ _ => opE_move (v := .slice bo s.length s.length) _ rfl rfl rfl
        case o24x4 => exact fun _ _ _ _ => opE_value (v := .int .i64 ((s.length : Nat) : Int)) rfl (run_len Try.underlying22 _ rfl _ _ _ rfl _)
        case o25x4 => exact fun _ _ _ _ => opE_value (v := .int .i64 ((s.length - 1 : Nat) : Int)) rfl (run_subI 3 _ _ _ rfl ((s.length : Nat) : Int) 1 ((s.length - 1 : Nat) : Int) rfl rfl (by omega) (by omega) (by omega) _)
        case o26x4 => exact fun _ _ hw _ => opE_value (v := .pointer (pA bo (s.length - 1))) rfl (run_ixI (HS.gro (GG.drew.trans hw)) _ _ rfl rfl (s.length - 1) rfl (by omega))
        case o27x4 => exact fun _ _ hw _ => opE_value (v := .int .i64 (s.getD (s.length - 1) 0)) rfl (run_ldI (HS.gro (GG.drew.trans hw)) _ rfl (s.length - 1) rfl (by omega))
        case o28x4 => exact fun _ _ _ _ => opE_value (v := .bool true) rfl (run_eq_k 3 .i64 _ _ _ rfl Try.underlying3 _ _ rfl rfl true (decide_eq_true ((erz_lastD bt).trans hbt1)) _)
        case o29x4 => exact fun _ _ _ _ => opE_pick (v := .bool true) _ _ _ rfl rfl true rfl rfl
        case o30x4 => exact fun _ _ _ _ => opE_move (v := .bool true) _ rfl rfl rfl
        case o31x4 => exact fun _ _ _ _ => opE_move (v := .slice ao1 ((erz bt).length) cap1) _ rfl rfl rfl
        case o32x4 =>
          intro ptrs w' hw hE
          exact opE_call (.val (.bool true)) rfl _ 16 Try.call16 rfl rfl _ rfl [.slice ao1 ((erz bt).length) cap1] rfl ((Calls.bool (simple_any _ ao1 cap1 (erz bt) (HR1.gro ((Gro.refl _).drew.trans hw)) (by have := erz_len bt; omega)) (decide_eq_true (erz_nodup bt))).mono fun e w' ⟨he, hg⟩ => ⟨_, he, hg, rfl⟩)
        case o33x4 => exact fun _ _ _ _ => opE_pick (v := .bool true) _ _ _ rfl rfl true rfl rfl
        case o34x4 => exact fun _ _ _ _ => opE_move (v := .bool true) _ rfl rfl rfl
        case o35x4 => exact fun _ _ _ _ => opE_move (v := .slice ao1 ((erz bt).length) cap1) _ rfl rfl rfl
        case o36x4 => exact fun _ _ _ _ => opE_move (v := .slice ao9 bt.length cap9) _ rfl rfl rfl
        case o37x4 =>
          intro ptrs w' hw hE
          exact opE_call (.val (.bool true)) rfl _ 20 Try.call20 rfl rfl _ rfl [.slice ao1 ((erz bt).length) cap1, .slice ao9 bt.length cap9] rfl ((Calls.bool (joins_any _ ao1 cap1 (erz bt) (HR1.gro ((Gro.refl _).drew.trans hw)) (by have := erz_len bt; omega) ao9 cap9 bt (HRb.gro ((Gro.refl _).drew.trans hw)) (by omega)) (jn_erz bt)).mono fun e w' ⟨he, hg⟩ => ⟨_, he, hg, rfl⟩)
        case o38x4 => exact fun _ _ _ _ => opE_pick (v := .bool true) _ _ _ rfl rfl true rfl rfl
        case o39x4 => exact fun _ _ _ _ => opE_move (v := .bool true) _ rfl rfl rfl
        case o40x4 => exact fun _ _ _ _ => opE_move (v := .slice ao2 (((erz bt).reverse).length) cap2) _ rfl rfl rfl
        case o41x4 => exact fun _ _ _ _ => opE_value (v := .int .i64 ((((erz bt).reverse).length : Nat) : Int)) rfl (run_len Try.underlying22 _ rfl _ _ _ rfl _)
        case o42x4 => exact fun _ _ _ _ => opE_move (v := .slice ao1 ((erz bt).length) cap1) _ rfl rfl rfl
        case o43x4 => exact fun _ _ _ _ => opE_value (v := .int .i64 (((erz bt).length : Nat) : Int)) rfl (run_len Try.underlying22 _ rfl _ _ _ rfl _)
        case o44x4 => exact fun _ _ _ _ => opE_value (v := .bool true) rfl (run_eq_k 3 .i64 _ _ _ rfl Try.underlying3 _ _ rfl rfl true (decide_eq_true (by omega)) _)
        case o45x4 => exact fun _ _ _ _ => opE_pick (v := .bool true) _ _ _ rfl rfl true rfl rfl
        case o46x4 => exact fun _ _ _ _ => opE_move (v := .bool true) _ rfl rfl rfl
        case o47x4 => exact fun _ _ _ _ => opE_move (v := .slice ao2 (((erz bt).reverse).length) cap2) _ rfl rfl rfl
        case o48x4 => exact fun _ _ hw _ => opE_value (v := .pointer (pA ao2 0)) rfl (run_ixI (HR2.gro ((Gro.refl _).drew.trans hw)) _ _ rfl rfl 0 rfl (by omega))
        case o49x4 => exact fun _ _ hw _ => opE_value (v := .int .i64 (((erz bt).reverse).getD 0 0)) rfl (run_ldI (HR2.gro ((Gro.refl _).drew.trans hw)) _ rfl 0 rfl (by omega))
        case o50x4 => exact fun _ _ _ _ => opE_move (v := .slice ao1 ((erz bt).length) cap1) _ rfl rfl rfl
        case o51x4 => exact fun _ _ _ _ => opE_move (v := .slice ao1 ((erz bt).length) cap1) _ rfl rfl rfl
        case o52x4 => exact fun _ _ _ _ => opE_value (v := .int .i64 (((erz bt).length : Nat) : Int)) rfl (run_len Try.underlying22 _ rfl _ _ _ rfl _)
        case o53x4 => exact fun _ _ _ _ => opE_value (v := .int .i64 (((erz bt).length - 1 : Nat) : Int)) rfl (run_subI 3 _ _ _ rfl (((erz bt).length : Nat) : Int) 1 (((erz bt).length - 1 : Nat) : Int) rfl rfl (by omega) (by omega) (by omega) _)
        case o54x4 => exact fun _ _ hw _ => opE_value (v := .pointer (pA ao1 ((erz bt).length - 1))) rfl (run_ixI (HR1.gro ((Gro.refl _).drew.trans hw)) _ _ rfl rfl ((erz bt).length - 1) rfl (by omega))
        case o55x4 => exact fun _ _ hw _ => opE_value (v := .int .i64 ((erz bt).getD ((erz bt).length - 1) 0)) rfl (run_ldI (HR1.gro ((Gro.refl _).drew.trans hw)) _ rfl ((erz bt).length - 1) rfl (by omega))
        case o56x4 => exact fun _ _ _ _ => opE_value (v := .bool true) rfl (run_eq_k 3 .i64 _ _ _ rfl Try.underlying3 _ _ rfl rfl true (decide_eq_true (rev_head (erz bt))) _)
        case o57x4 => exact fun _ _ _ _ => opE_pick (v := .bool true) _ _ _ rfl rfl true rfl rfl
        case o58x4 => exact fun _ _ _ _ => opE_move (v := .bool true) _ rfl rfl rfl
        case o59x4 => exact fun _ _ _ _ => opE_move (v := .slice ao2 (((erz bt).reverse).length) cap2) _ rfl rfl rfl
        case o60x4 =>
          intro ptrs w' hw hE
          exact opE_call (.val (.bool true)) rfl _ 16 Try.call16 rfl rfl _ rfl [.slice ao2 (((erz bt).reverse).length) cap2] rfl ((Calls.bool (simple_any _ ao2 cap2 ((erz bt).reverse) (HR2.gro ((Gro.refl _).drew.trans hw)) (by have := erz_len bt; simp only [List.length_reverse]; omega)) (decide_eq_true ((List.reverse_perm _).nodup_iff.2 (erz_nodup bt)))).mono fun e w' ⟨he, hg⟩ => ⟨_, he, hg, rfl⟩)
        intro ptrs w8 GD hxE
        simp only [List.drop_succ_cons, List.drop_zero]
        replace HRb := HRb.gro ((Gro.refl _).drew.trans GD)
        replace HR1 := HR1.gro ((Gro.refl _).drew.trans GD)
        replace HO1 := HO1.gro ((Gro.refl _).drew.trans GD)
        replace HR2 := HR2.gro ((Gro.refl _).drew.trans GD)
        replace HO2 := HO2.gro ((Gro.refl _).drew.trans GD)
        replace GG := GG.drew.trans GD
        clear GD
        refine s_val 104 rfl rfl (.bool true) (rfl) ?_
        refine nr ?_; intro U h; simp only [z0, z1] at h; subst h
        refine s_val 4 rfl rfl (.bool true) (rfl) ?_
        refine nr ?_; intro U h; simp only [z0, z1] at h; subst h
        refine wpList_nil ?_
        refine then_n ?_
        refine wp_ret ?_
        refine bodyPost_ret (results_tmp Try.results8 _ _ _) rfl ?_
        exact ⟨rfl, GG⟩
    · refine wp_region_exA (A := ?Ax5) 19 [(0, 12), (1, 13), (2, 14), (3, 15), (4, 16), (5, 17), (6, 18), (7, 19), (8, 20), (9, 21), (10, 22), (11, 23), (12, 24), (13, 25), (14, 26), (15, 27), (16, 28), (17, 29), (18, 30)] [.val (.slice ao t.length t.length), .val (.int .i64 ((t.length : Nat) : Int)), .val (.bool false), .val (.bool false), .val (.slice bo s.length s.length), .val (.int .i64 ((s.length : Nat) : Int)), .val (.bool true), .val (.bool true), .val (.bool true), .val undef, .val undef, .val undef, .val undef, .val undef, .val undef, .val undef, .val undef, .val undef, .val undef] follows (by kernel_rfl) rfl ?hAx5 (opsA_cons ?o0x5 (opsA_cons ?o1x5 (opsA_cons ?o2x5 (opsA_cons ?o3x5 (opsA_cons ?o4x5 (opsA_cons ?o5x5 (opsA_cons ?o6x5 (opsA_cons ?o7x5 (opsA_cons ?o8x5 (opsA_cons ?o9x5 (opsA_cons ?o10x5 (opsA_cons ?o11x5 (opsA_cons ?o12x5 (opsA_cons ?o13x5 (opsA_cons ?o14x5 (opsA_cons ?o15x5 (opsA_cons ?o16x5 (opsA_cons ?o17x5 (opsA_cons ?o18x5 opsA_nil))))))))))))))))))) ?restx5
      case hAx5 =>
        intro ptrs
        simp only [full, foldSlots, filledE, postE, List.foldl_cons, List.foldl_nil, List.getD_cons_zero, List.getD_cons_succ, fill_val, List.set_cons_zero, List.set_cons_succ]
        exact rfl
      case o0x5 => exact fun _ _ _ _ => opE_move (v := .slice ao t.length t.length) _ rfl rfl rfl
      case o1x5 => exact fun _ _ _ _ => opE_value (v := .int .i64 ((t.length : Nat) : Int)) rfl (run_len Try.underlying22 _ rfl _ _ _ rfl _)
      case o2x5 => exact fun _ _ _ _ => opE_value (v := .bool false) rfl (run_eq_k 3 .i64 _ _ _ rfl Try.underlying3 ((t.length : Nat) : Int) 0 rfl rfl false ha0 _)
      case o3x5 => exact fun _ _ _ _ => opE_move (v := .bool false) _ rfl rfl rfl
      case o4x5 => exact fun _ _ _ _ => opE_move (v := .slice bo s.length s.length) _ rfl rfl rfl
      case o5x5 => exact fun _ _ _ _ => opE_value (v := .int .i64 ((s.length : Nat) : Int)) rfl (run_len Try.underlying22 _ rfl _ _ _ rfl _)
      case o6x5 => exact fun _ _ _ _ => opE_value (v := .bool true) rfl (run_eq_k 3 .i64 _ _ _ rfl Try.underlying3 ((s.length : Nat) : Int) 0 rfl rfl true hb0 _)
      case o7x5 => exact fun _ _ _ _ => opE_pick (v := .bool true) _ _ _ rfl rfl false rfl rfl
      case o8x5 => exact fun _ _ _ _ => opE_move (v := .bool true) _ rfl rfl rfl
      case o9x5 => exact fun _ _ _ _ => opE_skip rfl
      case o10x5 => exact fun _ _ _ _ => opE_skip rfl
      case o11x5 => exact fun _ _ _ _ => opE_skip rfl
      case o12x5 => exact fun _ _ _ _ => opE_skip rfl
      case o13x5 => exact fun _ _ _ _ => opE_skip rfl
      case o14x5 => exact fun _ _ _ _ => opE_skip rfl
      case o15x5 => exact fun _ _ _ _ => opE_skip rfl
      case o16x5 => exact fun _ _ _ _ => opE_skip rfl
      case o17x5 => exact fun _ _ _ _ => opE_skip rfl
      case o18x5 => exact fun _ _ _ _ => opE_skip rfl
      intro ptrs w3 GD hxE
      simp only [List.drop_succ_cons, List.drop_zero]
      replace GG := GG.drew.trans GD
      clear GD
      refine s_val 31 rfl rfl (.bool true) (rfl) ?_
      refine nr ?_; intro U h; simp only [z0, z1] at h; subst h
      refine wpList_nil ?_
      refine then_n ?_
      refine wp_cond_true rfl ?_
      refine wp_seq ?_
      refine wp_region_lit ?_
      refine s_callv 32 rfl rfl _ 12 Try.call12 rfl rfl _ rfl [] rfl (fixed_any _) ?_
      intro w4 G
      replace GG := GG.trans G
      clear G
      refine nr ?_; intro U h; simp only [z0, z1] at h; subst h
      refine s_val 4 rfl rfl (.bool true) (rfl) ?_
      refine nr ?_; intro U h; simp only [z0, z1] at h; subst h
      refine wpList_nil ?_
      refine then_n ?_
      refine wp_ret ?_
      refine then_r ?_
      refine bodyPost_ret (results_tmp Try.results8 _ _ _) rfl ?_
      exact ⟨rfl, GG⟩
  · refine wp_region_exA (A := ?Ax6) 19 [(0, 12), (1, 13), (2, 14), (3, 15), (4, 16), (5, 17), (6, 18), (7, 19), (8, 20), (9, 21), (10, 22), (11, 23), (12, 24), (13, 25), (14, 26), (15, 27), (16, 28), (17, 29), (18, 30)] [.val (.slice ao t.length t.length), .val (.int .i64 ((t.length : Nat) : Int)), .val (.bool true), .val (.bool true), .val undef, .val undef, .val undef, .val (.bool true), .val (.bool true), .val undef, .val undef, .val undef, .val undef, .val undef, .val undef, .val undef, .val undef, .val undef, .val undef] follows (by kernel_rfl) rfl ?hAx6 (opsA_cons ?o0x6 (opsA_cons ?o1x6 (opsA_cons ?o2x6 (opsA_cons ?o3x6 (opsA_cons ?o4x6 (opsA_cons ?o5x6 (opsA_cons ?o6x6 (opsA_cons ?o7x6 (opsA_cons ?o8x6 (opsA_cons ?o9x6 (opsA_cons ?o10x6 (opsA_cons ?o11x6 (opsA_cons ?o12x6 (opsA_cons ?o13x6 (opsA_cons ?o14x6 (opsA_cons ?o15x6 (opsA_cons ?o16x6 (opsA_cons ?o17x6 (opsA_cons ?o18x6 opsA_nil))))))))))))))))))) ?restx6
    case hAx6 =>
      intro ptrs
      simp only [full, foldSlots, filledE, postE, List.foldl_cons, List.foldl_nil, List.getD_cons_zero, List.getD_cons_succ, fill_val, List.set_cons_zero, List.set_cons_succ]
      exact rfl
    case o0x6 => exact fun _ _ _ _ => opE_move (v := .slice ao t.length t.length) _ rfl rfl rfl
    case o1x6 => exact fun _ _ _ _ => opE_value (v := .int .i64 ((t.length : Nat) : Int)) rfl (run_len Try.underlying22 _ rfl _ _ _ rfl _)
    case o2x6 => exact fun _ _ _ _ => opE_value (v := .bool true) rfl (run_eq_k 3 .i64 _ _ _ rfl Try.underlying3 ((t.length : Nat) : Int) 0 rfl rfl true ha0 _)
    case o3x6 => exact fun _ _ _ _ => opE_move (v := .bool true) _ rfl rfl rfl
    case o4x6 => exact fun _ _ _ _ => opE_skip rfl
    case o5x6 => exact fun _ _ _ _ => opE_skip rfl
    case o6x6 => exact fun _ _ _ _ => opE_skip rfl
    case o7x6 => exact fun _ _ _ _ => opE_pick (v := .bool true) _ _ _ rfl rfl true rfl rfl
    case o8x6 => exact fun _ _ _ _ => opE_move (v := .bool true) _ rfl rfl rfl
    case o9x6 => exact fun _ _ _ _ => opE_skip rfl
    case o10x6 => exact fun _ _ _ _ => opE_skip rfl
    case o11x6 => exact fun _ _ _ _ => opE_skip rfl
    case o12x6 => exact fun _ _ _ _ => opE_skip rfl
    case o13x6 => exact fun _ _ _ _ => opE_skip rfl
    case o14x6 => exact fun _ _ _ _ => opE_skip rfl
    case o15x6 => exact fun _ _ _ _ => opE_skip rfl
    case o16x6 => exact fun _ _ _ _ => opE_skip rfl
    case o17x6 => exact fun _ _ _ _ => opE_skip rfl
    case o18x6 => exact fun _ _ _ _ => opE_skip rfl
    intro ptrs w3 GD hxE
    simp only [List.drop_succ_cons, List.drop_zero]
    replace GG := GG.drew.trans GD
    clear GD
    refine s_val 31 rfl rfl (.bool true) (rfl) ?_
    refine nr ?_; intro U h; simp only [z0, z1] at h; subst h
    refine wpList_nil ?_
    refine then_n ?_
    refine wp_cond_true rfl ?_
    refine wp_seq ?_
    refine wp_region_lit ?_
    refine s_callv 32 rfl rfl _ 12 Try.call12 rfl rfl _ rfl [] rfl (fixed_any _) ?_
    intro w4 G
    replace GG := GG.trans G
    clear G
    refine nr ?_; intro U h; simp only [z0, z1] at h; subst h
    refine s_val 4 rfl rfl (.bool true) (rfl) ?_
    refine nr ?_; intro U h; simp only [z0, z1] at h; subst h
    refine wpList_nil ?_
    refine then_n ?_
    refine wp_ret ?_
    refine then_r ?_
    refine bodyPost_ret (results_tmp Try.results8 _ _ _) rfl ?_
    exact ⟨rfl, GG⟩
end Go.Proofs.Ytjbpgiphimmleaa
