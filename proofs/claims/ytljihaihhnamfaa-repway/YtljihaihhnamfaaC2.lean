/- Rounds: all tell their neighbours what they know. -/
import Derived.Test.YtljihaihhnamfaaC1
namespace Go.Proofs.Ytljihaihhnamfaa
open Go.RowKit

/-! ### What is heard, while the rounds go on -/
def h0F (n : Nat) (lk : Nat → Nat → Bool) (Hs : List RVh) (c : Nat) : List Hd := ihF n lk c (Hs.getD c zR).l
def hD (n : Nat) (lk : Nat → Nat → Bool) (Hs : List RVh) (a c : Nat) : List Hd := if c < a then h0F n lk Hs c else []
def hE (n : Nat) (lk : Nat → Nat → Bool) (Hs : List RVh) (a q c : Nat) : List Hd := if c < a then h0F n lk Hs c else if c = a then ihF n lk a ((Hs.getD a zR).l.take q) else []
section
variable {n : Nat} {lk : Nat → Nat → Bool} {Hs : List RVh} {a q c : Nat} {H : Nat → List Hd}
theorem hD_0 : ∀ c, c < n → ([] : List Hd) = hD n lk Hs 0 c := fun c _ => by rw [hD, if_neg (by omega)]
theorem hE_0 (h : ∀ c, c < n → H c = hD n lk Hs a c) : ∀ c, c < n → H c = hE n lk Hs a 0 c := fun c hc => by
  rw [h c hc, hD, hE]
  by_cases h1 : c < a
  · rw [if_pos h1, if_pos h1]
  · rw [if_neg h1, if_neg h1]
    split <;> rfl
theorem hE_yes (h : ∀ c, c < n → H c = hE n lk Hs a q c) (ha : a < n) (hq : q < (Hs.getD a zR).l.length) (hk : 0 ≤ ((Hs.getD a zR).l.getD q zH).n ∧ ((Hs.getD a zR).l.getD q zH).n < n ∧ lk a ((Hs.getD a zR).l.getD q zH).n.toNat = true) : ∀ c, c < n → updF H a (putH (H a) ((Hs.getD a zR).l.getD q zH)) c = hE n lk Hs a (q + 1) c := fun c hc => by
  unfold updF
  by_cases e : c = a
  · subst e
    rw [if_pos rfl, h c hc]
    simp only [hE, Nat.lt_irrefl, ↓reduceIte]
    rw [ihF_step hq, ihS, if_pos hk]
  · rw [if_neg e, h c hc, hE, hE]
    by_cases h1 : c < a
    · rw [if_pos h1, if_pos h1]
    · rw [if_neg h1, if_neg h1, if_neg e, if_neg e]
theorem hE_no (h : ∀ c, c < n → H c = hE n lk Hs a q c) (hq : q < (Hs.getD a zR).l.length) (hk : ¬ (0 ≤ ((Hs.getD a zR).l.getD q zH).n ∧ ((Hs.getD a zR).l.getD q zH).n < n ∧ lk a ((Hs.getD a zR).l.getD q zH).n.toNat = true)) : ∀ c, c < n → H c = hE n lk Hs a (q + 1) c := fun c hc => by
  rw [h c hc, hE, hE, ihF_step hq, ihS, if_neg hk]
theorem hE_end (h : ∀ c, c < n → H c = hE n lk Hs a q c) (hq : q = (Hs.getD a zR).l.length) : ∀ c, c < n → H c = hD n lk Hs (a + 1) c := fun c hc => by
  rw [h c hc, hE, hD, hq, List.take_length]
  by_cases h1 : c < a
  · rw [if_pos h1, if_pos (by omega)]
  · rw [if_neg h1]
    by_cases e : c = a
    · rw [if_pos e, if_pos (by omega), e]
      rfl
    · rw [if_neg e, if_neg (by omega)]
theorem hD_skip (h : ∀ c, c < n → H c = hD n lk Hs a c) (ha : ¬ a < Hs.length) : ∀ c, c < n → H c = hD n lk Hs (a + 1) c := fun c hc => by
  rw [h c hc, hD, hD]
  by_cases h1 : c < a
  · rw [if_pos h1, if_pos (by omega)]
  · rw [if_neg h1]
    by_cases e : c = a
    · rw [if_pos (by omega), e, h0F, show Hs.getD a zR = zR by simp [List.getD_eq_getElem?_getD, List.getElem?_eq_none (Nat.le_of_not_lt ha)]]
      rfl
    · rw [if_neg (by omega)]
end
section
variable {n : Nat} {lk : Nat → Nat → Bool} {ids : Nat → Nat} {h0 : Nat → List Hd} {t a b c : Nat} {H : Nat → List Hd}
theorem hD_end {Hs : List RVh} (h : ∀ c, c < n → H c = hD n lk Hs a c) (ha : a = n) : ∀ c, c < n → H c = hrdT n lk ids (h0F n lk Hs) 0 c := fun c hc => by
  rw [h c hc, hD, if_pos (by omega)]
  rfl
def hG (n : Nat) (lk : Nat → Nat → Bool) (ids : Nat → Nat) (h0 : Nat → List Hd) (t a c : Nat) : List Hd := if c < a then hrdT n lk ids h0 (t + 1) c else hrdT n lk ids h0 t c
def hI (n : Nat) (lk : Nat → Nat → Bool) (ids : Nat → Nat) (h0 : Nat → List Hd) (t a b c : Nat) : List Hd := if c < a then hrdT n lk ids h0 (t + 1) c else if c = a then tellH lk (bstT n lk ids h0 t) a b (hrdT n lk ids h0 t a) else hrdT n lk ids h0 t c
theorem hG_0 (h : ∀ c, c < n → H c = hrdT n lk ids h0 t c) : ∀ c, c < n → H c = hG n lk ids h0 t 0 c := fun c hc => by rw [h c hc, hG, if_neg (by omega)]
theorem hG_end (h : ∀ c, c < n → H c = hG n lk ids h0 t a c) (ha : a = n) : ∀ c, c < n → H c = hrdT n lk ids h0 (t + 1) c := fun c hc => by rw [h c hc, hG, if_pos (by omega)]
theorem hI_0 (h : ∀ c, c < n → H c = hG n lk ids h0 t a c) : ∀ c, c < n → H c = hI n lk ids h0 t a 0 c := fun c hc => by
  rw [h c hc, hG, hI]
  by_cases h1 : c < a
  · rw [if_pos h1, if_pos h1]
  · rw [if_neg h1, if_neg h1]
    split
    · rename_i e
      rw [e]
      rfl
    · rfl
theorem hI_yes (h : ∀ c, c < n → H c = hI n lk ids h0 t a b c) (ha : a < n) (hl : lk a b = true) {x : Hd} (hx : x = ⟨b, (bstT n lk ids h0 t b).id, (bstT n lk ids h0 t b).far⟩) : ∀ c, c < n → updF H a (putH (H a) x) c = hI n lk ids h0 t a (b + 1) c := fun c hc => by
  unfold updF
  by_cases e : c = a
  · subst e
    rw [if_pos rfl, h c hc]
    simp only [hI, Nat.lt_irrefl, ↓reduceIte]
    rw [tellH, if_pos hl, hx]
  · rw [if_neg e, h c hc, hI, hI]
    by_cases h1 : c < a
    · rw [if_pos h1, if_pos h1]
    · rw [if_neg h1, if_neg h1, if_neg e, if_neg e]
theorem hI_no (h : ∀ c, c < n → H c = hI n lk ids h0 t a b c) (hl : lk a b = false) : ∀ c, c < n → H c = hI n lk ids h0 t a (b + 1) c := fun c hc => by
  rw [h c hc, hI, hI, tellH]
  simp only [hl, Bool.false_eq_true, ↓reduceIte]
theorem hI_end (h : ∀ c, c < n → H c = hI n lk ids h0 t a b c) (hb : b = n) : ∀ c, c < n → H c = hG n lk ids h0 t (a + 1) c := fun c hc => by
  rw [h c hc, hI, hG, hb]
  by_cases h1 : c < a
  · rw [if_pos h1, if_pos (by omega)]
  · rw [if_neg h1]
    by_cases e : c = a
    · rw [if_pos e, if_pos (by omega), e]
      rfl
    · rw [if_neg e, if_neg (by omega)]
theorem set_best {B : List Hd} {F : Nat → Hd} {u : Hd} (h : ∀ c, c < a → B.getD c zH = F c) (ha : a < B.length) (hu : u = F a) : ∀ c, c < a + 1 → (B.set a u).getD c zH = F c := fun c hc => by
  rw [List.getD_eq_getElem?_getD, List.getElem?_set]
  by_cases e : a = c
  · subst e
    rw [if_pos rfl, if_pos ha]
    exact hu
  · rw [if_neg e, ← List.getD_eq_getElem?_getD]
    exact h c (by omega)
end
theorem mem1 {g B : Nat} (h : g < B) : ∀ s ∈ [g], s < B := fun s hs => by rw [List.mem_singleton.1 hs]; exact h
theorem mem2 {g k B : Nat} (h : g < B) (h2 : k < B) : ∀ s ∈ [g, k], s < B := fun s hs => by
  simp only [List.mem_cons, List.not_mem_nil, or_false] at hs
  rcases hs with rfl | rfl <;> assumption
theorem i64n {b : Nat} (h : b < 6) : I64 (b : Int) := ⟨by omega, by omega⟩
theorem blk_sub {g k : Nat} : ∀ x ∈ Go.Proofs.Ytljihaihhnamfaa.blk (some ⟨g, 0, none⟩), x ∈ [g, k] := fun x hx => by
  obtain ⟨ad, ha, hb⟩ := mem_blk.1 hx
  cases ha
  simp only at hb
  simp [hb]
theorem blk_lt {w : World} {g B cap : Nat} {l : List Hd} (h : OW kH 26 w B (some ⟨g, 0, none⟩) cap l) : g < w.heap.size := h.own.lt g (mem_blk.2 ⟨_, rfl, rfl⟩)
theorem blk_ne {g k : Nat} (h : k < g) : k ∉ Go.Proofs.Ytljihaihhnamfaa.blk (some ⟨g, 0, none⟩) := fun hm => by
  obtain ⟨ad, ha, hb⟩ := mem_blk.1 hm
  cases ha
  simp only at hb
  omega
/-- A call that tells what all know, and who reaches whom. -/
def RoundsP (w : World) (n : Nat) (F : Nat → Hd) (R : Nat → Nat → Bool) (e : Ending) (w' : World) : Prop := ∃ ao cap B, e = .returned (.tuple #[.slice ao (List.length B) cap, .agg (mxA R)]) ∧ Gro w w' ∧ RK kH w' ao cap B ∧ B.length = n ∧ ∀ c, c < n → B.getD c zH = F c
set_option maxRecDepth 100000 in
set_option maxHeartbeats 4000000 in
theorem rounds_any (w : World) (aw : Option Addr) (cw : Nat) (IW : List Nat) (al : Option Addr) (cl : Nat) (Lk : List (Int × Int)) (HK : RK kP w al cl Lk) (hK : Lk.length ≤ 9223372036854775807) (ah : Option Addr) (ch : Nat) (Hs : List RVh) (HHs : RK kS w ah ch Hs) (hH : ∀ i, i < Hs.length → RK kH w (Hs.getD i zR).ao (Hs.getD i zR).cap (Hs.getD i zR).l ∧ (Hs.getD i zR).l.length ≤ 9223372036854775807) (hHl : Hs.length ≤ 9223372036854775807) (ai : Option Addr) (ci : Nat) (I : List Nat) (HI : RK kI w ai ci I) (hI6 : I.length ≤ 6) (tm : Nat) (htm : tm ≤ 1000) : Calls Try.prog 18 #[.agg (wdA aw IW.length cw al Lk.length cl ah Hs.length ch), .slice ai I.length ci, .int .i64 ((tm : Nat) : Int)] w (RoundsP w I.length (bstT I.length (lkF I.length mx0 Lk) (fun c => I.getD c 0) (h0F I.length (lkF I.length mx0 Lk) Hs) tm) (warH I.length (lkF I.length (dgF I.length) Lk) I.length)) := by
  refine s_enter Try.func18 rfl Try.ntmps18 [.agg (wdA aw IW.length cw al Lk.length cl ah Hs.length ch), .slice ai I.length ci, .int .i64 ((tm : Nat) : Int)] [.agg (wdA aw IW.length cw al Lk.length cl ah Hs.length ch), .slice ai I.length ci, .int .i64 ((tm : Nat) : Int), undef, undef, undef, undef, undef, undef, undef, undef, undef, undef, undef, undef, undef, undef, undef, undef, undef, undef, undef, undef, undef, undef, undef, undef, undef, undef, undef, undef, undef, undef, undef, undef, undef, undef, undef, undef, undef, undef, undef, undef, undef, undef, undef, undef, undef, undef, undef, undef, undef, undef, undef, undef, undef, undef, undef, undef, undef, undef, undef, undef, undef, undef, undef, undef, undef, undef, undef, undef, undef, undef, undef, undef, undef, undef, undef, undef, undef, undef, undef, undef, undef, undef, undef, undef, undef, undef, undef, undef, undef, undef, undef, undef, undef, undef, undef, undef, undef, undef, undef, undef, undef, undef, undef, undef, undef, undef, undef, undef, undef, undef, undef, undef, undef, undef, undef, undef, undef, undef, undef, undef, undef, undef, undef, undef, undef, undef, undef, undef, undef, undef, undef, undef, undef, undef, undef, undef, undef, undef, undef, undef, undef, undef, undef, undef, undef, undef, undef, undef, undef, undef, undef, undef, undef, undef, undef, undef, undef, undef, undef, undef, undef, undef, undef, undef, undef, undef, undef, undef, undef, undef, undef, undef, undef, undef, undef, undef, undef, undef, undef, undef, undef, undef, undef, undef, undef, undef, undef, undef, undef, undef, undef, undef, undef, undef, undef, undef, undef, undef, undef, undef, undef, undef, undef, undef, undef, undef, undef, undef, undef, undef, undef, undef, undef, undef, undef, undef, undef, undef, undef, undef, undef, undef, undef, undef, undef, undef, undef, undef, undef, undef, undef, undef, undef, undef, undef, undef, undef, undef, undef, undef, undef, undef, undef, undef, undef, undef, undef, undef, undef, undef, undef, undef, undef, undef, undef, undef, undef, undef, undef, undef] rfl ?_
  have GG := Gro.refl w
  refine wp_seq ?_
  refine wp_region_lit ?_
  refine s_box 3 rfl rfl 45 _ rfl _ rfl (wdA aw IW.length cw al Lk.length cl ah Hs.length ch) rfl ?_
  intro w1 g1 G eg1 kg1
  have bg1 := size_base GG eg1
  replace GG := GG.trans G
  clear G
  clear eg1
  refine nr ?_; intro U h; simp only [z0, z1] at h; subst h
  refine s_val 6 rfl rfl (.slice none 0 0) (rfl) ?_
  refine nr ?_; intro U h; simp only [z0, z1] at h; subst h
  refine s_alloc 7 rfl rfl 47 rfl _ zeroM (mxA mx0) rfl ?_
  intro w2 g2 G eg2 kg2
  have bg2 := size_base GG eg2
  have dg1g2 := lt_new kg1 eg2
  replace kg1 := G.has kg1
  replace GG := GG.trans G
  clear G
  clear eg2
  refine nr ?_; intro U h; simp only [z0, z1] at h; subst h
  refine wpList_nil ?_
  refine then_n ?_
  refine wp_seq ?_
  refine wp_region_lit ?_
  refine s_alloc 8 rfl rfl 47 rfl _ zeroM (mxA mx0) rfl ?_
  intro w3 g3 G eg3 kg3
  have bg3 := size_base GG eg3
  have dg1g3 := lt_new kg1 eg3
  have dg2g3 := lt_new kg2 eg3
  replace kg1 := G.has kg1
  replace kg2 := G.has kg2
  replace GG := GG.trans G
  clear G
  clear eg3
  refine nr ?_; intro U h; simp only [z0, z1] at h; subst h
  refine s_alloc 9 rfl rfl 47 rfl _ zeroM (mxA mx0) rfl ?_
  intro w4 g4 G eg4 kg4
  have bg4 := size_base GG eg4
  have dg1g4 := lt_new kg1 eg4
  have dg2g4 := lt_new kg2 eg4
  have dg3g4 := lt_new kg3 eg4
  replace kg1 := G.has kg1
  replace kg2 := G.has kg2
  replace kg3 := G.has kg3
  replace GG := GG.trans G
  clear G
  clear eg4
  refine nr ?_; intro U h; simp only [z0, z1] at h; subst h
  refine wpList_nil ?_
  refine then_n ?_
  refine wp_seq ?_
  refine wp_seq ?_
  refine wp_region_lit ?_
  refine s_val 27 rfl rfl (.slice ai I.length ci) (rfl) ?_
  refine nr ?_; intro U h; simp only [z0, z1] at h; subst h
  refine s_val 28 rfl rfl (.int .i64 ((I.length : Nat) : Int)) (run_len Try.underlying41 _ rfl _ _ _ rfl _) ?_
  refine nr ?_; intro U h; simp only [z0, z1] at h; subst h
  refine s_val 29 rfl rfl (.int .i64 0) (rfl) ?_
  refine nr ?_; intro U h; simp only [z0, z1] at h; subst h
  refine wpList_nil ?_
  refine then_n ?_
  refine wp_block ?_
  refine wp_loopN (fun mz az wv => ∃ (i : Nat) (us1 : Nat → Value), mz = I.length + 1 - i ∧ az = ⟨[.agg (wdA aw IW.length cw al Lk.length cl ah Hs.length ch), .slice ai I.length ci, .int .i64 ((tm : Nat) : Int), .pointer (some ⟨g1, 0, none⟩), undef, undef, .slice none 0 0, .pointer (some ⟨g2, 0, none⟩), .pointer (some ⟨g3, 0, none⟩), .pointer (some ⟨g4, 0, none⟩), us1 0, undef, undef, undef, undef, undef, undef, undef, undef, undef, undef, undef, undef, undef, undef, undef, undef, .slice ai I.length ci, .int .i64 ((I.length : Nat) : Int), .int .i64 ((i : Nat) : Int), us1 1, us1 2, us1 3, us1 4, us1 5, us1 6, us1 7, undef, undef, undef, undef, undef, undef, undef, undef, undef, undef, undef, undef, undef, undef, undef, undef, undef, undef, undef, undef, undef, undef, undef, undef, undef, undef, undef, undef, undef, undef, undef, undef, undef, undef, undef, undef, undef, undef, undef, undef, undef, undef, undef, undef, undef, undef, undef, undef, undef, undef, undef, undef, undef, undef, undef, undef, undef, undef, undef, undef, undef, undef, undef, undef, undef, undef, undef, undef, undef, undef, undef, undef, undef, undef, undef, undef, undef, undef, undef, undef, undef, undef, undef, undef, undef, undef, undef, undef, undef, undef, undef, undef, undef, undef, undef, undef, undef, undef, undef, undef, undef, undef, undef, undef, undef, undef, undef, undef, undef, undef, undef, undef, undef, undef, undef, undef, undef, undef, undef, undef, undef, undef, undef, undef, undef, undef, undef, undef, undef, undef, undef, undef, undef, undef, undef, undef, undef, undef, undef, undef, undef, undef, undef, undef, undef, undef, undef, undef, undef, undef, undef, undef, undef, undef, undef, undef, undef, undef, undef, undef, undef, undef, undef, undef, undef, undef, undef, undef, undef, undef, undef, undef, undef, undef, undef, undef, undef, undef, undef, undef, undef, undef, undef, undef, undef, undef, undef, undef, undef, undef, undef, undef, undef, undef, undef, undef, undef, undef, undef, undef, undef, undef, undef, undef, undef, undef, undef, undef, undef, undef, undef, undef, undef, undef, undef, undef, undef, undef, undef, undef, undef, undef, undef, undef, undef, undef].toArray, []⟩ ∧ i ≤ I.length ∧ Gro w wv ∧ wv.heap[g1]? = some (.cells (wdA aw IW.length cw al Lk.length cl ah Hs.length ch) 45 (0, 0)) ∧ wv.heap[g2]? = some (.cells (mxA mx0) 47 (0, 0)) ∧ wv.heap[g3]? = some (.cells (mxA mx0) 47 (0, 0)) ∧ wv.heap[g4]? = some (.cells (mxA (dgF i)) 47 (0, 0))) ?_ _ ⟨0, (fun kz => ([undef, undef, undef, undef, undef, undef, undef, undef] : List Value).getD kz undef), rfl, rfl, Nat.zero_le _, GG, kg1, kg2, kg3, dg_0 ▸ kg4⟩
  clear GG kg1 kg2 kg3 kg4
  rintro mz az wv ⟨i, us1, rfl, rfl, hi, GG, kg1, kg2, kg3, kg4⟩
  refine wp_seq ?_
  refine wp_region_lit ?_
  cases hi1 : decide (((i : Nat) : Int) < ((I.length : Nat) : Int))
  · have hie : i = I.length := by have := of_decide_eq_false hi1; omega
    refine s_val 30 rfl rfl (.bool false) (run_lssT 3 _ _ _ rfl ((i : Nat) : Int) ((I.length : Nat) : Int) rfl rfl false hi1 _) ?_
    refine nr ?_; intro U h; simp only [z0, z1] at h; subst h
    refine wpList_nil ?_
    refine then_n ?_
    refine wp_seq ?_
    refine wp_cond_false rfl ?_
    refine wp_exit ?_
    refine then_x ?_
    refine then_x ?_
    refine blk_x ?_
    refine then_n ?_
    refine wp_seq ?_
    refine wp_seq ?_
    refine wp_region_lit ?_
    refine s_val 37 rfl rfl (.pointer (some ⟨g1, 1, none⟩)) (run_fld 45 _ 1 rfl g1 0 rfl 1 (by kernel_rfl)) ?_
    refine nr ?_; intro U h; simp only [z0, z1] at h; subst h
    refine s_val 38 rfl rfl (.slice al Lk.length cl) (ldWl _ rfl g1 rfl (kg1)) ?_
    refine nr ?_; intro U h; simp only [z0, z1] at h; subst h
    refine s_val 39 rfl rfl (.int .i64 ((Lk.length : Nat) : Int)) (run_len Try.underlying42 _ rfl _ _ _ rfl _) ?_
    refine nr ?_; intro U h; simp only [z0, z1] at h; subst h
    refine s_val 40 rfl rfl (.int .i64 0) (rfl) ?_
    refine nr ?_; intro U h; simp only [z0, z1] at h; subst h
    refine wpList_nil ?_
    refine then_n ?_
    refine wp_block ?_
    rw [hie] at kg4
    refine wp_loopN (fun mz az wv => ∃ (q : Nat) (us2 : Nat → Value), mz = Lk.length + 1 - q ∧ az = ⟨[.agg (wdA aw IW.length cw al Lk.length cl ah Hs.length ch), .slice ai I.length ci, .int .i64 ((tm : Nat) : Int), .pointer (some ⟨g1, 0, none⟩), undef, undef, .slice none 0 0, .pointer (some ⟨g2, 0, none⟩), .pointer (some ⟨g3, 0, none⟩), .pointer (some ⟨g4, 0, none⟩), us1 0, undef, us2 0, us2 1, us2 2, undef, undef, undef, undef, undef, undef, undef, undef, undef, undef, undef, undef, .slice ai I.length ci, .int .i64 ((I.length : Nat) : Int), .int .i64 ((i : Nat) : Int), .bool false, us1 2, us1 3, us1 4, us1 5, us1 6, us1 7, .pointer (some ⟨g1, 1, none⟩), .slice al Lk.length cl, .int .i64 ((Lk.length : Nat) : Int), .int .i64 ((q : Nat) : Int), us2 3, us2 4, us2 5, us2 6, us2 7, us2 8, us2 9, us2 10, us2 11, us2 12, us2 13, us2 14, us2 15, us2 16, us2 17, us2 18, us2 19, us2 20, us2 21, us2 22, us2 23, us2 24, us2 25, us2 26, us2 27, us2 28, us2 29, us2 30, us2 31, us2 32, us2 33, us2 34, us2 35, us2 36, us2 37, us2 38, us2 39, us2 40, us2 41, us2 42, us2 43, us2 44, us2 45, us2 46, us2 47, us2 48, us2 49, undef, undef, undef, undef, undef, undef, undef, undef, undef, undef, undef, undef, undef, undef, undef, undef, undef, undef, undef, undef, undef, undef, undef, undef, undef, undef, undef, undef, undef, undef, undef, undef, undef, undef, undef, undef, undef, undef, undef, undef, undef, undef, undef, undef, undef, undef, undef, undef, undef, undef, undef, undef, undef, undef, undef, undef, undef, undef, undef, undef, undef, undef, undef, undef, undef, undef, undef, undef, undef, undef, undef, undef, undef, undef, undef, undef, undef, undef, undef, undef, undef, undef, undef, undef, undef, undef, undef, undef, undef, undef, undef, undef, undef, undef, undef, undef, undef, undef, undef, undef, undef, undef, undef, undef, undef, undef, undef, undef, undef, undef, undef, undef, undef, undef, undef, undef, undef, undef, undef, undef, undef, undef, undef, undef, undef, undef, undef, undef, undef, undef, undef, undef, undef, undef, undef, undef, undef, undef, undef, undef, undef, undef, undef, undef, undef, undef, undef, undef, undef, undef, undef, undef, undef, undef, undef, undef, undef, undef, undef, undef, undef, undef, undef, undef, undef, undef, undef, undef, undef, undef, undef, undef, undef, undef, undef].toArray, []⟩ ∧ q ≤ Lk.length ∧ Gro w wv ∧ wv.heap[g1]? = some (.cells (wdA aw IW.length cw al Lk.length cl ah Hs.length ch) 45 (0, 0)) ∧ wv.heap[g2]? = some (.cells (mxA mx0) 47 (0, 0)) ∧ wv.heap[g3]? = some (.cells (mxA (lkF I.length mx0 (Lk.take q))) 47 (0, 0)) ∧ wv.heap[g4]? = some (.cells (mxA (lkF I.length (dgF I.length) (Lk.take q))) 47 (0, 0))) ?_ _ ⟨0, (fun kz => ([undef, undef, undef, undef, undef, undef, undef, undef, undef, undef, undef, undef, undef, undef, undef, undef, undef, undef, undef, undef, undef, undef, undef, undef, undef, undef, undef, undef, undef, undef, undef, undef, undef, undef, undef, undef, undef, undef, undef, undef, undef, undef, undef, undef, undef, undef, undef, undef, undef, undef] : List Value).getD kz undef), rfl, rfl, Nat.zero_le _, GG, kg1, kg2, kg3, kg4⟩
    clear GG kg1 kg2 kg3 kg4
    rintro mz az wv ⟨q, us2, rfl, rfl, hq, GG, kg1, kg2, kg3, kg4⟩
    refine wp_seq ?_
    refine wp_region_lit ?_
    cases hq1 : decide (((q : Nat) : Int) < ((Lk.length : Nat) : Int))
    · have hqe : q = Lk.length := by have := of_decide_eq_false hq1; omega
      refine s_val 41 rfl rfl (.bool false) (run_lssT 3 _ _ _ rfl ((q : Nat) : Int) ((Lk.length : Nat) : Int) rfl rfl false hq1 _) ?_
      refine nr ?_; intro U h; simp only [z0, z1] at h; subst h
      refine wpList_nil ?_
      refine then_n ?_
      refine wp_seq ?_
      refine wp_cond_false rfl ?_
      refine wp_exit ?_
      refine then_x ?_
      refine then_x ?_
      refine blk_x ?_
      refine then_n ?_
      refine wp_seq ?_
      refine wp_seq ?_
      refine wp_region_lit ?_
      refine s_val 88 rfl rfl (.slice ai I.length ci) (rfl) ?_
      refine nr ?_; intro U h; simp only [z0, z1] at h; subst h
      refine s_val 89 rfl rfl (.int .i64 ((I.length : Nat) : Int)) (run_len Try.underlying41 _ rfl _ _ _ rfl _) ?_
      refine nr ?_; intro U h; simp only [z0, z1] at h; subst h
      refine s_val 90 rfl rfl (.int .i64 0) (rfl) ?_
      refine nr ?_; intro U h; simp only [z0, z1] at h; subst h
      refine wpList_nil ?_
      refine then_n ?_
      refine wp_block ?_
      rw [hqe, List.take_length] at kg3 kg4
      refine wp_loopN (fun mz az wv => ∃ (k : Nat) (us3 : Nat → Value), mz = I.length + 1 - k ∧ az = ⟨[.agg (wdA aw IW.length cw al Lk.length cl ah Hs.length ch), .slice ai I.length ci, .int .i64 ((tm : Nat) : Int), .pointer (some ⟨g1, 0, none⟩), undef, undef, .slice none 0 0, .pointer (some ⟨g2, 0, none⟩), .pointer (some ⟨g3, 0, none⟩), .pointer (some ⟨g4, 0, none⟩), us1 0, undef, us2 0, us2 1, us2 2, us3 0, us3 1, us3 2, undef, undef, undef, undef, undef, undef, undef, undef, undef, .slice ai I.length ci, .int .i64 ((I.length : Nat) : Int), .int .i64 ((i : Nat) : Int), .bool false, us1 2, us1 3, us1 4, us1 5, us1 6, us1 7, .pointer (some ⟨g1, 1, none⟩), .slice al Lk.length cl, .int .i64 ((Lk.length : Nat) : Int), .int .i64 ((q : Nat) : Int), .bool false, us2 4, us2 5, us2 6, us2 7, us2 8, us2 9, us2 10, us2 11, us2 12, us2 13, us2 14, us2 15, us2 16, us2 17, us2 18, us2 19, us2 20, us2 21, us2 22, us2 23, us2 24, us2 25, us2 26, us2 27, us2 28, us2 29, us2 30, us2 31, us2 32, us2 33, us2 34, us2 35, us2 36, us2 37, us2 38, us2 39, us2 40, us2 41, us2 42, us2 43, us2 44, us2 45, us2 46, us2 47, us2 48, us2 49, .slice ai I.length ci, .int .i64 ((I.length : Nat) : Int), .int .i64 ((k : Nat) : Int), us3 3, us3 4, us3 5, us3 6, us3 7, us3 8, us3 9, us3 10, us3 11, us3 12, us3 13, us3 14, us3 15, us3 16, us3 17, us3 18, us3 19, us3 20, us3 21, us3 22, us3 23, us3 24, us3 25, us3 26, us3 27, us3 28, us3 29, us3 30, us3 31, us3 32, us3 33, us3 34, us3 35, us3 36, us3 37, us3 38, us3 39, us3 40, undef, undef, undef, undef, undef, undef, undef, undef, undef, undef, undef, undef, undef, undef, undef, undef, undef, undef, undef, undef, undef, undef, undef, undef, undef, undef, undef, undef, undef, undef, undef, undef, undef, undef, undef, undef, undef, undef, undef, undef, undef, undef, undef, undef, undef, undef, undef, undef, undef, undef, undef, undef, undef, undef, undef, undef, undef, undef, undef, undef, undef, undef, undef, undef, undef, undef, undef, undef, undef, undef, undef, undef, undef, undef, undef, undef, undef, undef, undef, undef, undef, undef, undef, undef, undef, undef, undef, undef, undef, undef, undef, undef, undef, undef, undef, undef, undef, undef, undef, undef, undef, undef, undef, undef, undef, undef, undef, undef, undef, undef, undef, undef, undef, undef, undef, undef, undef, undef, undef, undef, undef, undef, undef, undef, undef, undef, undef, undef, undef, undef, undef, undef, undef, undef].toArray, []⟩ ∧ k ≤ I.length ∧ Gro w wv ∧ wv.heap[g1]? = some (.cells (wdA aw IW.length cw al Lk.length cl ah Hs.length ch) 45 (0, 0)) ∧ wv.heap[g2]? = some (.cells (mxA mx0) 47 (0, 0)) ∧ wv.heap[g3]? = some (.cells (mxA (lkF I.length mx0 Lk)) 47 (0, 0)) ∧ wv.heap[g4]? = some (.cells (mxA (warH I.length (lkF I.length (dgF I.length) Lk) k)) 47 (0, 0))) ?_ _ ⟨0, (fun kz => ([undef, undef, undef, undef, undef, undef, undef, undef, undef, undef, undef, undef, undef, undef, undef, undef, undef, undef, undef, undef, undef, undef, undef, undef, undef, undef, undef, undef, undef, undef, undef, undef, undef, undef, undef, undef, undef, undef, undef, undef, undef] : List Value).getD kz undef), rfl, rfl, Nat.zero_le _, GG, kg1, kg2, kg3, kg4⟩
      clear GG kg1 kg2 kg3 kg4
      rintro mz az wv ⟨k, us3, rfl, rfl, hk, GG, kg1, kg2, kg3, kg4⟩
      refine wp_seq ?_
      refine wp_region_lit ?_
      cases hk1 : decide (((k : Nat) : Int) < ((I.length : Nat) : Int))
      · have hke : k = I.length := by have := of_decide_eq_false hk1; omega
        refine s_val 91 rfl rfl (.bool false) (run_lssT 3 _ _ _ rfl ((k : Nat) : Int) ((I.length : Nat) : Int) rfl rfl false hk1 _) ?_
        refine nr ?_; intro U h; simp only [z0, z1] at h; subst h
        refine wpList_nil ?_
        refine then_n ?_
        refine wp_seq ?_
        refine wp_cond_false rfl ?_
        refine wp_exit ?_
        refine then_x ?_
        refine then_x ?_
        refine blk_x ?_
        refine then_n ?_
        refine wp_seq ?_
        refine wp_region_lit ?_
        refine s_val 129 rfl rfl (.slice ai I.length ci) (rfl) ?_
        refine nr ?_; intro U h; simp only [z0, z1] at h; subst h
        refine s_val 130 rfl rfl (.int .i64 ((I.length : Nat) : Int)) (run_len Try.underlying41 _ rfl _ _ _ rfl _) ?_
        refine nr ?_; intro U h; simp only [z0, z1] at h; subst h
        refine s_mkK (K := kS) rS rfl 131 rfl rfl _ _ rfl I.length rfl rfl (by omega) (by decide) ?_
        intro w5 gH G egH kgH
        replace kgH : w5.heap[gH]? = some (.cells (hrA I.length (fun _ => (none, 0)) (fun _ => [])) 24 (0, 0)) := by rw [hrA_0]; exact kgH
        have bgH := size_base GG egH
        have dg1gH := lt_new kg1 egH
        have dg2gH := lt_new kg2 egH
        have dg3gH := lt_new kg3 egH
        have dg4gH := lt_new kg4 egH
        replace kg1 := G.has kg1
        replace kg2 := G.has kg2
        replace kg3 := G.has kg3
        replace kg4 := G.has kg4
        replace GG := GG.trans G
        clear G
        clear egH
        refine nr ?_; intro U h; simp only [z0, z1] at h; subst h
        refine s_val 18 rfl rfl (.slice (some ⟨gH, 0, none⟩) I.length I.length) (rfl) ?_
        refine nr ?_; intro U h; simp only [z0, z1] at h; subst h
        refine wpList_nil ?_
        refine then_n ?_
        refine wp_seq ?_
        refine wp_seq ?_
        refine wp_region_lit ?_
        refine s_val 132 rfl rfl (.slice ai I.length ci) (rfl) ?_
        refine nr ?_; intro U h; simp only [z0, z1] at h; subst h
        refine s_val 133 rfl rfl (.int .i64 ((I.length : Nat) : Int)) (run_len Try.underlying41 _ rfl _ _ _ rfl _) ?_
        refine nr ?_; intro U h; simp only [z0, z1] at h; subst h
        refine s_val 134 rfl rfl (.int .i64 0) (rfl) ?_
        refine nr ?_; intro U h; simp only [z0, z1] at h; subst h
        refine wpList_nil ?_
        refine then_n ?_
        refine wp_block ?_
        rw [hke] at kg4
        refine wp_loopN (fun mz az wv => ∃ (a1 : Nat) (f1 : Nat → Option Addr × Nat) (H1 : Nat → List Hd) (us4 : Nat → Value), mz = I.length + 1 - a1 ∧ az = ⟨[.agg (wdA aw IW.length cw al Lk.length cl ah Hs.length ch), .slice ai I.length ci, .int .i64 ((tm : Nat) : Int), .pointer (some ⟨g1, 0, none⟩), undef, undef, .slice none 0 0, .pointer (some ⟨g2, 0, none⟩), .pointer (some ⟨g3, 0, none⟩), .pointer (some ⟨g4, 0, none⟩), us1 0, undef, us2 0, us2 1, us2 2, us3 0, us3 1, us3 2, .slice (some ⟨gH, 0, none⟩) I.length I.length, us4 0, undef, us4 1, undef, undef, undef, undef, undef, .slice ai I.length ci, .int .i64 ((I.length : Nat) : Int), .int .i64 ((i : Nat) : Int), .bool false, us1 2, us1 3, us1 4, us1 5, us1 6, us1 7, .pointer (some ⟨g1, 1, none⟩), .slice al Lk.length cl, .int .i64 ((Lk.length : Nat) : Int), .int .i64 ((q : Nat) : Int), .bool false, us2 4, us2 5, us2 6, us2 7, us2 8, us2 9, us2 10, us2 11, us2 12, us2 13, us2 14, us2 15, us2 16, us2 17, us2 18, us2 19, us2 20, us2 21, us2 22, us2 23, us2 24, us2 25, us2 26, us2 27, us2 28, us2 29, us2 30, us2 31, us2 32, us2 33, us2 34, us2 35, us2 36, us2 37, us2 38, us2 39, us2 40, us2 41, us2 42, us2 43, us2 44, us2 45, us2 46, us2 47, us2 48, us2 49, .slice ai I.length ci, .int .i64 ((I.length : Nat) : Int), .int .i64 ((k : Nat) : Int), .bool false, us3 4, us3 5, us3 6, us3 7, us3 8, us3 9, us3 10, us3 11, us3 12, us3 13, us3 14, us3 15, us3 16, us3 17, us3 18, us3 19, us3 20, us3 21, us3 22, us3 23, us3 24, us3 25, us3 26, us3 27, us3 28, us3 29, us3 30, us3 31, us3 32, us3 33, us3 34, us3 35, us3 36, us3 37, us3 38, us3 39, us3 40, .slice ai I.length ci, .int .i64 ((I.length : Nat) : Int), .slice (some ⟨gH, 0, none⟩) I.length I.length, .slice ai I.length ci, .int .i64 ((I.length : Nat) : Int), .int .i64 ((a1 : Nat) : Int), us4 2, us4 3, us4 4, us4 5, us4 6, us4 7, us4 8, us4 9, us4 10, us4 11, us4 12, us4 13, us4 14, us4 15, us4 16, us4 17, us4 18, us4 19, us4 20, us4 21, us4 22, us4 23, us4 24, us4 25, us4 26, us4 27, us4 28, us4 29, us4 30, us4 31, us4 32, us4 33, us4 34, us4 35, us4 36, us4 37, us4 38, us4 39, us4 40, us4 41, us4 42, us4 43, us4 44, us4 45, us4 46, us4 47, undef, undef, undef, undef, undef, undef, undef, undef, undef, undef, undef, undef, undef, undef, undef, undef, undef, undef, undef, undef, undef, undef, undef, undef, undef, undef, undef, undef, undef, undef, undef, undef, undef, undef, undef, undef, undef, undef, undef, undef, undef, undef, undef, undef, undef, undef, undef, undef, undef, undef, undef, undef, undef, undef, undef, undef, undef, undef, undef, undef, undef, undef, undef, undef, undef, undef, undef, undef, undef, undef, undef, undef, undef, undef, undef, undef, undef, undef, undef, undef, undef, undef].toArray, []⟩ ∧ a1 ≤ I.length ∧ Gro w wv ∧ wv.heap[g1]? = some (.cells (wdA aw IW.length cw al Lk.length cl ah Hs.length ch) 45 (0, 0)) ∧ wv.heap[g2]? = some (.cells (mxA mx0) 47 (0, 0)) ∧ wv.heap[g3]? = some (.cells (mxA (lkF I.length mx0 Lk)) 47 (0, 0)) ∧ wv.heap[g4]? = some (.cells (mxA (warH I.length (lkF I.length (dgF I.length) Lk) I.length)) 47 (0, 0)) ∧ wv.heap[gH]? = some (.cells (hrA I.length f1 H1) 24 (0, 0)) ∧ HFr wv [gH] I.length (lkF I.length mx0 Lk) f1 H1 ∧ (∀ c, c < I.length → H1 c = hD I.length (lkF I.length mx0 Lk) Hs a1 c)) ?_ _ ⟨0, fun _ => (none, 0), fun _ => [], (fun kz => ([undef, undef, undef, undef, undef, undef, undef, undef, undef, undef, undef, undef, undef, undef, undef, undef, undef, undef, undef, undef, undef, undef, undef, undef, undef, undef, undef, undef, undef, undef, undef, undef, undef, undef, undef, undef, undef, undef, undef, undef, undef, undef, undef, undef, undef, undef, undef, undef] : List Value).getD kz undef), rfl, rfl, Nat.zero_le _, GG, kg1, kg2, kg3, kg4, kgH, HFr.nil _ _ _ _, hD_0⟩
        clear GG kg1 kg2 kg3 kg4 kgH
        rintro mz az wv ⟨a1, f1, H1, us4, rfl, rfl, ha1, GG, kg1, kg2, kg3, kg4, kgH, HF, hH1⟩
        refine wp_seq ?_
        refine wp_region_lit ?_
        cases ha11 : decide (((a1 : Nat) : Int) < ((I.length : Nat) : Int))
        · have ha1e : a1 = I.length := by have := of_decide_eq_false ha11; omega
          refine s_val 135 rfl rfl (.bool false) (run_lssT 3 _ _ _ rfl ((a1 : Nat) : Int) ((I.length : Nat) : Int) rfl rfl false ha11 _) ?_
          refine nr ?_; intro U h; simp only [z0, z1] at h; subst h
          refine wpList_nil ?_
          refine then_n ?_
          refine wp_seq ?_
          refine wp_cond_false rfl ?_
          refine wp_exit ?_
          refine then_x ?_
          refine then_x ?_
          refine blk_x ?_
          refine then_n ?_
          refine wp_seq ?_
          refine wp_region_lit ?_
          refine s_val 181 rfl rfl (.slice ai I.length ci) (rfl) ?_
          refine nr ?_; intro U h; simp only [z0, z1] at h; subst h
          refine s_val 182 rfl rfl (.int .i64 ((I.length : Nat) : Int)) (run_len Try.underlying41 _ rfl _ _ _ rfl _) ?_
          refine nr ?_; intro U h; simp only [z0, z1] at h; subst h
          refine s_mkK (K := kH) rH rfl 183 rfl rfl _ _ rfl I.length rfl rfl (by omega) (by decide) ?_
          intro w6 gB G egB kgB
          have bgB := size_base GG egB
          have dHBg1 := blk_ne (lt_new kg1 egB)
          have dHBg2 := blk_ne (lt_new kg2 egB)
          have dHBg3 := blk_ne (lt_new kg3 egB)
          have dHBg4 := blk_ne (lt_new kg4 egB)
          have dHBgH := blk_ne (lt_new kgH egB)
          replace HF := HF.more (Nat.le_of_eq egB)
          replace kg1 := G.has kg1
          replace kg2 := G.has kg2
          replace kg3 := G.has kg3
          replace kg4 := G.has kg4
          replace kgH := G.has kgH
          replace HF := HF.gro G
          replace GG := GG.trans G
          clear G
          have HB : OW kH 26 w6 w.heap.size (some ⟨gB, 0, none⟩) I.length (List.replicate I.length zH) := by
            have h9 := OW.blk (B := w.heap.size) kgB (fun x hx => by rw [List.eq_of_mem_replicate hx]; exact zH_ok) bgB (by rw [List.length_replicate]; omega)
            rw [List.length_replicate] at h9
            exact h9
          clear egB kgB
          refine nr ?_; intro U h; simp only [z0, z1] at h; subst h
          refine s_val 22 rfl rfl (.slice (some ⟨gB, 0, none⟩) I.length I.length) (rfl) ?_
          refine nr ?_; intro U h; simp only [z0, z1] at h; subst h
          refine wpList_nil ?_
          refine then_n ?_
          refine wp_seq ?_
          refine wp_seq ?_
          refine wp_region_lit ?_
          refine s_val 184 rfl rfl (.int .i64 ((tm : Nat) : Int)) (rfl) ?_
          refine nr ?_; intro U h; simp only [z0, z1] at h; subst h
          refine s_val 185 rfl rfl (.int .i64 0) (rfl) ?_
          refine nr ?_; intro U h; simp only [z0, z1] at h; subst h
          refine wpList_nil ?_
          refine then_n ?_
          refine wp_block ?_
          refine wp_loopN (fun mz az wv => ∃ (t : Nat) (f3 : Nat → Option Addr × Nat) (H3 : Nat → List Hd) (B3 : List Hd) (us5 : Nat → Value), mz = tm + 1 - t ∧ az = ⟨[.agg (wdA aw IW.length cw al Lk.length cl ah Hs.length ch), .slice ai I.length ci, .int .i64 ((tm : Nat) : Int), .pointer (some ⟨g1, 0, none⟩), undef, undef, .slice none 0 0, .pointer (some ⟨g2, 0, none⟩), .pointer (some ⟨g3, 0, none⟩), .pointer (some ⟨g4, 0, none⟩), us1 0, undef, us2 0, us2 1, us2 2, us3 0, us3 1, us3 2, .slice (some ⟨gH, 0, none⟩) I.length I.length, us4 0, undef, us4 1, .slice (some ⟨gB, 0, none⟩) I.length I.length, us5 0, us5 1, us5 2, undef, .slice ai I.length ci, .int .i64 ((I.length : Nat) : Int), .int .i64 ((i : Nat) : Int), .bool false, us1 2, us1 3, us1 4, us1 5, us1 6, us1 7, .pointer (some ⟨g1, 1, none⟩), .slice al Lk.length cl, .int .i64 ((Lk.length : Nat) : Int), .int .i64 ((q : Nat) : Int), .bool false, us2 4, us2 5, us2 6, us2 7, us2 8, us2 9, us2 10, us2 11, us2 12, us2 13, us2 14, us2 15, us2 16, us2 17, us2 18, us2 19, us2 20, us2 21, us2 22, us2 23, us2 24, us2 25, us2 26, us2 27, us2 28, us2 29, us2 30, us2 31, us2 32, us2 33, us2 34, us2 35, us2 36, us2 37, us2 38, us2 39, us2 40, us2 41, us2 42, us2 43, us2 44, us2 45, us2 46, us2 47, us2 48, us2 49, .slice ai I.length ci, .int .i64 ((I.length : Nat) : Int), .int .i64 ((k : Nat) : Int), .bool false, us3 4, us3 5, us3 6, us3 7, us3 8, us3 9, us3 10, us3 11, us3 12, us3 13, us3 14, us3 15, us3 16, us3 17, us3 18, us3 19, us3 20, us3 21, us3 22, us3 23, us3 24, us3 25, us3 26, us3 27, us3 28, us3 29, us3 30, us3 31, us3 32, us3 33, us3 34, us3 35, us3 36, us3 37, us3 38, us3 39, us3 40, .slice ai I.length ci, .int .i64 ((I.length : Nat) : Int), .slice (some ⟨gH, 0, none⟩) I.length I.length, .slice ai I.length ci, .int .i64 ((I.length : Nat) : Int), .int .i64 ((a1 : Nat) : Int), .bool false, us4 3, us4 4, us4 5, us4 6, us4 7, us4 8, us4 9, us4 10, us4 11, us4 12, us4 13, us4 14, us4 15, us4 16, us4 17, us4 18, us4 19, us4 20, us4 21, us4 22, us4 23, us4 24, us4 25, us4 26, us4 27, us4 28, us4 29, us4 30, us4 31, us4 32, us4 33, us4 34, us4 35, us4 36, us4 37, us4 38, us4 39, us4 40, us4 41, us4 42, us4 43, us4 44, us4 45, us4 46, us4 47, .slice ai I.length ci, .int .i64 ((I.length : Nat) : Int), .slice (some ⟨gB, 0, none⟩) I.length I.length, .int .i64 ((tm : Nat) : Int), .int .i64 ((t : Nat) : Int), us5 3, us5 4, us5 5, us5 6, us5 7, us5 8, us5 9, us5 10, us5 11, us5 12, us5 13, us5 14, us5 15, us5 16, us5 17, us5 18, us5 19, us5 20, us5 21, us5 22, us5 23, us5 24, us5 25, us5 26, us5 27, us5 28, us5 29, us5 30, us5 31, us5 32, us5 33, us5 34, us5 35, us5 36, us5 37, us5 38, us5 39, us5 40, us5 41, us5 42, us5 43, us5 44, us5 45, us5 46, us5 47, us5 48, us5 49, us5 50, us5 51, us5 52, us5 53, us5 54, us5 55, us5 56, us5 57, us5 58, us5 59, undef, undef, undef, undef, undef, undef, undef, undef, undef, undef, undef, undef, undef, undef, undef, undef, undef, undef, undef, undef].toArray, []⟩ ∧ t ≤ tm ∧ Gro w wv ∧ wv.heap[g1]? = some (.cells (wdA aw IW.length cw al Lk.length cl ah Hs.length ch) 45 (0, 0)) ∧ wv.heap[g2]? = some (.cells (mxA mx0) 47 (0, 0)) ∧ wv.heap[g3]? = some (.cells (mxA (lkF I.length mx0 Lk)) 47 (0, 0)) ∧ wv.heap[g4]? = some (.cells (mxA (warH I.length (lkF I.length (dgF I.length) Lk) I.length)) 47 (0, 0)) ∧ wv.heap[gH]? = some (.cells (hrA I.length f3 H3) 24 (0, 0)) ∧ HFr wv [gB, gH] I.length (lkF I.length mx0 Lk) f3 H3 ∧ OW kH 26 wv w.heap.size (some ⟨gB, 0, none⟩) I.length B3 ∧ B3.length = I.length ∧ (∀ c, c < I.length → H3 c = hrdT I.length (lkF I.length mx0 Lk) (fun c => I.getD c 0) (h0F I.length (lkF I.length mx0 Lk) Hs) t c)) ?_ _ ⟨0, f1, H1, List.replicate I.length zH, (fun kz => ([undef, undef, undef, undef, undef, undef, undef, undef, undef, undef, undef, undef, undef, undef, undef, undef, undef, undef, undef, undef, undef, undef, undef, undef, undef, undef, undef, undef, undef, undef, undef, undef, undef, undef, undef, undef, undef, undef, undef, undef, undef, undef, undef, undef, undef, undef, undef, undef, undef, undef, undef, undef, undef, undef, undef, undef, undef, undef, undef, undef] : List Value).getD kz undef), rfl, rfl, Nat.zero_le _, GG, kg1, kg2, kg3, kg4, kgH, HF, HB, List.length_replicate, hD_end hH1 ha1e⟩
          clear GG kg1 kg2 kg3 kg4 kgH HF HB
          rintro mz az wv ⟨t, f3, H3, B3, us5, rfl, rfl, ht, GG, kg1, kg2, kg3, kg4, kgH, HF, HB, hBl, hH3⟩
          refine wp_seq ?_
          refine wp_region_lit ?_
          cases ht1 : decide (((t : Nat) : Int) < ((tm : Nat) : Int))
          · have hte : t = tm := by have := of_decide_eq_false ht1; omega
            refine s_val 186 rfl rfl (.bool false) (run_lssT 3 _ _ _ rfl ((t : Nat) : Int) ((tm : Nat) : Int) rfl rfl false ht1 _) ?_
            refine nr ?_; intro U h; simp only [z0, z1] at h; subst h
            refine wpList_nil ?_
            refine then_n ?_
            refine wp_seq ?_
            refine wp_cond_false rfl ?_
            refine wp_exit ?_
            refine then_x ?_
            refine then_x ?_
            refine blk_x ?_
            refine then_n ?_
            refine wp_seq ?_
            refine wp_seq ?_
            refine wp_region_lit ?_
            refine s_val 243 rfl rfl (.slice ai I.length ci) (rfl) ?_
            refine nr ?_; intro U h; simp only [z0, z1] at h; subst h
            refine s_val 244 rfl rfl (.int .i64 ((I.length : Nat) : Int)) (run_len Try.underlying41 _ rfl _ _ _ rfl _) ?_
            refine nr ?_; intro U h; simp only [z0, z1] at h; subst h
            refine s_val 245 rfl rfl (.int .i64 0) (rfl) ?_
            refine nr ?_; intro U h; simp only [z0, z1] at h; subst h
            refine wpList_nil ?_
            refine then_n ?_
            refine wp_block ?_
            refine wp_loopN (fun mz az wv => ∃ (a7 : Nat) (B7 : List Hd) (us6 : Nat → Value), mz = I.length + 1 - a7 ∧ az = ⟨[.agg (wdA aw IW.length cw al Lk.length cl ah Hs.length ch), .slice ai I.length ci, .int .i64 ((tm : Nat) : Int), .pointer (some ⟨g1, 0, none⟩), undef, undef, .slice none 0 0, .pointer (some ⟨g2, 0, none⟩), .pointer (some ⟨g3, 0, none⟩), .pointer (some ⟨g4, 0, none⟩), us1 0, undef, us2 0, us2 1, us2 2, us3 0, us3 1, us3 2, .slice (some ⟨gH, 0, none⟩) I.length I.length, us4 0, undef, us4 1, .slice (some ⟨gB, 0, none⟩) I.length I.length, us5 0, us5 1, us5 2, us6 0, .slice ai I.length ci, .int .i64 ((I.length : Nat) : Int), .int .i64 ((i : Nat) : Int), .bool false, us1 2, us1 3, us1 4, us1 5, us1 6, us1 7, .pointer (some ⟨g1, 1, none⟩), .slice al Lk.length cl, .int .i64 ((Lk.length : Nat) : Int), .int .i64 ((q : Nat) : Int), .bool false, us2 4, us2 5, us2 6, us2 7, us2 8, us2 9, us2 10, us2 11, us2 12, us2 13, us2 14, us2 15, us2 16, us2 17, us2 18, us2 19, us2 20, us2 21, us2 22, us2 23, us2 24, us2 25, us2 26, us2 27, us2 28, us2 29, us2 30, us2 31, us2 32, us2 33, us2 34, us2 35, us2 36, us2 37, us2 38, us2 39, us2 40, us2 41, us2 42, us2 43, us2 44, us2 45, us2 46, us2 47, us2 48, us2 49, .slice ai I.length ci, .int .i64 ((I.length : Nat) : Int), .int .i64 ((k : Nat) : Int), .bool false, us3 4, us3 5, us3 6, us3 7, us3 8, us3 9, us3 10, us3 11, us3 12, us3 13, us3 14, us3 15, us3 16, us3 17, us3 18, us3 19, us3 20, us3 21, us3 22, us3 23, us3 24, us3 25, us3 26, us3 27, us3 28, us3 29, us3 30, us3 31, us3 32, us3 33, us3 34, us3 35, us3 36, us3 37, us3 38, us3 39, us3 40, .slice ai I.length ci, .int .i64 ((I.length : Nat) : Int), .slice (some ⟨gH, 0, none⟩) I.length I.length, .slice ai I.length ci, .int .i64 ((I.length : Nat) : Int), .int .i64 ((a1 : Nat) : Int), .bool false, us4 3, us4 4, us4 5, us4 6, us4 7, us4 8, us4 9, us4 10, us4 11, us4 12, us4 13, us4 14, us4 15, us4 16, us4 17, us4 18, us4 19, us4 20, us4 21, us4 22, us4 23, us4 24, us4 25, us4 26, us4 27, us4 28, us4 29, us4 30, us4 31, us4 32, us4 33, us4 34, us4 35, us4 36, us4 37, us4 38, us4 39, us4 40, us4 41, us4 42, us4 43, us4 44, us4 45, us4 46, us4 47, .slice ai I.length ci, .int .i64 ((I.length : Nat) : Int), .slice (some ⟨gB, 0, none⟩) I.length I.length, .int .i64 ((tm : Nat) : Int), .int .i64 ((t : Nat) : Int), .bool false, us5 4, us5 5, us5 6, us5 7, us5 8, us5 9, us5 10, us5 11, us5 12, us5 13, us5 14, us5 15, us5 16, us5 17, us5 18, us5 19, us5 20, us5 21, us5 22, us5 23, us5 24, us5 25, us5 26, us5 27, us5 28, us5 29, us5 30, us5 31, us5 32, us5 33, us5 34, us5 35, us5 36, us5 37, us5 38, us5 39, us5 40, us5 41, us5 42, us5 43, us5 44, us5 45, us5 46, us5 47, us5 48, us5 49, us5 50, us5 51, us5 52, us5 53, us5 54, us5 55, us5 56, us5 57, us5 58, us5 59, .slice ai I.length ci, .int .i64 ((I.length : Nat) : Int), .int .i64 ((a7 : Nat) : Int), us6 1, us6 2, us6 3, us6 4, us6 5, us6 6, us6 7, us6 8, us6 9, us6 10, us6 11, us6 12, us6 13, us6 14, us6 15, undef, undef].toArray, []⟩ ∧ a7 ≤ I.length ∧ Gro w wv ∧ wv.heap[g1]? = some (.cells (wdA aw IW.length cw al Lk.length cl ah Hs.length ch) 45 (0, 0)) ∧ wv.heap[g2]? = some (.cells (mxA mx0) 47 (0, 0)) ∧ wv.heap[g3]? = some (.cells (mxA (lkF I.length mx0 Lk)) 47 (0, 0)) ∧ wv.heap[g4]? = some (.cells (mxA (warH I.length (lkF I.length (dgF I.length) Lk) I.length)) 47 (0, 0)) ∧ wv.heap[gH]? = some (.cells (hrA I.length f3 H3) 24 (0, 0)) ∧ HFr wv [gB, gH] I.length (lkF I.length mx0 Lk) f3 H3 ∧ OW kH 26 wv w.heap.size (some ⟨gB, 0, none⟩) I.length B7 ∧ B7.length = I.length ∧ (∀ c, c < a7 → B7.getD c zH = (bstT I.length (lkF I.length mx0 Lk) (fun c => I.getD c 0) (h0F I.length (lkF I.length mx0 Lk) Hs) t) c)) ?_ _ ⟨0, B3, (fun kz => ([undef, undef, undef, undef, undef, undef, undef, undef, undef, undef, undef, undef, undef, undef, undef, undef] : List Value).getD kz undef), rfl, rfl, Nat.zero_le _, GG, kg1, kg2, kg3, kg4, kgH, HF, HB, hBl, (fun c hc => by omega)⟩
            clear GG kg1 kg2 kg3 kg4 kgH HF HB
            rintro mz az wv ⟨a7, B7, us6, rfl, rfl, ha7, GG, kg1, kg2, kg3, kg4, kgH, HF, HB, hBl, hb7⟩
            refine wp_seq ?_
            refine wp_region_lit ?_
            cases ha71 : decide (((a7 : Nat) : Int) < ((I.length : Nat) : Int))
            · have ha7e : a7 = I.length := by have := of_decide_eq_false ha71; omega
              refine s_val 246 rfl rfl (.bool false) (run_lssT 3 _ _ _ rfl ((a7 : Nat) : Int) ((I.length : Nat) : Int) rfl rfl false ha71 _) ?_
              refine nr ?_; intro U h; simp only [z0, z1] at h; subst h
              refine wpList_nil ?_
              refine then_n ?_
              refine wp_seq ?_
              refine wp_cond_false rfl ?_
              refine wp_exit ?_
              refine then_x ?_
              refine then_x ?_
              refine blk_x ?_
              refine then_n ?_
              refine wp_seq ?_
              clear HF
              refine wp_region_exA (A := ?Ax1) 3 [(0, 261), (1, 262), (2, 6)] [.val (.slice (some ⟨gB, 0, none⟩) I.length I.length), .val (.agg (mxA (warH I.length (lkF I.length (dgF I.length) Lk) I.length))), .val (.slice (some ⟨gB, 0, none⟩) I.length I.length)] follows (by kernel_rfl) rfl ?hAx1 (opsA_cons ?o0x1 (opsA_cons ?o1x1 (opsA_cons ?o2x1 opsA_nil))) ?restx1
              case hAx1 =>
                intro ptrs
                simp only [full, foldSlots, filledE, postE, List.foldl_cons, List.foldl_nil, List.getD_cons_zero, List.getD_cons_succ, fill_val, List.set_cons_zero, List.set_cons_succ]
                exact rfl
              case o0x1 => exact fun _ _ _ _ => opE_move (v := .slice (some ⟨gB, 0, none⟩) I.length I.length) _ rfl rfl rfl
              case o1x1 => exact fun _ _ hw _ => opE_value (v := .agg (mxA (warH I.length (lkF I.length (dgF I.length) Lk) I.length))) rfl (ldM0 _ rfl g4 rfl (hw.has kg4))
              case o2x1 => exact fun _ _ _ _ => opE_assign (v := .slice (some ⟨gB, 0, none⟩) I.length I.length) _ rfl rfl rfl
              intro ptrs w7 GD hxE
              simp only [List.drop_succ_cons, List.drop_zero]
              replace kg1 := GD.has kg1
              replace kg2 := GD.has kg2
              replace kg3 := GD.has kg3
              replace kg4 := GD.has kg4
              replace kgH := GD.has kgH
              replace HB := HB.gro ((Gro.refl _).drew.trans GD)
              replace GG := GG.drew.trans GD
              clear GD
              refine s_store rfl rfl 47 _ _ rfl g2 0 rfl (.agg (mxA (warH I.length (lkF I.length (dgF I.length) Lk) I.length))) rfl 47 _ kg2 (mxA (warH I.length (lkF I.length (dgF I.length) Lk) I.length)) rfl (siM' _) (mxA_fit _ _) (mxA_one _) (mxA (warH I.length (lkF I.length (dgF I.length) Lk) I.length)) (splice_whole _ _ (mxA_sz _ _)) ?_
              intro w8 St
              have kS := kg2
              replace kg1 := St.has (by omega) kg1
              replace kg3 := St.has (by omega) kg3
              replace kg4 := St.has (by omega) kg4
              replace kgH := St.has (by omega) kgH
              replace HB := HB.st St dHBg2
              replace GG := GG.store St bg2
              replace kg2 := St.new
              clear St
              refine wpList_nil ?_
              refine then_n ?_
              refine wp_ret ?_
              refine bodyPost_ret (results_tmp_cell Try.results18 _ _ g2 47 _ (0, 0) _ rfl (.slice (some ⟨gB, 0, none⟩) I.length I.length) rfl kg2 Try.underlying47 rfl (siM' _)) rfl ?_
              exact ⟨_, _, B7, by rw [hBl], GG, HB.re, hBl, fun c hc => by rw [hb7 c (by omega), hte]⟩
            · have ha7l : a7 < I.length := by have := of_decide_eq_true ha71; omega
              refine s_val 246 rfl rfl (.bool true) (run_lssT 3 _ _ _ rfl ((a7 : Nat) : Int) ((I.length : Nat) : Int) rfl rfl true ha71 _) ?_
              refine nr ?_; intro U h; simp only [z0, z1] at h; subst h
              refine wpList_nil ?_
              refine then_n ?_
              refine wp_seq ?_
              refine wp_cond_true rfl ?_
              refine wp_skip ?_
              refine then_n ?_
              refine wp_seq ?_
              refine wp_block ?_
              refine wp_seq ?_
              refine wp_region_lit ?_
              refine s_val 247 rfl rfl (.int .i64 ((a7 : Nat) : Int)) (rfl) ?_
              refine nr ?_; intro U h; simp only [z0, z1] at h; subst h
              refine s_val 26 rfl rfl (.int .i64 ((a7 : Nat) : Int)) (rfl) ?_
              refine nr ?_; intro U h; simp only [z0, z1] at h; subst h
              refine wpList_nil ?_
              refine then_n ?_
              refine wp_region_exA (A := ?Ax2) 11 [(0, 248), (1, 249), (2, 250), (3, 251), (4, 252), (5, 253), (6, 254), (7, 255), (8, 256), (9, 257), (10, 258)] [.val (.slice (some ⟨gB, 0, none⟩) I.length I.length), .val (.int .i64 ((a7 : Nat) : Int)), .val (.slice ai I.length ci), .val (.int .i64 ((a7 : Nat) : Int)), .val (.pointer (pK kI ai a7 0)), .val (.agg (idA (I.getD a7 0))), .val (.slice (some ⟨gH, 0, none⟩) I.length I.length), .val (.int .i64 ((a7 : Nat) : Int)), .val (.pointer (some ⟨gH, a7, none⟩)), .val (.slice (f3 a7).1 (H3 a7).length (f3 a7).2), .val (.agg (hdA (bestH (I.getD a7 0) (H3 a7))))] follows (by kernel_rfl) rfl ?hAx2 (opsA_cons ?o0x2 (opsA_cons ?o1x2 (opsA_cons ?o2x2 (opsA_cons ?o3x2 (opsA_cons ?o4x2 (opsA_cons ?o5x2 (opsA_cons ?o6x2 (opsA_cons ?o7x2 (opsA_cons ?o8x2 (opsA_cons ?o9x2 (opsA_cons ?o10x2 opsA_nil))))))))))) ?restx2
              case hAx2 =>
                intro ptrs
                simp only [full, foldSlots, filledE, postE, List.foldl_cons, List.foldl_nil, List.getD_cons_zero, List.getD_cons_succ, fill_val, List.set_cons_zero, List.set_cons_succ]
                exact rfl
              case o0x2 => exact fun _ _ _ _ => opE_move (v := .slice (some ⟨gB, 0, none⟩) I.length I.length) _ rfl rfl rfl
              case o1x2 => exact fun _ _ _ _ => opE_move (v := .int .i64 ((a7 : Nat) : Int)) _ rfl rfl rfl
              case o2x2 => exact fun _ _ _ _ => opE_move (v := .slice ai I.length ci) _ rfl rfl rfl
              case o3x2 => exact fun _ _ _ _ => opE_move (v := .int .i64 ((a7 : Nat) : Int)) _ rfl rfl rfl
              case o4x2 => exact fun _ _ hw _ => opE_value (v := .pointer (pK kI ai a7 0)) rfl (run_ixK rI (HI.gro (GG.drew.trans hw)) _ _ rfl rfl a7 rfl (by omega))
              case o5x2 => exact fun _ _ hw _ => opE_value (v := .agg (idA (I.getD a7 0))) rfl (run_ldKI (HI.gro (GG.drew.trans hw)) _ rfl a7 rfl (by omega))
              case o6x2 => exact fun _ _ _ _ => opE_move (v := .slice (some ⟨gH, 0, none⟩) I.length I.length) _ rfl rfl rfl
              case o7x2 => exact fun _ _ _ _ => opE_move (v := .int .i64 ((a7 : Nat) : Int)) _ rfl rfl rfl
              case o8x2 => exact fun _ _ _ _ => opE_value (v := .pointer (some ⟨gH, a7, none⟩)) rfl (run_ixG _ _ rfl gH I.length a7 rfl rfl (by omega) _)
              case o9x2 => exact fun _ _ hw _ => opE_value (v := .slice (f3 a7).1 (H3 a7).length (f3 a7).2) rfl (ldG _ rfl gH a7 rfl (hw.has kgH) (by omega))
              case o10x2 =>
                intro ptrs w' hw hE
                exact opE_call (.val (.agg (hdA (bestH (I.getD a7 0) (H3 a7))))) rfl _ 8 Try.call8 rfl rfl _ rfl [.agg (idA (I.getD a7 0)), .slice (f3 a7).1 (H3 a7).length (f3 a7).2] rfl ((best_any _ (I.getD a7 0) (atI HI (by omega)) (f3 a7).1 (f3 a7).2 (H3 a7) ((HF.gro ((Gro.refl _).drew.trans hw)).rk a7 (by omega)) (Nat.le_trans ((HF.nb a7 (by omega)).big hI6) (by decide))).mono fun e w' ⟨he, hg⟩ => ⟨_, he, hg, rfl⟩)
              intro ptrs w7 GD hxE
              simp only [List.drop_succ_cons, List.drop_zero]
              replace kg1 := GD.has kg1
              replace kg2 := GD.has kg2
              replace kg3 := GD.has kg3
              replace kg4 := GD.has kg4
              replace kgH := GD.has kgH
              replace HF := HF.gro ((Gro.refl _).drew.trans GD)
              replace HB := HB.gro ((Gro.refl _).drew.trans GD)
              replace GG := GG.drew.trans GD
              clear GD
              refine s_val 259 rfl rfl (.pointer (pK kH (some ⟨gB, 0, none⟩) a7 0)) (run_ixK rH (HB.re) _ _ rfl (by rw [hBl]; rfl) a7 rfl (by omega)) ?_
              refine nr ?_; intro U h; simp only [z0, z1] at h; subst h
              refine s_stK rfl rfl 26 _ _ rfl HB a7 0 (by omega) rfl (.agg (hdA (bestH (I.getD a7 0) (H3 a7)))) rfl (hdL (bestH (I.getD a7 0) (H3 a7))) rfl (siHl _) (by rw [hdL_len]; decide) (by rw [hdL_len]; decide) (hdL_one _) ((bestH (I.getD a7 0) (H3 a7))) (spl_hd _ _) (bestH_ok (atI HI (by omega)) (HF.rk a7 (by omega)).all) ?_
              intro w8 HB2 G2
              replace kg1 := G2.has kg1 (HB.own.ne kg1 (by decide))
              replace kg2 := G2.has kg2 (HB.own.ne kg2 (by decide))
              replace kg3 := G2.has kg3 (HB.own.ne kg3 (by decide))
              replace kg4 := G2.has kg4 (HB.own.ne kg4 (by decide))
              replace kgH := G2.has kgH (HB.own.ne kgH (by decide))
              replace HF := HF.gros G2 blk_sub
              replace GG := G2.gro GG (fun k hk => HB.own.base k hk)
              clear G2 HB
              have HB := HB2
              clear HB2
              refine wpList_nil ?_
              refine blk_n ?_
              refine then_n ?_
              refine wp_region_lit ?_
              refine s_val 260 rfl rfl (.int .i64 ((a7 + 1 : Nat) : Int)) (run_addI 3 _ _ _ rfl ((a7 : Nat) : Int) 1 ((a7 + 1 : Nat) : Int) rfl rfl (by omega) (by omega) (by omega) _) ?_
              refine nr ?_; intro U h; simp only [z0, z1] at h; subst h
              refine s_val 245 rfl rfl (.int .i64 ((a7 + 1 : Nat) : Int)) (rfl) ?_
              refine nr ?_; intro U h; simp only [z0, z1] at h; subst h
              refine wpList_nil ?_
              refine then_n ?_
              exact ⟨I.length + 1 - (a7 + 1), by omega, a7 + 1, B7.set a7 (bestH (I.getD a7 0) (H3 a7)), (fun kz => ([.int .i64 ((a7 : Nat) : Int), .bool true, .int .i64 ((a7 : Nat) : Int), .slice (some ⟨gB, 0, none⟩) I.length I.length, .int .i64 ((a7 : Nat) : Int), .slice ai I.length ci, .int .i64 ((a7 : Nat) : Int), .pointer (pK kI ai a7 0), .agg (idA (I.getD a7 0)), .slice (some ⟨gH, 0, none⟩) I.length I.length, .int .i64 ((a7 : Nat) : Int), .pointer (some ⟨gH, a7, none⟩), .slice (f3 a7).1 (H3 a7).length (f3 a7).2, .agg (hdA (bestH (I.getD a7 0) (H3 a7))), .pointer (pK kH (some ⟨gB, 0, none⟩) a7 0), .int .i64 ((a7 + 1 : Nat) : Int)] : List Value).getD kz undef), rfl, rfl, by omega, GG, kg1, kg2, kg3, kg4, kgH, HF, HB, by rw [List.length_set]; exact hBl, set_best hb7 (by omega) (by rw [hH3 a7 ha7l]; rfl)⟩
          · have htl : t < tm := by have := of_decide_eq_true ht1; omega
            refine s_val 186 rfl rfl (.bool true) (run_lssT 3 _ _ _ rfl ((t : Nat) : Int) ((tm : Nat) : Int) rfl rfl true ht1 _) ?_
            refine nr ?_; intro U h; simp only [z0, z1] at h; subst h
            refine wpList_nil ?_
            refine then_n ?_
            refine wp_seq ?_
            refine wp_cond_true rfl ?_
            refine wp_skip ?_
            refine then_n ?_
            refine wp_seq ?_
            refine wp_block ?_
            refine wp_seq ?_
            refine wp_seq ?_
            refine wp_region_lit ?_
            refine s_val 187 rfl rfl (.slice ai I.length ci) (rfl) ?_
            refine nr ?_; intro U h; simp only [z0, z1] at h; subst h
            refine s_val 188 rfl rfl (.int .i64 ((I.length : Nat) : Int)) (run_len Try.underlying41 _ rfl _ _ _ rfl _) ?_
            refine nr ?_; intro U h; simp only [z0, z1] at h; subst h
            refine s_val 189 rfl rfl (.int .i64 0) (rfl) ?_
            refine nr ?_; intro U h; simp only [z0, z1] at h; subst h
            refine wpList_nil ?_
            refine then_n ?_
            refine wp_block ?_
            refine wp_loopN (fun mz az wv => ∃ (a3 : Nat) (B4 : List Hd) (us6 : Nat → Value), mz = I.length + 1 - a3 ∧ az = ⟨[.agg (wdA aw IW.length cw al Lk.length cl ah Hs.length ch), .slice ai I.length ci, .int .i64 ((tm : Nat) : Int), .pointer (some ⟨g1, 0, none⟩), undef, undef, .slice none 0 0, .pointer (some ⟨g2, 0, none⟩), .pointer (some ⟨g3, 0, none⟩), .pointer (some ⟨g4, 0, none⟩), us1 0, undef, us2 0, us2 1, us2 2, us3 0, us3 1, us3 2, .slice (some ⟨gH, 0, none⟩) I.length I.length, us4 0, undef, us4 1, .slice (some ⟨gB, 0, none⟩) I.length I.length, us6 0, us5 1, us5 2, undef, .slice ai I.length ci, .int .i64 ((I.length : Nat) : Int), .int .i64 ((i : Nat) : Int), .bool false, us1 2, us1 3, us1 4, us1 5, us1 6, us1 7, .pointer (some ⟨g1, 1, none⟩), .slice al Lk.length cl, .int .i64 ((Lk.length : Nat) : Int), .int .i64 ((q : Nat) : Int), .bool false, us2 4, us2 5, us2 6, us2 7, us2 8, us2 9, us2 10, us2 11, us2 12, us2 13, us2 14, us2 15, us2 16, us2 17, us2 18, us2 19, us2 20, us2 21, us2 22, us2 23, us2 24, us2 25, us2 26, us2 27, us2 28, us2 29, us2 30, us2 31, us2 32, us2 33, us2 34, us2 35, us2 36, us2 37, us2 38, us2 39, us2 40, us2 41, us2 42, us2 43, us2 44, us2 45, us2 46, us2 47, us2 48, us2 49, .slice ai I.length ci, .int .i64 ((I.length : Nat) : Int), .int .i64 ((k : Nat) : Int), .bool false, us3 4, us3 5, us3 6, us3 7, us3 8, us3 9, us3 10, us3 11, us3 12, us3 13, us3 14, us3 15, us3 16, us3 17, us3 18, us3 19, us3 20, us3 21, us3 22, us3 23, us3 24, us3 25, us3 26, us3 27, us3 28, us3 29, us3 30, us3 31, us3 32, us3 33, us3 34, us3 35, us3 36, us3 37, us3 38, us3 39, us3 40, .slice ai I.length ci, .int .i64 ((I.length : Nat) : Int), .slice (some ⟨gH, 0, none⟩) I.length I.length, .slice ai I.length ci, .int .i64 ((I.length : Nat) : Int), .int .i64 ((a1 : Nat) : Int), .bool false, us4 3, us4 4, us4 5, us4 6, us4 7, us4 8, us4 9, us4 10, us4 11, us4 12, us4 13, us4 14, us4 15, us4 16, us4 17, us4 18, us4 19, us4 20, us4 21, us4 22, us4 23, us4 24, us4 25, us4 26, us4 27, us4 28, us4 29, us4 30, us4 31, us4 32, us4 33, us4 34, us4 35, us4 36, us4 37, us4 38, us4 39, us4 40, us4 41, us4 42, us4 43, us4 44, us4 45, us4 46, us4 47, .slice ai I.length ci, .int .i64 ((I.length : Nat) : Int), .slice (some ⟨gB, 0, none⟩) I.length I.length, .int .i64 ((tm : Nat) : Int), .int .i64 ((t : Nat) : Int), .bool true, .slice ai I.length ci, .int .i64 ((I.length : Nat) : Int), .int .i64 ((a3 : Nat) : Int), us6 1, us6 2, us6 3, us6 4, us6 5, us6 6, us6 7, us6 8, us6 9, us6 10, us6 11, us6 12, us6 13, us6 14, us6 15, us5 22, us5 23, us5 24, us5 25, us5 26, us5 27, us5 28, us5 29, us5 30, us5 31, us5 32, us5 33, us5 34, us5 35, us5 36, us5 37, us5 38, us5 39, us5 40, us5 41, us5 42, us5 43, us5 44, us5 45, us5 46, us5 47, us5 48, us5 49, us5 50, us5 51, us5 52, us5 53, us5 54, us5 55, us5 56, us5 57, us5 58, us5 59, undef, undef, undef, undef, undef, undef, undef, undef, undef, undef, undef, undef, undef, undef, undef, undef, undef, undef, undef, undef].toArray, []⟩ ∧ a3 ≤ I.length ∧ Gro w wv ∧ wv.heap[g1]? = some (.cells (wdA aw IW.length cw al Lk.length cl ah Hs.length ch) 45 (0, 0)) ∧ wv.heap[g2]? = some (.cells (mxA mx0) 47 (0, 0)) ∧ wv.heap[g3]? = some (.cells (mxA (lkF I.length mx0 Lk)) 47 (0, 0)) ∧ wv.heap[g4]? = some (.cells (mxA (warH I.length (lkF I.length (dgF I.length) Lk) I.length)) 47 (0, 0)) ∧ wv.heap[gH]? = some (.cells (hrA I.length f3 H3) 24 (0, 0)) ∧ HFr wv [gB, gH] I.length (lkF I.length mx0 Lk) f3 H3 ∧ OW kH 26 wv w.heap.size (some ⟨gB, 0, none⟩) I.length B4 ∧ B4.length = I.length ∧ (∀ c, c < a3 → B4.getD c zH = (bstT I.length (lkF I.length mx0 Lk) (fun c => I.getD c 0) (h0F I.length (lkF I.length mx0 Lk) Hs) t) c)) ?_ _ ⟨0, B3, (fun kz => ([us5 0, us5 7, us5 8, us5 9, us5 10, us5 11, us5 12, us5 13, us5 14, us5 15, us5 16, us5 17, us5 18, us5 19, us5 20, us5 21] : List Value).getD kz undef), rfl, rfl, Nat.zero_le _, GG, kg1, kg2, kg3, kg4, kgH, HF, HB, hBl, (fun c hc => by omega)⟩
            clear GG kg1 kg2 kg3 kg4 kgH HF HB
            rintro mz az wv ⟨a3, B4, us6, rfl, rfl, ha3, GG, kg1, kg2, kg3, kg4, kgH, HF, HB, hBl, hb4⟩
            refine wp_seq ?_
            refine wp_region_lit ?_
            cases ha31 : decide (((a3 : Nat) : Int) < ((I.length : Nat) : Int))
            · have ha3e : a3 = I.length := by have := of_decide_eq_false ha31; omega
              refine s_val 190 rfl rfl (.bool false) (run_lssT 3 _ _ _ rfl ((a3 : Nat) : Int) ((I.length : Nat) : Int) rfl rfl false ha31 _) ?_
              refine nr ?_; intro U h; simp only [z0, z1] at h; subst h
              refine wpList_nil ?_
              refine then_n ?_
              refine wp_seq ?_
              refine wp_cond_false rfl ?_
              refine wp_exit ?_
              refine then_x ?_
              refine then_x ?_
              refine blk_x ?_
              refine then_n ?_
              refine wp_seq ?_
              refine wp_region_lit ?_
              refine s_val 205 rfl rfl (.slice ai I.length ci) (rfl) ?_
              refine nr ?_; intro U h; simp only [z0, z1] at h; subst h
              refine s_val 206 rfl rfl (.int .i64 ((I.length : Nat) : Int)) (run_len Try.underlying41 _ rfl _ _ _ rfl _) ?_
              refine nr ?_; intro U h; simp only [z0, z1] at h; subst h
              refine s_val 207 rfl rfl (.int .i64 0) (rfl) ?_
              refine nr ?_; intro U h; simp only [z0, z1] at h; subst h
              refine wpList_nil ?_
              refine then_n ?_
              refine wp_block ?_
              rw [ha3e] at hb4
              refine wp_loopN (fun mz az wv => ∃ (a5 : Nat) (f5 : Nat → Option Addr × Nat) (H5 : Nat → List Hd) (us7 : Nat → Value), mz = I.length + 1 - a5 ∧ az = ⟨[.agg (wdA aw IW.length cw al Lk.length cl ah Hs.length ch), .slice ai I.length ci, .int .i64 ((tm : Nat) : Int), .pointer (some ⟨g1, 0, none⟩), undef, undef, .slice none 0 0, .pointer (some ⟨g2, 0, none⟩), .pointer (some ⟨g3, 0, none⟩), .pointer (some ⟨g4, 0, none⟩), us1 0, undef, us2 0, us2 1, us2 2, us3 0, us3 1, us3 2, .slice (some ⟨gH, 0, none⟩) I.length I.length, us4 0, undef, us4 1, .slice (some ⟨gB, 0, none⟩) I.length I.length, us6 0, us7 0, us7 1, undef, .slice ai I.length ci, .int .i64 ((I.length : Nat) : Int), .int .i64 ((i : Nat) : Int), .bool false, us1 2, us1 3, us1 4, us1 5, us1 6, us1 7, .pointer (some ⟨g1, 1, none⟩), .slice al Lk.length cl, .int .i64 ((Lk.length : Nat) : Int), .int .i64 ((q : Nat) : Int), .bool false, us2 4, us2 5, us2 6, us2 7, us2 8, us2 9, us2 10, us2 11, us2 12, us2 13, us2 14, us2 15, us2 16, us2 17, us2 18, us2 19, us2 20, us2 21, us2 22, us2 23, us2 24, us2 25, us2 26, us2 27, us2 28, us2 29, us2 30, us2 31, us2 32, us2 33, us2 34, us2 35, us2 36, us2 37, us2 38, us2 39, us2 40, us2 41, us2 42, us2 43, us2 44, us2 45, us2 46, us2 47, us2 48, us2 49, .slice ai I.length ci, .int .i64 ((I.length : Nat) : Int), .int .i64 ((k : Nat) : Int), .bool false, us3 4, us3 5, us3 6, us3 7, us3 8, us3 9, us3 10, us3 11, us3 12, us3 13, us3 14, us3 15, us3 16, us3 17, us3 18, us3 19, us3 20, us3 21, us3 22, us3 23, us3 24, us3 25, us3 26, us3 27, us3 28, us3 29, us3 30, us3 31, us3 32, us3 33, us3 34, us3 35, us3 36, us3 37, us3 38, us3 39, us3 40, .slice ai I.length ci, .int .i64 ((I.length : Nat) : Int), .slice (some ⟨gH, 0, none⟩) I.length I.length, .slice ai I.length ci, .int .i64 ((I.length : Nat) : Int), .int .i64 ((a1 : Nat) : Int), .bool false, us4 3, us4 4, us4 5, us4 6, us4 7, us4 8, us4 9, us4 10, us4 11, us4 12, us4 13, us4 14, us4 15, us4 16, us4 17, us4 18, us4 19, us4 20, us4 21, us4 22, us4 23, us4 24, us4 25, us4 26, us4 27, us4 28, us4 29, us4 30, us4 31, us4 32, us4 33, us4 34, us4 35, us4 36, us4 37, us4 38, us4 39, us4 40, us4 41, us4 42, us4 43, us4 44, us4 45, us4 46, us4 47, .slice ai I.length ci, .int .i64 ((I.length : Nat) : Int), .slice (some ⟨gB, 0, none⟩) I.length I.length, .int .i64 ((tm : Nat) : Int), .int .i64 ((t : Nat) : Int), .bool true, .slice ai I.length ci, .int .i64 ((I.length : Nat) : Int), .int .i64 ((a3 : Nat) : Int), .bool false, us6 2, us6 3, us6 4, us6 5, us6 6, us6 7, us6 8, us6 9, us6 10, us6 11, us6 12, us6 13, us6 14, us6 15, .slice ai I.length ci, .int .i64 ((I.length : Nat) : Int), .int .i64 ((a5 : Nat) : Int), us7 2, us7 3, us7 4, us7 5, us7 6, us7 7, us7 8, us7 9, us7 10, us7 11, us7 12, us7 13, us7 14, us7 15, us7 16, us7 17, us7 18, us7 19, us7 20, us7 21, us7 22, us7 23, us7 24, us7 25, us7 26, us7 27, us7 28, us7 29, us7 30, us7 31, us7 32, us7 33, us7 34, us7 35, us5 59, undef, undef, undef, undef, undef, undef, undef, undef, undef, undef, undef, undef, undef, undef, undef, undef, undef, undef, undef, undef].toArray, []⟩ ∧ a5 ≤ I.length ∧ Gro w wv ∧ wv.heap[g1]? = some (.cells (wdA aw IW.length cw al Lk.length cl ah Hs.length ch) 45 (0, 0)) ∧ wv.heap[g2]? = some (.cells (mxA mx0) 47 (0, 0)) ∧ wv.heap[g3]? = some (.cells (mxA (lkF I.length mx0 Lk)) 47 (0, 0)) ∧ wv.heap[g4]? = some (.cells (mxA (warH I.length (lkF I.length (dgF I.length) Lk) I.length)) 47 (0, 0)) ∧ wv.heap[gH]? = some (.cells (hrA I.length f5 H5) 24 (0, 0)) ∧ HFr wv [gB, gH] I.length (lkF I.length mx0 Lk) f5 H5 ∧ OW kH 26 wv w.heap.size (some ⟨gB, 0, none⟩) I.length B4 ∧ B4.length = I.length ∧ (∀ c, c < I.length → H5 c = hG I.length (lkF I.length mx0 Lk) (fun c => I.getD c 0) (h0F I.length (lkF I.length mx0 Lk) Hs) t a5 c)) ?_ _ ⟨0, f3, H3, (fun kz => ([us5 1, us5 2, us5 25, us5 26, us5 27, us5 28, us5 29, us5 30, us5 31, us5 32, us5 33, us5 34, us5 35, us5 36, us5 37, us5 38, us5 39, us5 40, us5 41, us5 42, us5 43, us5 44, us5 45, us5 46, us5 47, us5 48, us5 49, us5 50, us5 51, us5 52, us5 53, us5 54, us5 55, us5 56, us5 57, us5 58] : List Value).getD kz undef), rfl, rfl, Nat.zero_le _, GG, kg1, kg2, kg3, kg4, kgH, HF, HB, hBl, hG_0 hH3⟩
              clear GG kg1 kg2 kg3 kg4 kgH HF HB
              rintro mz az wv ⟨a5, f5, H5, us7, rfl, rfl, ha5, GG, kg1, kg2, kg3, kg4, kgH, HF, HB, hBl, hH5⟩
              refine wp_seq ?_
              refine wp_region_lit ?_
              cases ha51 : decide (((a5 : Nat) : Int) < ((I.length : Nat) : Int))
              · have ha5e : a5 = I.length := by have := of_decide_eq_false ha51; omega
                refine s_val 208 rfl rfl (.bool false) (run_lssT 3 _ _ _ rfl ((a5 : Nat) : Int) ((I.length : Nat) : Int) rfl rfl false ha51 _) ?_
                refine nr ?_; intro U h; simp only [z0, z1] at h; subst h
                refine wpList_nil ?_
                refine then_n ?_
                refine wp_seq ?_
                refine wp_cond_false rfl ?_
                refine wp_exit ?_
                refine then_x ?_
                refine then_x ?_
                refine blk_x ?_
                refine blk_n ?_
                refine then_n ?_
                refine wp_region_lit ?_
                refine s_val 242 rfl rfl (.int .i64 ((t + 1 : Nat) : Int)) (run_addI 3 _ _ _ rfl ((t : Nat) : Int) 1 ((t + 1 : Nat) : Int) rfl rfl (by omega) (by omega) (by omega) _) ?_
                refine nr ?_; intro U h; simp only [z0, z1] at h; subst h
                refine s_val 185 rfl rfl (.int .i64 ((t + 1 : Nat) : Int)) (rfl) ?_
                refine nr ?_; intro U h; simp only [z0, z1] at h; subst h
                refine wpList_nil ?_
                refine then_n ?_
                exact ⟨tm + 1 - (t + 1), by omega, t + 1, f5, H5, B4, (fun kz => ([us6 0, us7 0, us7 1, .bool true, .slice ai I.length ci, .int .i64 ((I.length : Nat) : Int), .int .i64 ((a3 : Nat) : Int), .bool false, us6 2, us6 3, us6 4, us6 5, us6 6, us6 7, us6 8, us6 9, us6 10, us6 11, us6 12, us6 13, us6 14, us6 15, .slice ai I.length ci, .int .i64 ((I.length : Nat) : Int), .int .i64 ((a5 : Nat) : Int), .bool false, us7 3, us7 4, us7 5, us7 6, us7 7, us7 8, us7 9, us7 10, us7 11, us7 12, us7 13, us7 14, us7 15, us7 16, us7 17, us7 18, us7 19, us7 20, us7 21, us7 22, us7 23, us7 24, us7 25, us7 26, us7 27, us7 28, us7 29, us7 30, us7 31, us7 32, us7 33, us7 34, us7 35, .int .i64 ((t + 1 : Nat) : Int)] : List Value).getD kz undef), rfl, rfl, by omega, GG, kg1, kg2, kg3, kg4, kgH, HF, HB, hBl, hG_end hH5 ha5e⟩
              · have ha5l : a5 < I.length := by have := of_decide_eq_true ha51; omega
                refine s_val 208 rfl rfl (.bool true) (run_lssT 3 _ _ _ rfl ((a5 : Nat) : Int) ((I.length : Nat) : Int) rfl rfl true ha51 _) ?_
                refine nr ?_; intro U h; simp only [z0, z1] at h; subst h
                refine wpList_nil ?_
                refine then_n ?_
                refine wp_seq ?_
                refine wp_cond_true rfl ?_
                refine wp_skip ?_
                refine then_n ?_
                refine wp_seq ?_
                refine wp_block ?_
                refine wp_seq ?_
                refine wp_region_lit ?_
                refine s_val 209 rfl rfl (.int .i64 ((a5 : Nat) : Int)) (rfl) ?_
                refine nr ?_; intro U h; simp only [z0, z1] at h; subst h
                refine s_val 24 rfl rfl (.int .i64 ((a5 : Nat) : Int)) (rfl) ?_
                refine nr ?_; intro U h; simp only [z0, z1] at h; subst h
                refine wpList_nil ?_
                refine then_n ?_
                refine wp_seq ?_
                refine wp_region_lit ?_
                refine s_val 210 rfl rfl (.slice ai I.length ci) (rfl) ?_
                refine nr ?_; intro U h; simp only [z0, z1] at h; subst h
                refine s_val 211 rfl rfl (.int .i64 ((I.length : Nat) : Int)) (run_len Try.underlying41 _ rfl _ _ _ rfl _) ?_
                refine nr ?_; intro U h; simp only [z0, z1] at h; subst h
                refine s_val 212 rfl rfl (.int .i64 0) (rfl) ?_
                refine nr ?_; intro U h; simp only [z0, z1] at h; subst h
                refine wpList_nil ?_
                refine then_n ?_
                refine wp_block ?_
                refine wp_loopN (fun mz az wv => ∃ (b6 : Nat) (f6 : Nat → Option Addr × Nat) (H6 : Nat → List Hd) (us8 : Nat → Value), mz = I.length + 1 - b6 ∧ az = ⟨[.agg (wdA aw IW.length cw al Lk.length cl ah Hs.length ch), .slice ai I.length ci, .int .i64 ((tm : Nat) : Int), .pointer (some ⟨g1, 0, none⟩), undef, undef, .slice none 0 0, .pointer (some ⟨g2, 0, none⟩), .pointer (some ⟨g3, 0, none⟩), .pointer (some ⟨g4, 0, none⟩), us1 0, undef, us2 0, us2 1, us2 2, us3 0, us3 1, us3 2, .slice (some ⟨gH, 0, none⟩) I.length I.length, us4 0, undef, us4 1, .slice (some ⟨gB, 0, none⟩) I.length I.length, us6 0, .int .i64 ((a5 : Nat) : Int), us8 0, undef, .slice ai I.length ci, .int .i64 ((I.length : Nat) : Int), .int .i64 ((i : Nat) : Int), .bool false, us1 2, us1 3, us1 4, us1 5, us1 6, us1 7, .pointer (some ⟨g1, 1, none⟩), .slice al Lk.length cl, .int .i64 ((Lk.length : Nat) : Int), .int .i64 ((q : Nat) : Int), .bool false, us2 4, us2 5, us2 6, us2 7, us2 8, us2 9, us2 10, us2 11, us2 12, us2 13, us2 14, us2 15, us2 16, us2 17, us2 18, us2 19, us2 20, us2 21, us2 22, us2 23, us2 24, us2 25, us2 26, us2 27, us2 28, us2 29, us2 30, us2 31, us2 32, us2 33, us2 34, us2 35, us2 36, us2 37, us2 38, us2 39, us2 40, us2 41, us2 42, us2 43, us2 44, us2 45, us2 46, us2 47, us2 48, us2 49, .slice ai I.length ci, .int .i64 ((I.length : Nat) : Int), .int .i64 ((k : Nat) : Int), .bool false, us3 4, us3 5, us3 6, us3 7, us3 8, us3 9, us3 10, us3 11, us3 12, us3 13, us3 14, us3 15, us3 16, us3 17, us3 18, us3 19, us3 20, us3 21, us3 22, us3 23, us3 24, us3 25, us3 26, us3 27, us3 28, us3 29, us3 30, us3 31, us3 32, us3 33, us3 34, us3 35, us3 36, us3 37, us3 38, us3 39, us3 40, .slice ai I.length ci, .int .i64 ((I.length : Nat) : Int), .slice (some ⟨gH, 0, none⟩) I.length I.length, .slice ai I.length ci, .int .i64 ((I.length : Nat) : Int), .int .i64 ((a1 : Nat) : Int), .bool false, us4 3, us4 4, us4 5, us4 6, us4 7, us4 8, us4 9, us4 10, us4 11, us4 12, us4 13, us4 14, us4 15, us4 16, us4 17, us4 18, us4 19, us4 20, us4 21, us4 22, us4 23, us4 24, us4 25, us4 26, us4 27, us4 28, us4 29, us4 30, us4 31, us4 32, us4 33, us4 34, us4 35, us4 36, us4 37, us4 38, us4 39, us4 40, us4 41, us4 42, us4 43, us4 44, us4 45, us4 46, us4 47, .slice ai I.length ci, .int .i64 ((I.length : Nat) : Int), .slice (some ⟨gB, 0, none⟩) I.length I.length, .int .i64 ((tm : Nat) : Int), .int .i64 ((t : Nat) : Int), .bool true, .slice ai I.length ci, .int .i64 ((I.length : Nat) : Int), .int .i64 ((a3 : Nat) : Int), .bool false, us6 2, us6 3, us6 4, us6 5, us6 6, us6 7, us6 8, us6 9, us6 10, us6 11, us6 12, us6 13, us6 14, us6 15, .slice ai I.length ci, .int .i64 ((I.length : Nat) : Int), .int .i64 ((a5 : Nat) : Int), .bool true, .int .i64 ((a5 : Nat) : Int), .slice ai I.length ci, .int .i64 ((I.length : Nat) : Int), .int .i64 ((b6 : Nat) : Int), us8 1, us8 2, us8 3, us8 4, us8 5, us8 6, us8 7, us8 8, us8 9, us8 10, us8 11, us8 12, us8 13, us8 14, us8 15, us8 16, us8 17, us8 18, us8 19, us8 20, us8 21, us8 22, us8 23, us8 24, us8 25, us8 26, us8 27, us8 28, us7 35, us5 59, undef, undef, undef, undef, undef, undef, undef, undef, undef, undef, undef, undef, undef, undef, undef, undef, undef, undef, undef, undef].toArray, []⟩ ∧ b6 ≤ I.length ∧ Gro w wv ∧ wv.heap[g1]? = some (.cells (wdA aw IW.length cw al Lk.length cl ah Hs.length ch) 45 (0, 0)) ∧ wv.heap[g2]? = some (.cells (mxA mx0) 47 (0, 0)) ∧ wv.heap[g3]? = some (.cells (mxA (lkF I.length mx0 Lk)) 47 (0, 0)) ∧ wv.heap[g4]? = some (.cells (mxA (warH I.length (lkF I.length (dgF I.length) Lk) I.length)) 47 (0, 0)) ∧ wv.heap[gH]? = some (.cells (hrA I.length f6 H6) 24 (0, 0)) ∧ HFr wv [gB, gH] I.length (lkF I.length mx0 Lk) f6 H6 ∧ OW kH 26 wv w.heap.size (some ⟨gB, 0, none⟩) I.length B4 ∧ B4.length = I.length ∧ (∀ c, c < I.length → H6 c = hI I.length (lkF I.length mx0 Lk) (fun c => I.getD c 0) (h0F I.length (lkF I.length mx0 Lk) Hs) t a5 b6 c)) ?_ _ ⟨0, f5, H5, (fun kz => ([us7 1, us7 7, us7 8, us7 9, us7 10, us7 11, us7 12, us7 13, us7 14, us7 15, us7 16, us7 17, us7 18, us7 19, us7 20, us7 21, us7 22, us7 23, us7 24, us7 25, us7 26, us7 27, us7 28, us7 29, us7 30, us7 31, us7 32, us7 33, us7 34] : List Value).getD kz undef), rfl, rfl, Nat.zero_le _, GG, kg1, kg2, kg3, kg4, kgH, HF, HB, hBl, hI_0 hH5⟩
                clear GG kg1 kg2 kg3 kg4 kgH HF HB
                rintro mz az wv ⟨b6, f6, H6, us8, rfl, rfl, hb6, GG, kg1, kg2, kg3, kg4, kgH, HF, HB, hBl, hH6⟩
                refine wp_seq ?_
                refine wp_region_lit ?_
                cases hb61 : decide (((b6 : Nat) : Int) < ((I.length : Nat) : Int))
                · have hb6e : b6 = I.length := by have := of_decide_eq_false hb61; omega
                  refine s_val 213 rfl rfl (.bool false) (run_lssT 3 _ _ _ rfl ((b6 : Nat) : Int) ((I.length : Nat) : Int) rfl rfl false hb61 _) ?_
                  refine nr ?_; intro U h; simp only [z0, z1] at h; subst h
                  refine wpList_nil ?_
                  refine then_n ?_
                  refine wp_seq ?_
                  refine wp_cond_false rfl ?_
                  refine wp_exit ?_
                  refine then_x ?_
                  refine then_x ?_
                  refine blk_x ?_
                  refine blk_n ?_
                  refine then_n ?_
                  refine wp_region_lit ?_
                  refine s_val 241 rfl rfl (.int .i64 ((a5 + 1 : Nat) : Int)) (run_addI 3 _ _ _ rfl ((a5 : Nat) : Int) 1 ((a5 + 1 : Nat) : Int) rfl rfl (by omega) (by omega) (by omega) _) ?_
                  refine nr ?_; intro U h; simp only [z0, z1] at h; subst h
                  refine s_val 207 rfl rfl (.int .i64 ((a5 + 1 : Nat) : Int)) (rfl) ?_
                  refine nr ?_; intro U h; simp only [z0, z1] at h; subst h
                  refine wpList_nil ?_
                  refine then_n ?_
                  exact ⟨I.length + 1 - (a5 + 1), by omega, a5 + 1, f6, H6, (fun kz => ([.int .i64 ((a5 : Nat) : Int), us8 0, .bool true, .int .i64 ((a5 : Nat) : Int), .slice ai I.length ci, .int .i64 ((I.length : Nat) : Int), .int .i64 ((b6 : Nat) : Int), .bool false, us8 2, us8 3, us8 4, us8 5, us8 6, us8 7, us8 8, us8 9, us8 10, us8 11, us8 12, us8 13, us8 14, us8 15, us8 16, us8 17, us8 18, us8 19, us8 20, us8 21, us8 22, us8 23, us8 24, us8 25, us8 26, us8 27, us8 28, .int .i64 ((a5 + 1 : Nat) : Int)] : List Value).getD kz undef), rfl, rfl, by omega, GG, kg1, kg2, kg3, kg4, kgH, HF, HB, hBl, hI_end hH6 hb6e⟩
                · have hb6l : b6 < I.length := by have := of_decide_eq_true hb61; omega
                  refine s_val 213 rfl rfl (.bool true) (run_lssT 3 _ _ _ rfl ((b6 : Nat) : Int) ((I.length : Nat) : Int) rfl rfl true hb61 _) ?_
                  refine nr ?_; intro U h; simp only [z0, z1] at h; subst h
                  refine wpList_nil ?_
                  refine then_n ?_
                  refine wp_seq ?_
                  refine wp_cond_true rfl ?_
                  refine wp_skip ?_
                  refine then_n ?_
                  refine wp_seq ?_
                  refine wp_block ?_
                  refine wp_seq ?_
                  refine wp_region_lit ?_
                  refine s_val 214 rfl rfl (.int .i64 ((b6 : Nat) : Int)) (rfl) ?_
                  refine nr ?_; intro U h; simp only [z0, z1] at h; subst h
                  refine s_val 25 rfl rfl (.int .i64 ((b6 : Nat) : Int)) (rfl) ?_
                  refine nr ?_; intro U h; simp only [z0, z1] at h; subst h
                  refine wpList_nil ?_
                  refine then_n ?_
                  refine wp_seq ?_
                  cases y1 : decide ((lkF I.length mx0 Lk) a5 b6 = true)
                  · refine wp_region_lit ?_
                    refine s_val 215 rfl rfl (.int .i64 ((a5 : Nat) : Int)) (rfl) ?_
                    refine nr ?_; intro U h; simp only [z0, z1] at h; subst h
                    refine s_val 216 rfl rfl (.int .i64 ((b6 : Nat) : Int)) (rfl) ?_
                    refine nr ?_; intro U h; simp only [z0, z1] at h; subst h
                    refine s_val 217 rfl rfl (.pointer (some ⟨g3, a5 * 6, none⟩)) (run_ia47 _ _ rfl g3 a5 rfl rfl (by omega) _) ?_
                    refine nr ?_; intro U h; simp only [z0, z1] at h; subst h
                    refine s_val 218 rfl rfl (.pointer (some ⟨g3, a5 * 6 + b6, none⟩)) (run_ia46 _ _ rfl g3 (a5 * 6) b6 rfl rfl (by omega) _) ?_
                    refine nr ?_; intro U h; simp only [z0, z1] at h; subst h
                    refine s_val 219 rfl rfl (.bool false) (ldMb _ rfl g3 a5 b6 rfl (by omega) (by omega) (kg3) false (Bool.eq_false_iff.2 (of_decide_eq_false y1))) ?_
                    refine nr ?_; intro U h; simp only [z0, z1] at h; subst h
                    refine wpList_nil ?_
                    refine then_n ?_
                    refine wp_cond_false rfl ?_
                    refine wp_skip ?_
                    refine blk_n ?_
                    refine then_n ?_
                    refine wp_region_lit ?_
                    refine s_val 240 rfl rfl (.int .i64 ((b6 + 1 : Nat) : Int)) (run_addI 3 _ _ _ rfl ((b6 : Nat) : Int) 1 ((b6 + 1 : Nat) : Int) rfl rfl (by omega) (by omega) (by omega) _) ?_
                    refine nr ?_; intro U h; simp only [z0, z1] at h; subst h
                    refine s_val 212 rfl rfl (.int .i64 ((b6 + 1 : Nat) : Int)) (rfl) ?_
                    refine nr ?_; intro U h; simp only [z0, z1] at h; subst h
                    refine wpList_nil ?_
                    refine then_n ?_
                    exact ⟨I.length + 1 - (b6 + 1), by omega, b6 + 1, f6, H6, (fun kz => ([.int .i64 ((b6 : Nat) : Int), .bool true, .int .i64 ((b6 : Nat) : Int), .int .i64 ((a5 : Nat) : Int), .int .i64 ((b6 : Nat) : Int), .pointer (some ⟨g3, a5 * 6, none⟩), .pointer (some ⟨g3, a5 * 6 + b6, none⟩), .bool false, us8 8, us8 9, us8 10, us8 11, us8 12, us8 13, us8 14, us8 15, us8 16, us8 17, us8 18, us8 19, us8 20, us8 21, us8 22, us8 23, us8 24, us8 25, us8 26, us8 27, .int .i64 ((b6 + 1 : Nat) : Int)] : List Value).getD kz undef), rfl, rfl, by omega, GG, kg1, kg2, kg3, kg4, kgH, HF, HB, hBl, hI_no hH6 (Bool.eq_false_iff.2 (of_decide_eq_false y1))⟩
                  · refine wp_region_lit ?_
                    refine s_val 215 rfl rfl (.int .i64 ((a5 : Nat) : Int)) (rfl) ?_
                    refine nr ?_; intro U h; simp only [z0, z1] at h; subst h
                    refine s_val 216 rfl rfl (.int .i64 ((b6 : Nat) : Int)) (rfl) ?_
                    refine nr ?_; intro U h; simp only [z0, z1] at h; subst h
                    refine s_val 217 rfl rfl (.pointer (some ⟨g3, a5 * 6, none⟩)) (run_ia47 _ _ rfl g3 a5 rfl rfl (by omega) _) ?_
                    refine nr ?_; intro U h; simp only [z0, z1] at h; subst h
                    refine s_val 218 rfl rfl (.pointer (some ⟨g3, a5 * 6 + b6, none⟩)) (run_ia46 _ _ rfl g3 (a5 * 6) b6 rfl rfl (by omega) _) ?_
                    refine nr ?_; intro U h; simp only [z0, z1] at h; subst h
                    refine s_val 219 rfl rfl (.bool true) (ldMb _ rfl g3 a5 b6 rfl (by omega) (by omega) (kg3) true (of_decide_eq_true y1)) ?_
                    refine nr ?_; intro U h; simp only [z0, z1] at h; subst h
                    refine wpList_nil ?_
                    refine then_n ?_
                    refine wp_cond_true rfl ?_
                    have lzH := lt_of_heap kgH
                    have lzB := blk_lt HB
                    refine wp_region_exA (A := ?Ax3) 19 [(0, 220), (1, 221), (2, 222), (3, 223), (4, 224), (5, 225), (6, 226), (7, 227), (8, 228), (9, 229), (10, 230), (11, 231), (12, 232), (13, 233), (14, 234), (15, 235), (16, 236), (17, 237), (18, 238)] [.val (.slice (some ⟨gH, 0, none⟩) I.length I.length), .val (.int .i64 ((a5 : Nat) : Int)), .val (.slice (some ⟨gH, 0, none⟩) I.length I.length), .val (.int .i64 ((a5 : Nat) : Int)), .val (.pointer (some ⟨gH, a5, none⟩)), .val (.slice (f6 a5).1 (H6 a5).length (f6 a5).2), .val (.int .i64 ((b6 : Nat) : Int)), .val (.slice (some ⟨gB, 0, none⟩) I.length I.length), .val (.int .i64 ((b6 : Nat) : Int)), .val (.pointer (pK kH (some ⟨gB, 0, none⟩) b6 0)), .val (.pointer (pK kH (some ⟨gB, 0, none⟩) b6 1)), .val (.agg (idA (B4.getD b6 zH).id)), .val (.slice (some ⟨gB, 0, none⟩) I.length I.length), .val (.int .i64 ((b6 : Nat) : Int)), .val (.pointer (pK kH (some ⟨gB, 0, none⟩) b6 0)), .val (.pointer (pK kH (some ⟨gB, 0, none⟩) b6 17)), .val (.int .i64 (B4.getD b6 zH).far), .val (.agg (hdA (mkH ((b6 : Nat) : Int) (B4.getD b6 zH).id (B4.getD b6 zH).far))), ownK wv.heap.size kH 26 (putH (H6 a5) (mkH ((b6 : Nat) : Int) (B4.getD b6 zH).id (B4.getD b6 zH).far))] follows (by kernel_rfl) rfl ?hAx3 (opsA_cons ?o0x3 (opsA_cons ?o1x3 (opsA_cons ?o2x3 (opsA_cons ?o3x3 (opsA_cons ?o4x3 (opsA_cons ?o5x3 (opsA_cons ?o6x3 (opsA_cons ?o7x3 (opsA_cons ?o8x3 (opsA_cons ?o9x3 (opsA_cons ?o10x3 (opsA_cons ?o11x3 (opsA_cons ?o12x3 (opsA_cons ?o13x3 (opsA_cons ?o14x3 (opsA_cons ?o15x3 (opsA_cons ?o16x3 (opsA_cons ?o17x3 (opsA_cons ?o18x3 opsA_nil))))))))))))))))))) ?restx3
                    case hAx3 =>
                      intro ptrs
                      simp only [full, foldSlots, filledE, postE, List.foldl_cons, List.foldl_nil, List.getD_cons_zero, List.getD_cons_succ, fill_val, fill_ownK, List.set_cons_zero, List.set_cons_succ]
                      exact rfl
                    case o0x3 => exact fun _ _ _ _ => opE_move (v := .slice (some ⟨gH, 0, none⟩) I.length I.length) _ rfl rfl rfl
                    case o1x3 => exact fun _ _ _ _ => opE_move (v := .int .i64 ((a5 : Nat) : Int)) _ rfl rfl rfl
                    case o2x3 => exact fun _ _ _ _ => opE_move (v := .slice (some ⟨gH, 0, none⟩) I.length I.length) _ rfl rfl rfl
                    case o3x3 => exact fun _ _ _ _ => opE_move (v := .int .i64 ((a5 : Nat) : Int)) _ rfl rfl rfl
                    case o4x3 => exact fun _ _ _ _ => opE_value (v := .pointer (some ⟨gH, a5, none⟩)) rfl (run_ixG _ _ rfl gH I.length a5 rfl rfl (by omega) _)
                    case o5x3 => exact fun _ _ hw _ => opE_value (v := .slice (f6 a5).1 (H6 a5).length (f6 a5).2) rfl (ldG _ rfl gH a5 rfl (hw.has kgH) (by omega))
                    case o6x3 => exact fun _ _ _ _ => opE_move (v := .int .i64 ((b6 : Nat) : Int)) _ rfl rfl rfl
                    case o7x3 => exact fun _ _ _ _ => opE_move (v := .slice (some ⟨gB, 0, none⟩) I.length I.length) _ rfl rfl rfl
                    case o8x3 => exact fun _ _ _ _ => opE_move (v := .int .i64 ((b6 : Nat) : Int)) _ rfl rfl rfl
                    case o9x3 => exact fun _ _ hw _ => opE_value (v := .pointer (pK kH (some ⟨gB, 0, none⟩) b6 0)) rfl (run_ixK rH ((HB.gro ((Gro.refl _).drew.trans hw)).re) _ _ rfl (by rw [hBl]; rfl) b6 rfl (by omega))
                    case o10x3 => exact fun _ _ hw _ => opE_value (v := .pointer (pK kH (some ⟨gB, 0, none⟩) b6 1)) rfl (run_fdK ((HB.gro ((Gro.refl _).drew.trans hw)).re) 26 _ 1 1 (fdH_1 _) rfl b6 rfl (by omega))
                    case o11x3 => exact fun _ _ hw _ => opE_value (v := .agg (idA (B4.getD b6 zH).id)) rfl (run_ldKHi ((HB.gro ((Gro.refl _).drew.trans hw)).re) _ rfl b6 rfl (by omega))
                    case o12x3 => exact fun _ _ _ _ => opE_move (v := .slice (some ⟨gB, 0, none⟩) I.length I.length) _ rfl rfl rfl
                    case o13x3 => exact fun _ _ _ _ => opE_move (v := .int .i64 ((b6 : Nat) : Int)) _ rfl rfl rfl
                    case o14x3 => exact fun _ _ hw _ => opE_value (v := .pointer (pK kH (some ⟨gB, 0, none⟩) b6 0)) rfl (run_ixK rH ((HB.gro ((Gro.refl _).drew.trans hw)).re) _ _ rfl (by rw [hBl]; rfl) b6 rfl (by omega))
                    case o15x3 => exact fun _ _ hw _ => opE_value (v := .pointer (pK kH (some ⟨gB, 0, none⟩) b6 17)) rfl (run_fdK ((HB.gro ((Gro.refl _).drew.trans hw)).re) 26 _ 2 17 (fdH_2 _) rfl b6 rfl (by omega))
                    case o16x3 => exact fun _ _ hw _ => opE_value (v := .int .i64 (B4.getD b6 zH).far) rfl (run_ldKHf ((HB.gro ((Gro.refl _).drew.trans hw)).re) _ rfl b6 rfl (by omega))
                    case o17x3 => exact fun _ _ _ _ => opE_value (v := .agg (hdA (mkH ((b6 : Nat) : Int) (B4.getD b6 zH).id (B4.getD b6 zH).far))) rfl (run_bd 26 _ rfl [(0, .int .i64 ((b6 : Nat) : Int)), (1, .agg (idA (B4.getD b6 zH).id)), (2, .int .i64 (B4.getD b6 zH).far)] rfl _ (bdH012 _ _ _ _))
                    case o18x3 =>
                      intro ptrs w' hw hE
                      exact opE_call (ownK wv.heap.size kH 26 (putH (H6 a5) (mkH ((b6 : Nat) : Int) (B4.getD b6 zH).id (B4.getD b6 zH).far))) rfl _ 12 Try.call12 rfl rfl _ rfl [.slice (f6 a5).1 (H6 a5).length (f6 a5).2, .agg (hdA (mkH ((b6 : Nat) : Int) (B4.getD b6 zH).id (B4.getD b6 zH).far))] rfl ((put_any _ (f6 a5).1 (f6 a5).2 (H6 a5) ((HF.gro ((Gro.refl _).drew.trans hw)).rk a5 (by omega)) ((HF.nb a5 (by omega)).big hI6) (mkH ((b6 : Nat) : Int) (B4.getD b6 zH).id (B4.getD b6 zH).far) (mkH_ok (i64n (by omega)) (atH HB.re (by omega)).id (atH HB.re (by omega)).far)).mono fun e w' ⟨ao, cap, he, hg, hr⟩ => ⟨_, he, hg, ao, cap, rfl, hr.mono hw.size⟩)
                    intro ptrs w7 GD hxE
                    simp only [List.drop_succ_cons, List.drop_zero]
                    replace kg1 := GD.has kg1
                    replace kg2 := GD.has kg2
                    replace kg3 := GD.has kg3
                    replace kg4 := GD.has kg4
                    replace kgH := GD.has kgH
                    replace HF := HF.gro ((Gro.refl _).drew.trans GD)
                    replace HB := HB.gro ((Gro.refl _).drew.trans GD)
                    replace GG := GG.drew.trans GD
                    obtain ⟨⟨ao1, cap1, hx1, HR1⟩, _⟩ := hxE
                    simp only [hx1]
                    clear hx1
                    clear GD
                    refine s_val 239 rfl rfl (.pointer (some ⟨gH, a5, none⟩)) (run_ixG _ _ rfl gH I.length a5 rfl rfl (by omega) _) ?_
                    refine nr ?_; intro U h; simp only [z0, z1] at h; subst h
                    replace HF := HF.put HR1 (mem2 lzB lzH) ha5l hb6l (of_decide_eq_true y1) rfl
                    refine s_store rfl rfl 24 _ _ rfl gH a5 rfl (.slice ao1 (putH (H6 a5) (mkH ((b6 : Nat) : Int) (B4.getD b6 zH).id (B4.getD b6 zH).far)).length cap1) rfl 24 _ kgH #[.slice ao1 (putH (H6 a5) (mkH ((b6 : Nat) : Int) (B4.getD b6 zH).id (B4.getD b6 zH).far)).length cap1] rfl si24 (by rw [hrA_size]; show _ + 1 ≤ _; omega) (sl_one _ _ _) (hrA I.length (updF f6 a5 (ao1, cap1)) (updF H6 a5 (putH (H6 a5) (mkH ((b6 : Nat) : Int) (B4.getD b6 zH).id (B4.getD b6 zH).far)))) (hrA_set f6 H6 (by omega) ao1 cap1 (putH (H6 a5) (mkH ((b6 : Nat) : Int) (B4.getD b6 zH).id (B4.getD b6 zH).far))) ?_
                    intro w8 St
                    have kS := kgH
                    replace kg1 := St.has (by omega) kg1
                    replace kg2 := St.has (by omega) kg2
                    replace kg3 := St.has (by omega) kg3
                    replace kg4 := St.has (by omega) kg4
                    replace HF := HF.stS St (by simp)
                    replace HB := HB.st St dHBgH
                    replace GG := GG.store St bgH
                    replace kgH := St.new
                    clear St
                    refine wpList_nil ?_
                    refine blk_n ?_
                    refine then_n ?_
                    refine wp_region_lit ?_
                    refine s_val 240 rfl rfl (.int .i64 ((b6 + 1 : Nat) : Int)) (run_addI 3 _ _ _ rfl ((b6 : Nat) : Int) 1 ((b6 + 1 : Nat) : Int) rfl rfl (by omega) (by omega) (by omega) _) ?_
                    refine nr ?_; intro U h; simp only [z0, z1] at h; subst h
                    refine s_val 212 rfl rfl (.int .i64 ((b6 + 1 : Nat) : Int)) (rfl) ?_
                    refine nr ?_; intro U h; simp only [z0, z1] at h; subst h
                    refine wpList_nil ?_
                    refine then_n ?_
                    exact ⟨I.length + 1 - (b6 + 1), by omega, b6 + 1, (updF f6 a5 (ao1, cap1)), (updF H6 a5 (putH (H6 a5) (mkH ((b6 : Nat) : Int) (B4.getD b6 zH).id (B4.getD b6 zH).far))), (fun kz => ([.int .i64 ((b6 : Nat) : Int), .bool true, .int .i64 ((b6 : Nat) : Int), .int .i64 ((a5 : Nat) : Int), .int .i64 ((b6 : Nat) : Int), .pointer (some ⟨g3, a5 * 6, none⟩), .pointer (some ⟨g3, a5 * 6 + b6, none⟩), .bool true, .slice (some ⟨gH, 0, none⟩) I.length I.length, .int .i64 ((a5 : Nat) : Int), .slice (some ⟨gH, 0, none⟩) I.length I.length, .int .i64 ((a5 : Nat) : Int), .pointer (some ⟨gH, a5, none⟩), .slice (f6 a5).1 (H6 a5).length (f6 a5).2, .int .i64 ((b6 : Nat) : Int), .slice (some ⟨gB, 0, none⟩) I.length I.length, .int .i64 ((b6 : Nat) : Int), .pointer (pK kH (some ⟨gB, 0, none⟩) b6 0), .pointer (pK kH (some ⟨gB, 0, none⟩) b6 1), .agg (idA (B4.getD b6 zH).id), .slice (some ⟨gB, 0, none⟩) I.length I.length, .int .i64 ((b6 : Nat) : Int), .pointer (pK kH (some ⟨gB, 0, none⟩) b6 0), .pointer (pK kH (some ⟨gB, 0, none⟩) b6 17), .int .i64 (B4.getD b6 zH).far, .agg (hdA (mkH ((b6 : Nat) : Int) (B4.getD b6 zH).id (B4.getD b6 zH).far)), .slice ao1 (putH (H6 a5) (mkH ((b6 : Nat) : Int) (B4.getD b6 zH).id (B4.getD b6 zH).far)).length cap1, .pointer (some ⟨gH, a5, none⟩), .int .i64 ((b6 + 1 : Nat) : Int)] : List Value).getD kz undef), rfl, rfl, by omega, GG, kg1, kg2, kg3, kg4, kgH, HF, HB, hBl, hI_yes hH6 ha5l (of_decide_eq_true y1) (by rw [hb4 b6 hb6l]; rfl)⟩
            · have ha3l : a3 < I.length := by have := of_decide_eq_true ha31; omega
              refine s_val 190 rfl rfl (.bool true) (run_lssT 3 _ _ _ rfl ((a3 : Nat) : Int) ((I.length : Nat) : Int) rfl rfl true ha31 _) ?_
              refine nr ?_; intro U h; simp only [z0, z1] at h; subst h
              refine wpList_nil ?_
              refine then_n ?_
              refine wp_seq ?_
              refine wp_cond_true rfl ?_
              refine wp_skip ?_
              refine then_n ?_
              refine wp_seq ?_
              refine wp_block ?_
              refine wp_seq ?_
              refine wp_region_lit ?_
              refine s_val 191 rfl rfl (.int .i64 ((a3 : Nat) : Int)) (rfl) ?_
              refine nr ?_; intro U h; simp only [z0, z1] at h; subst h
              refine s_val 23 rfl rfl (.int .i64 ((a3 : Nat) : Int)) (rfl) ?_
              refine nr ?_; intro U h; simp only [z0, z1] at h; subst h
              refine wpList_nil ?_
              refine then_n ?_
              refine wp_region_exA (A := ?Ax4) 11 [(0, 192), (1, 193), (2, 194), (3, 195), (4, 196), (5, 197), (6, 198), (7, 199), (8, 200), (9, 201), (10, 202)] [.val (.slice (some ⟨gB, 0, none⟩) I.length I.length), .val (.int .i64 ((a3 : Nat) : Int)), .val (.slice ai I.length ci), .val (.int .i64 ((a3 : Nat) : Int)), .val (.pointer (pK kI ai a3 0)), .val (.agg (idA (I.getD a3 0))), .val (.slice (some ⟨gH, 0, none⟩) I.length I.length), .val (.int .i64 ((a3 : Nat) : Int)), .val (.pointer (some ⟨gH, a3, none⟩)), .val (.slice (f3 a3).1 (H3 a3).length (f3 a3).2), .val (.agg (hdA (bestH (I.getD a3 0) (H3 a3))))] follows (by kernel_rfl) rfl ?hAx4 (opsA_cons ?o0x4 (opsA_cons ?o1x4 (opsA_cons ?o2x4 (opsA_cons ?o3x4 (opsA_cons ?o4x4 (opsA_cons ?o5x4 (opsA_cons ?o6x4 (opsA_cons ?o7x4 (opsA_cons ?o8x4 (opsA_cons ?o9x4 (opsA_cons ?o10x4 opsA_nil))))))))))) ?restx4
              case hAx4 =>
                intro ptrs
                simp only [full, foldSlots, filledE, postE, List.foldl_cons, List.foldl_nil, List.getD_cons_zero, List.getD_cons_succ, fill_val, List.set_cons_zero, List.set_cons_succ]
                exact rfl
              case o0x4 => exact fun _ _ _ _ => opE_move (v := .slice (some ⟨gB, 0, none⟩) I.length I.length) _ rfl rfl rfl
              case o1x4 => exact fun _ _ _ _ => opE_move (v := .int .i64 ((a3 : Nat) : Int)) _ rfl rfl rfl
              case o2x4 => exact fun _ _ _ _ => opE_move (v := .slice ai I.length ci) _ rfl rfl rfl
              case o3x4 => exact fun _ _ _ _ => opE_move (v := .int .i64 ((a3 : Nat) : Int)) _ rfl rfl rfl
              case o4x4 => exact fun _ _ hw _ => opE_value (v := .pointer (pK kI ai a3 0)) rfl (run_ixK rI (HI.gro (GG.drew.trans hw)) _ _ rfl rfl a3 rfl (by omega))
              case o5x4 => exact fun _ _ hw _ => opE_value (v := .agg (idA (I.getD a3 0))) rfl (run_ldKI (HI.gro (GG.drew.trans hw)) _ rfl a3 rfl (by omega))
              case o6x4 => exact fun _ _ _ _ => opE_move (v := .slice (some ⟨gH, 0, none⟩) I.length I.length) _ rfl rfl rfl
              case o7x4 => exact fun _ _ _ _ => opE_move (v := .int .i64 ((a3 : Nat) : Int)) _ rfl rfl rfl
              case o8x4 => exact fun _ _ _ _ => opE_value (v := .pointer (some ⟨gH, a3, none⟩)) rfl (run_ixG _ _ rfl gH I.length a3 rfl rfl (by omega) _)
              case o9x4 => exact fun _ _ hw _ => opE_value (v := .slice (f3 a3).1 (H3 a3).length (f3 a3).2) rfl (ldG _ rfl gH a3 rfl (hw.has kgH) (by omega))
              case o10x4 =>
                intro ptrs w' hw hE
                exact opE_call (.val (.agg (hdA (bestH (I.getD a3 0) (H3 a3))))) rfl _ 8 Try.call8 rfl rfl _ rfl [.agg (idA (I.getD a3 0)), .slice (f3 a3).1 (H3 a3).length (f3 a3).2] rfl ((best_any _ (I.getD a3 0) (atI HI (by omega)) (f3 a3).1 (f3 a3).2 (H3 a3) ((HF.gro ((Gro.refl _).drew.trans hw)).rk a3 (by omega)) (Nat.le_trans ((HF.nb a3 (by omega)).big hI6) (by decide))).mono fun e w' ⟨he, hg⟩ => ⟨_, he, hg, rfl⟩)
              intro ptrs w7 GD hxE
              simp only [List.drop_succ_cons, List.drop_zero]
              replace kg1 := GD.has kg1
              replace kg2 := GD.has kg2
              replace kg3 := GD.has kg3
              replace kg4 := GD.has kg4
              replace kgH := GD.has kgH
              replace HF := HF.gro ((Gro.refl _).drew.trans GD)
              replace HB := HB.gro ((Gro.refl _).drew.trans GD)
              replace GG := GG.drew.trans GD
              clear GD
              refine s_val 203 rfl rfl (.pointer (pK kH (some ⟨gB, 0, none⟩) a3 0)) (run_ixK rH (HB.re) _ _ rfl (by rw [hBl]; rfl) a3 rfl (by omega)) ?_
              refine nr ?_; intro U h; simp only [z0, z1] at h; subst h
              refine s_stK rfl rfl 26 _ _ rfl HB a3 0 (by omega) rfl (.agg (hdA (bestH (I.getD a3 0) (H3 a3)))) rfl (hdL (bestH (I.getD a3 0) (H3 a3))) rfl (siHl _) (by rw [hdL_len]; decide) (by rw [hdL_len]; decide) (hdL_one _) ((bestH (I.getD a3 0) (H3 a3))) (spl_hd _ _) (bestH_ok (atI HI (by omega)) (HF.rk a3 (by omega)).all) ?_
              intro w8 HB2 G2
              replace kg1 := G2.has kg1 (HB.own.ne kg1 (by decide))
              replace kg2 := G2.has kg2 (HB.own.ne kg2 (by decide))
              replace kg3 := G2.has kg3 (HB.own.ne kg3 (by decide))
              replace kg4 := G2.has kg4 (HB.own.ne kg4 (by decide))
              replace kgH := G2.has kgH (HB.own.ne kgH (by decide))
              replace HF := HF.gros G2 blk_sub
              replace GG := G2.gro GG (fun k hk => HB.own.base k hk)
              clear G2 HB
              have HB := HB2
              clear HB2
              refine wpList_nil ?_
              refine blk_n ?_
              refine then_n ?_
              refine wp_region_lit ?_
              refine s_val 204 rfl rfl (.int .i64 ((a3 + 1 : Nat) : Int)) (run_addI 3 _ _ _ rfl ((a3 : Nat) : Int) 1 ((a3 + 1 : Nat) : Int) rfl rfl (by omega) (by omega) (by omega) _) ?_
              refine nr ?_; intro U h; simp only [z0, z1] at h; subst h
              refine s_val 189 rfl rfl (.int .i64 ((a3 + 1 : Nat) : Int)) (rfl) ?_
              refine nr ?_; intro U h; simp only [z0, z1] at h; subst h
              refine wpList_nil ?_
              refine then_n ?_
              exact ⟨I.length + 1 - (a3 + 1), by omega, a3 + 1, B4.set a3 (bestH (I.getD a3 0) (H3 a3)), (fun kz => ([.int .i64 ((a3 : Nat) : Int), .bool true, .int .i64 ((a3 : Nat) : Int), .slice (some ⟨gB, 0, none⟩) I.length I.length, .int .i64 ((a3 : Nat) : Int), .slice ai I.length ci, .int .i64 ((a3 : Nat) : Int), .pointer (pK kI ai a3 0), .agg (idA (I.getD a3 0)), .slice (some ⟨gH, 0, none⟩) I.length I.length, .int .i64 ((a3 : Nat) : Int), .pointer (some ⟨gH, a3, none⟩), .slice (f3 a3).1 (H3 a3).length (f3 a3).2, .agg (hdA (bestH (I.getD a3 0) (H3 a3))), .pointer (pK kH (some ⟨gB, 0, none⟩) a3 0), .int .i64 ((a3 + 1 : Nat) : Int)] : List Value).getD kz undef), rfl, rfl, by omega, GG, kg1, kg2, kg3, kg4, kgH, HF, HB, by rw [List.length_set]; exact hBl, set_best hb4 (by omega) (by rw [hH3 a3 ha3l]; rfl)⟩
        · have ha1l : a1 < I.length := by have := of_decide_eq_true ha11; omega
          refine s_val 135 rfl rfl (.bool true) (run_lssT 3 _ _ _ rfl ((a1 : Nat) : Int) ((I.length : Nat) : Int) rfl rfl true ha11 _) ?_
          refine nr ?_; intro U h; simp only [z0, z1] at h; subst h
          refine wpList_nil ?_
          refine then_n ?_
          refine wp_seq ?_
          refine wp_cond_true rfl ?_
          refine wp_skip ?_
          refine then_n ?_
          refine wp_seq ?_
          refine wp_block ?_
          refine wp_seq ?_
          refine wp_region_lit ?_
          refine s_val 136 rfl rfl (.int .i64 ((a1 : Nat) : Int)) (rfl) ?_
          refine nr ?_; intro U h; simp only [z0, z1] at h; subst h
          refine s_val 19 rfl rfl (.int .i64 ((a1 : Nat) : Int)) (rfl) ?_
          refine nr ?_; intro U h; simp only [z0, z1] at h; subst h
          refine wpList_nil ?_
          refine then_n ?_
          refine wp_seq ?_
          refine wp_region_lit ?_
          refine s_val 137 rfl rfl (.int .i64 ((a1 : Nat) : Int)) (rfl) ?_
          refine nr ?_; intro U h; simp only [z0, z1] at h; subst h
          refine s_val 138 rfl rfl (.pointer (some ⟨g1, 2, none⟩)) (run_fld 45 _ 2 rfl g1 0 rfl 2 (by kernel_rfl)) ?_
          refine nr ?_; intro U h; simp only [z0, z1] at h; subst h
          refine s_val 139 rfl rfl (.slice ah Hs.length ch) (ldWh _ rfl g1 rfl (kg1)) ?_
          refine nr ?_; intro U h; simp only [z0, z1] at h; subst h
          refine s_val 140 rfl rfl (.int .i64 ((Hs.length : Nat) : Int)) (run_len Try.underlying43 _ rfl _ _ _ rfl _) ?_
          refine nr ?_; intro U h; simp only [z0, z1] at h; subst h
          cases hal1 : decide (((a1 : Nat) : Int) < ((Hs.length : Nat) : Int))
          · have hal1e := of_decide_eq_false hal1
            refine s_val 141 rfl rfl (.bool false) (run_lssT 3 _ _ _ rfl ((a1 : Nat) : Int) ((Hs.length : Nat) : Int) rfl rfl false hal1 _) ?_
            refine nr ?_; intro U h; simp only [z0, z1] at h; subst h
            refine wpList_nil ?_
            refine then_n ?_
            refine wp_cond_false rfl ?_
            refine wp_skip ?_
            refine blk_n ?_
            refine then_n ?_
            refine wp_region_lit ?_
            refine s_val 180 rfl rfl (.int .i64 ((a1 + 1 : Nat) : Int)) (run_addI 3 _ _ _ rfl ((a1 : Nat) : Int) 1 ((a1 + 1 : Nat) : Int) rfl rfl (by omega) (by omega) (by omega) _) ?_
            refine nr ?_; intro U h; simp only [z0, z1] at h; subst h
            refine s_val 134 rfl rfl (.int .i64 ((a1 + 1 : Nat) : Int)) (rfl) ?_
            refine nr ?_; intro U h; simp only [z0, z1] at h; subst h
            refine wpList_nil ?_
            refine then_n ?_
            exact ⟨I.length + 1 - (a1 + 1), by omega, a1 + 1, f1, H1, (fun kz => ([.int .i64 ((a1 : Nat) : Int), us4 1, .bool true, .int .i64 ((a1 : Nat) : Int), .int .i64 ((a1 : Nat) : Int), .pointer (some ⟨g1, 2, none⟩), .slice ah Hs.length ch, .int .i64 ((Hs.length : Nat) : Int), .bool false, us4 9, us4 10, us4 11, us4 12, us4 13, us4 14, us4 15, us4 16, us4 17, us4 18, us4 19, us4 20, us4 21, us4 22, us4 23, us4 24, us4 25, us4 26, us4 27, us4 28, us4 29, us4 30, us4 31, us4 32, us4 33, us4 34, us4 35, us4 36, us4 37, us4 38, us4 39, us4 40, us4 41, us4 42, us4 43, us4 44, us4 45, us4 46, .int .i64 ((a1 + 1 : Nat) : Int)] : List Value).getD kz undef), rfl, rfl, by omega, GG, kg1, kg2, kg3, kg4, kgH, HF, hD_skip hH1 (by omega)⟩
          · have hal1l : a1 < Hs.length := by have := of_decide_eq_true hal1; omega
            refine s_val 141 rfl rfl (.bool true) (run_lssT 3 _ _ _ rfl ((a1 : Nat) : Int) ((Hs.length : Nat) : Int) rfl rfl true hal1 _) ?_
            refine nr ?_; intro U h; simp only [z0, z1] at h; subst h
            refine wpList_nil ?_
            refine then_n ?_
            refine wp_cond_true rfl ?_
            refine wp_seq ?_
            have HX := (hH a1 hal1l).1
            have hXl := (hH a1 hal1l).2
            refine wp_region_lit ?_
            refine s_val 142 rfl rfl (.pointer (some ⟨g1, 2, none⟩)) (run_fld 45 _ 2 rfl g1 0 rfl 2 (by kernel_rfl)) ?_
            refine nr ?_; intro U h; simp only [z0, z1] at h; subst h
            refine s_val 143 rfl rfl (.slice ah Hs.length ch) (ldWh _ rfl g1 rfl (kg1)) ?_
            refine nr ?_; intro U h; simp only [z0, z1] at h; subst h
            refine s_val 144 rfl rfl (.int .i64 ((a1 : Nat) : Int)) (rfl) ?_
            refine nr ?_; intro U h; simp only [z0, z1] at h; subst h
            refine s_val 145 rfl rfl (.pointer (pK kS ah a1 0)) (run_ixK rS (HHs.gro GG) _ _ rfl rfl a1 rfl hal1l) ?_
            refine nr ?_; intro U h; simp only [z0, z1] at h; subst h
            refine s_val 146 rfl rfl (.slice (Hs.getD a1 zR).ao (Hs.getD a1 zR).l.length (Hs.getD a1 zR).cap) (run_ldKS (HHs.gro GG) _ rfl a1 rfl hal1l) ?_
            refine nr ?_; intro U h; simp only [z0, z1] at h; subst h
            refine s_val 147 rfl rfl (.int .i64 (((Hs.getD a1 zR).l.length : Nat) : Int)) (run_len Try.underlying24 _ rfl _ _ _ rfl _) ?_
            refine nr ?_; intro U h; simp only [z0, z1] at h; subst h
            refine s_val 148 rfl rfl (.int .i64 0) (rfl) ?_
            refine nr ?_; intro U h; simp only [z0, z1] at h; subst h
            refine wpList_nil ?_
            refine then_n ?_
            refine wp_block ?_
            refine wp_loopN (fun mz az wv => ∃ (q2 : Nat) (f2 : Nat → Option Addr × Nat) (H2 : Nat → List Hd) (us5 : Nat → Value), mz = (Hs.getD a1 zR).l.length + 1 - q2 ∧ az = ⟨[.agg (wdA aw IW.length cw al Lk.length cl ah Hs.length ch), .slice ai I.length ci, .int .i64 ((tm : Nat) : Int), .pointer (some ⟨g1, 0, none⟩), undef, undef, .slice none 0 0, .pointer (some ⟨g2, 0, none⟩), .pointer (some ⟨g3, 0, none⟩), .pointer (some ⟨g4, 0, none⟩), us1 0, undef, us2 0, us2 1, us2 2, us3 0, us3 1, us3 2, .slice (some ⟨gH, 0, none⟩) I.length I.length, .int .i64 ((a1 : Nat) : Int), undef, us5 0, undef, undef, undef, undef, undef, .slice ai I.length ci, .int .i64 ((I.length : Nat) : Int), .int .i64 ((i : Nat) : Int), .bool false, us1 2, us1 3, us1 4, us1 5, us1 6, us1 7, .pointer (some ⟨g1, 1, none⟩), .slice al Lk.length cl, .int .i64 ((Lk.length : Nat) : Int), .int .i64 ((q : Nat) : Int), .bool false, us2 4, us2 5, us2 6, us2 7, us2 8, us2 9, us2 10, us2 11, us2 12, us2 13, us2 14, us2 15, us2 16, us2 17, us2 18, us2 19, us2 20, us2 21, us2 22, us2 23, us2 24, us2 25, us2 26, us2 27, us2 28, us2 29, us2 30, us2 31, us2 32, us2 33, us2 34, us2 35, us2 36, us2 37, us2 38, us2 39, us2 40, us2 41, us2 42, us2 43, us2 44, us2 45, us2 46, us2 47, us2 48, us2 49, .slice ai I.length ci, .int .i64 ((I.length : Nat) : Int), .int .i64 ((k : Nat) : Int), .bool false, us3 4, us3 5, us3 6, us3 7, us3 8, us3 9, us3 10, us3 11, us3 12, us3 13, us3 14, us3 15, us3 16, us3 17, us3 18, us3 19, us3 20, us3 21, us3 22, us3 23, us3 24, us3 25, us3 26, us3 27, us3 28, us3 29, us3 30, us3 31, us3 32, us3 33, us3 34, us3 35, us3 36, us3 37, us3 38, us3 39, us3 40, .slice ai I.length ci, .int .i64 ((I.length : Nat) : Int), .slice (some ⟨gH, 0, none⟩) I.length I.length, .slice ai I.length ci, .int .i64 ((I.length : Nat) : Int), .int .i64 ((a1 : Nat) : Int), .bool true, .int .i64 ((a1 : Nat) : Int), .int .i64 ((a1 : Nat) : Int), .pointer (some ⟨g1, 2, none⟩), .slice ah Hs.length ch, .int .i64 ((Hs.length : Nat) : Int), .bool true, .pointer (some ⟨g1, 2, none⟩), .slice ah Hs.length ch, .int .i64 ((a1 : Nat) : Int), .pointer (pK kS ah a1 0), .slice (Hs.getD a1 zR).ao (Hs.getD a1 zR).l.length (Hs.getD a1 zR).cap, .int .i64 (((Hs.getD a1 zR).l.length : Nat) : Int), .int .i64 ((q2 : Nat) : Int), us5 1, us5 2, us5 3, us5 4, us5 5, us5 6, us5 7, us5 8, us5 9, us5 10, us5 11, us5 12, us5 13, us5 14, us5 15, us5 16, us5 17, us5 18, us5 19, us5 20, us5 21, us5 22, us5 23, us5 24, us5 25, us5 26, us5 27, us5 28, us5 29, us5 30, us5 31, us4 47, undef, undef, undef, undef, undef, undef, undef, undef, undef, undef, undef, undef, undef, undef, undef, undef, undef, undef, undef, undef, undef, undef, undef, undef, undef, undef, undef, undef, undef, undef, undef, undef, undef, undef, undef, undef, undef, undef, undef, undef, undef, undef, undef, undef, undef, undef, undef, undef, undef, undef, undef, undef, undef, undef, undef, undef, undef, undef, undef, undef, undef, undef, undef, undef, undef, undef, undef, undef, undef, undef, undef, undef, undef, undef, undef, undef, undef, undef, undef, undef, undef, undef].toArray, []⟩ ∧ q2 ≤ (Hs.getD a1 zR).l.length ∧ Gro w wv ∧ wv.heap[g1]? = some (.cells (wdA aw IW.length cw al Lk.length cl ah Hs.length ch) 45 (0, 0)) ∧ wv.heap[g2]? = some (.cells (mxA mx0) 47 (0, 0)) ∧ wv.heap[g3]? = some (.cells (mxA (lkF I.length mx0 Lk)) 47 (0, 0)) ∧ wv.heap[g4]? = some (.cells (mxA (warH I.length (lkF I.length (dgF I.length) Lk) I.length)) 47 (0, 0)) ∧ wv.heap[gH]? = some (.cells (hrA I.length f2 H2) 24 (0, 0)) ∧ HFr wv [gH] I.length (lkF I.length mx0 Lk) f2 H2 ∧ (∀ c, c < I.length → H2 c = hE I.length (lkF I.length mx0 Lk) Hs a1 q2 c)) ?_ _ ⟨0, f1, H1, (fun kz => ([us4 1, us4 16, us4 17, us4 18, us4 19, us4 20, us4 21, us4 22, us4 23, us4 24, us4 25, us4 26, us4 27, us4 28, us4 29, us4 30, us4 31, us4 32, us4 33, us4 34, us4 35, us4 36, us4 37, us4 38, us4 39, us4 40, us4 41, us4 42, us4 43, us4 44, us4 45, us4 46] : List Value).getD kz undef), rfl, rfl, Nat.zero_le _, GG, kg1, kg2, kg3, kg4, kgH, HF, hE_0 hH1⟩
            clear GG kg1 kg2 kg3 kg4 kgH HF
            rintro mz az wv ⟨q2, f2, H2, us5, rfl, rfl, hq2, GG, kg1, kg2, kg3, kg4, kgH, HF, hH2⟩
            refine wp_seq ?_
            refine wp_region_lit ?_
            cases hq21 : decide (((q2 : Nat) : Int) < (((Hs.getD a1 zR).l.length : Nat) : Int))
            · have hq2e : q2 = (Hs.getD a1 zR).l.length := by have := of_decide_eq_false hq21; omega
              refine s_val 149 rfl rfl (.bool false) (run_lssT 3 _ _ _ rfl ((q2 : Nat) : Int) (((Hs.getD a1 zR).l.length : Nat) : Int) rfl rfl false hq21 _) ?_
              refine nr ?_; intro U h; simp only [z0, z1] at h; subst h
              refine wpList_nil ?_
              refine then_n ?_
              refine wp_seq ?_
              refine wp_cond_false rfl ?_
              refine wp_exit ?_
              refine then_x ?_
              refine then_x ?_
              refine blk_x ?_
              refine blk_n ?_
              refine then_n ?_
              refine wp_region_lit ?_
              refine s_val 180 rfl rfl (.int .i64 ((a1 + 1 : Nat) : Int)) (run_addI 3 _ _ _ rfl ((a1 : Nat) : Int) 1 ((a1 + 1 : Nat) : Int) rfl rfl (by omega) (by omega) (by omega) _) ?_
              refine nr ?_; intro U h; simp only [z0, z1] at h; subst h
              refine s_val 134 rfl rfl (.int .i64 ((a1 + 1 : Nat) : Int)) (rfl) ?_
              refine nr ?_; intro U h; simp only [z0, z1] at h; subst h
              refine wpList_nil ?_
              refine then_n ?_
              exact ⟨I.length + 1 - (a1 + 1), by omega, a1 + 1, f2, H2, (fun kz => ([.int .i64 ((a1 : Nat) : Int), us5 0, .bool true, .int .i64 ((a1 : Nat) : Int), .int .i64 ((a1 : Nat) : Int), .pointer (some ⟨g1, 2, none⟩), .slice ah Hs.length ch, .int .i64 ((Hs.length : Nat) : Int), .bool true, .pointer (some ⟨g1, 2, none⟩), .slice ah Hs.length ch, .int .i64 ((a1 : Nat) : Int), .pointer (pK kS ah a1 0), .slice (Hs.getD a1 zR).ao (Hs.getD a1 zR).l.length (Hs.getD a1 zR).cap, .int .i64 (((Hs.getD a1 zR).l.length : Nat) : Int), .int .i64 ((q2 : Nat) : Int), .bool false, us5 2, us5 3, us5 4, us5 5, us5 6, us5 7, us5 8, us5 9, us5 10, us5 11, us5 12, us5 13, us5 14, us5 15, us5 16, us5 17, us5 18, us5 19, us5 20, us5 21, us5 22, us5 23, us5 24, us5 25, us5 26, us5 27, us5 28, us5 29, us5 30, us5 31, .int .i64 ((a1 + 1 : Nat) : Int)] : List Value).getD kz undef), rfl, rfl, by omega, GG, kg1, kg2, kg3, kg4, kgH, HF, hE_end hH2 hq2e⟩
            · have hq2l : q2 < (Hs.getD a1 zR).l.length := by have := of_decide_eq_true hq21; omega
              refine s_val 149 rfl rfl (.bool true) (run_lssT 3 _ _ _ rfl ((q2 : Nat) : Int) (((Hs.getD a1 zR).l.length : Nat) : Int) rfl rfl true hq21 _) ?_
              refine nr ?_; intro U h; simp only [z0, z1] at h; subst h
              refine wpList_nil ?_
              refine then_n ?_
              refine wp_seq ?_
              refine wp_cond_true rfl ?_
              refine wp_skip ?_
              refine then_n ?_
              refine wp_seq ?_
              refine wp_block ?_
              refine wp_seq ?_
              refine wp_region_lit ?_
              refine s_val 150 rfl rfl (.pointer (pK kH (Hs.getD a1 zR).ao q2 0)) (run_ixK rH (HX.gro GG) _ _ rfl rfl q2 rfl (by omega)) ?_
              refine nr ?_; intro U h; simp only [z0, z1] at h; subst h
              refine s_val 151 rfl rfl (.agg (hdA ((Hs.getD a1 zR).l.getD q2 zH))) (run_ldKH (HX.gro GG) _ rfl q2 rfl (by omega)) ?_
              refine nr ?_; intro U h; simp only [z0, z1] at h; subst h
              refine s_alloc 21 rfl rfl 26 rfl _ zeroH (hdA zH) rfl ?_
              intro w6 g5 G eg5 kg5
              have bg5 := size_base GG eg5
              have dg1g5 := lt_new kg1 eg5
              have dg2g5 := lt_new kg2 eg5
              have dg3g5 := lt_new kg3 eg5
              have dg4g5 := lt_new kg4 eg5
              have dgHg5 := lt_new kgH eg5
              have dHFg5 := HF.ne eg5
              replace kg1 := G.has kg1
              replace kg2 := G.has kg2
              replace kg3 := G.has kg3
              replace kg4 := G.has kg4
              replace kgH := G.has kgH
              replace HF := HF.gro G
              replace GG := GG.trans G
              clear G
              clear eg5
              refine nr ?_; intro U h; simp only [z0, z1] at h; subst h
              refine s_store rfl rfl 26 _ _ rfl g5 0 rfl (.agg (hdA ((Hs.getD a1 zR).l.getD q2 zH))) rfl 26 _ kg5 (hdA ((Hs.getD a1 zR).l.getD q2 zH)) rfl (siH' _) (hdA_fit _ _) (hdA_one _) (hdA ((Hs.getD a1 zR).l.getD q2 zH)) (splice_whole _ _ (hdA_sz _ _)) ?_
              intro w7 St
              have kS := kg5
              replace kg1 := St.has (by omega) kg1
              replace kg2 := St.has (by omega) kg2
              replace kg3 := St.has (by omega) kg3
              replace kg4 := St.has (by omega) kg4
              replace kgH := St.has (by omega) kgH
              replace HF := HF.st St dHFg5
              replace GG := GG.store St bg5
              replace kg5 := St.new
              clear St
              refine wpList_nil ?_
              refine then_n ?_
              refine wp_seq ?_
              cases x1 : decide (0 ≤ ((Hs.getD a1 zR).l.getD q2 zH).n)
              · refine wp_region_exA (A := ?Ax5) 17 [(0, 152), (1, 153), (2, 154), (3, 155), (4, 156), (5, 157), (6, 158), (7, 159), (8, 160), (9, 161), (10, 162), (11, 163), (12, 164), (13, 165), (14, 166), (15, 167), (16, 168)] [.val (.pointer (some ⟨g5, 0, none⟩)), .val (.int .i64 ((Hs.getD a1 zR).l.getD q2 zH).n), .val (.bool false), .val (.bool false), .val undef, .val undef, .val undef, .val undef, .val undef, .val (.bool false), .val (.bool false), .val undef, .val undef, .val undef, .val undef, .val undef, .val undef] follows (by kernel_rfl) rfl ?hAx5 (opsA_cons ?o0x5 (opsA_cons ?o1x5 (opsA_cons ?o2x5 (opsA_cons ?o3x5 (opsA_cons ?o4x5 (opsA_cons ?o5x5 (opsA_cons ?o6x5 (opsA_cons ?o7x5 (opsA_cons ?o8x5 (opsA_cons ?o9x5 (opsA_cons ?o10x5 (opsA_cons ?o11x5 (opsA_cons ?o12x5 (opsA_cons ?o13x5 (opsA_cons ?o14x5 (opsA_cons ?o15x5 (opsA_cons ?o16x5 opsA_nil))))))))))))))))) ?restx5
                case hAx5 =>
                  intro ptrs
                  simp only [full, foldSlots, filledE, postE, List.foldl_cons, List.foldl_nil, List.getD_cons_zero, List.getD_cons_succ, fill_val, List.set_cons_zero, List.set_cons_succ]
                  exact rfl
                case o0x5 => exact fun _ _ _ _ => opE_value (v := .pointer (some ⟨g5, 0, none⟩)) rfl (run_fld 26 _ 0 rfl g5 0 rfl 0 (by kernel_rfl))
                case o1x5 => exact fun _ _ hw _ => opE_value (v := .int .i64 ((Hs.getD a1 zR).l.getD q2 zH).n) rfl (ldHn _ rfl g5 rfl (hw.has kg5))
                case o2x5 => exact fun _ _ _ _ => opE_value (v := .bool false) rfl (run_geqT 3 _ _ _ rfl ((Hs.getD a1 zR).l.getD q2 zH).n 0 rfl rfl false x1 _)
                case o3x5 => exact fun _ _ _ _ => opE_move (v := .bool false) _ rfl rfl rfl
                case o4x5 => exact fun _ _ _ _ => opE_skip rfl
                case o5x5 => exact fun _ _ _ _ => opE_skip rfl
                case o6x5 => exact fun _ _ _ _ => opE_skip rfl
                case o7x5 => exact fun _ _ _ _ => opE_skip rfl
                case o8x5 => exact fun _ _ _ _ => opE_skip rfl
                case o9x5 => exact fun _ _ _ _ => opE_pick (v := .bool false) _ _ _ rfl rfl false rfl rfl
                case o10x5 => exact fun _ _ _ _ => opE_move (v := .bool false) _ rfl rfl rfl
                case o11x5 => exact fun _ _ _ _ => opE_skip rfl
                case o12x5 => exact fun _ _ _ _ => opE_skip rfl
                case o13x5 => exact fun _ _ _ _ => opE_skip rfl
                case o14x5 => exact fun _ _ _ _ => opE_skip rfl
                case o15x5 => exact fun _ _ _ _ => opE_skip rfl
                case o16x5 => exact fun _ _ _ _ => opE_skip rfl
                intro ptrs w8 GD hxE
                simp only [List.drop_succ_cons, List.drop_zero]
                replace kg1 := GD.has kg1
                replace kg2 := GD.has kg2
                replace kg3 := GD.has kg3
                replace kg4 := GD.has kg4
                replace kgH := GD.has kgH
                replace kg5 := GD.has kg5
                replace HF := HF.gro ((Gro.refl _).drew.trans GD)
                replace GG := GG.drew.trans GD
                clear GD
                refine s_val 169 rfl rfl (.bool false) (rfl) ?_
                refine nr ?_; intro U h; simp only [z0, z1] at h; subst h
                refine wpList_nil ?_
                refine then_n ?_
                refine wp_cond_false rfl ?_
                refine wp_skip ?_
                refine blk_n ?_
                refine then_n ?_
                refine wp_region_lit ?_
                refine s_val 179 rfl rfl (.int .i64 ((q2 + 1 : Nat) : Int)) (run_addI 3 _ _ _ rfl ((q2 : Nat) : Int) 1 ((q2 + 1 : Nat) : Int) rfl rfl (by omega) (by omega) (by omega) _) ?_
                refine nr ?_; intro U h; simp only [z0, z1] at h; subst h
                refine s_val 148 rfl rfl (.int .i64 ((q2 + 1 : Nat) : Int)) (rfl) ?_
                refine nr ?_; intro U h; simp only [z0, z1] at h; subst h
                refine wpList_nil ?_
                refine then_n ?_
                exact ⟨(Hs.getD a1 zR).l.length + 1 - (q2 + 1), by omega, q2 + 1, f2, H2, (fun kz => ([.pointer (some ⟨g5, 0, none⟩), .bool true, .pointer (pK kH (Hs.getD a1 zR).ao q2 0), .agg (hdA ((Hs.getD a1 zR).l.getD q2 zH)), .pointer (some ⟨g5, 0, none⟩), .int .i64 ((Hs.getD a1 zR).l.getD q2 zH).n, .bool false, .bool false, undef, undef, undef, undef, undef, .bool false, .bool false, undef, undef, undef, undef, undef, undef, .bool false, us5 22, us5 23, us5 24, us5 25, us5 26, us5 27, us5 28, us5 29, us5 30, .int .i64 ((q2 + 1 : Nat) : Int)] : List Value).getD kz undef), rfl, rfl, by omega, GG, kg1, kg2, kg3, kg4, kgH, HF, hE_no hH2 hq2l (fun c => of_decide_eq_false x1 c.1)⟩
              · obtain ⟨pn, hpn⟩ : ∃ pn : Nat, ((Hs.getD a1 zR).l.getD q2 zH).n = (pn : Int) := ⟨_, (Int.toNat_of_nonneg (of_decide_eq_true x1)).symm⟩
                cases x2 : decide (((Hs.getD a1 zR).l.getD q2 zH).n < ((I.length : Nat) : Int))
                · refine wp_region_exA (A := ?Ax6) 17 [(0, 152), (1, 153), (2, 154), (3, 155), (4, 156), (5, 157), (6, 158), (7, 159), (8, 160), (9, 161), (10, 162), (11, 163), (12, 164), (13, 165), (14, 166), (15, 167), (16, 168)] [.val (.pointer (some ⟨g5, 0, none⟩)), .val (.int .i64 ((Hs.getD a1 zR).l.getD q2 zH).n), .val (.bool true), .val (.bool true), .val (.pointer (some ⟨g5, 0, none⟩)), .val (.int .i64 ((Hs.getD a1 zR).l.getD q2 zH).n), .val (.slice ai I.length ci), .val (.int .i64 ((I.length : Nat) : Int)), .val (.bool false), .val (.bool false), .val (.bool false), .val undef, .val undef, .val undef, .val undef, .val undef, .val undef] follows (by kernel_rfl) rfl ?hAx6 (opsA_cons ?o0x6 (opsA_cons ?o1x6 (opsA_cons ?o2x6 (opsA_cons ?o3x6 (opsA_cons ?o4x6 (opsA_cons ?o5x6 (opsA_cons ?o6x6 (opsA_cons ?o7x6 (opsA_cons ?o8x6 (opsA_cons ?o9x6 (opsA_cons ?o10x6 (opsA_cons ?o11x6 (opsA_cons ?o12x6 (opsA_cons ?o13x6 (opsA_cons ?o14x6 (opsA_cons ?o15x6 (opsA_cons ?o16x6 opsA_nil))))))))))))))))) ?restx6
                  case hAx6 =>
                    intro ptrs
                    simp only [full, foldSlots, filledE, postE, List.foldl_cons, List.foldl_nil, List.getD_cons_zero, List.getD_cons_succ, fill_val, List.set_cons_zero, List.set_cons_succ]
                    exact rfl
                  case o0x6 => exact fun _ _ _ _ => opE_value (v := .pointer (some ⟨g5, 0, none⟩)) rfl (run_fld 26 _ 0 rfl g5 0 rfl 0 (by kernel_rfl))
                  case o1x6 => exact fun _ _ hw _ => opE_value (v := .int .i64 ((Hs.getD a1 zR).l.getD q2 zH).n) rfl (ldHn _ rfl g5 rfl (hw.has kg5))
                  case o2x6 => exact fun _ _ _ _ => opE_value (v := .bool true) rfl (run_geqT 3 _ _ _ rfl ((Hs.getD a1 zR).l.getD q2 zH).n 0 rfl rfl true x1 _)
                  case o3x6 => exact fun _ _ _ _ => opE_move (v := .bool true) _ rfl rfl rfl
                  case o4x6 => exact fun _ _ _ _ => opE_value (v := .pointer (some ⟨g5, 0, none⟩)) rfl (run_fld 26 _ 0 rfl g5 0 rfl 0 (by kernel_rfl))
                  case o5x6 => exact fun _ _ hw _ => opE_value (v := .int .i64 ((Hs.getD a1 zR).l.getD q2 zH).n) rfl (ldHn _ rfl g5 rfl (hw.has kg5))
                  case o6x6 => exact fun _ _ _ _ => opE_move (v := .slice ai I.length ci) _ rfl rfl rfl
                  case o7x6 => exact fun _ _ _ _ => opE_value (v := .int .i64 ((I.length : Nat) : Int)) rfl (run_len Try.underlying41 _ rfl _ _ _ rfl _)
                  case o8x6 => exact fun _ _ _ _ => opE_value (v := .bool false) rfl (run_lssT 3 _ _ _ rfl ((Hs.getD a1 zR).l.getD q2 zH).n ((I.length : Nat) : Int) rfl rfl false x2 _)
                  case o9x6 => exact fun _ _ _ _ => opE_pick (v := .bool false) _ _ _ rfl rfl true rfl rfl
                  case o10x6 => exact fun _ _ _ _ => opE_move (v := .bool false) _ rfl rfl rfl
                  case o11x6 => exact fun _ _ _ _ => opE_skip rfl
                  case o12x6 => exact fun _ _ _ _ => opE_skip rfl
                  case o13x6 => exact fun _ _ _ _ => opE_skip rfl
                  case o14x6 => exact fun _ _ _ _ => opE_skip rfl
                  case o15x6 => exact fun _ _ _ _ => opE_skip rfl
                  case o16x6 => exact fun _ _ _ _ => opE_skip rfl
                  intro ptrs w8 GD hxE
                  simp only [List.drop_succ_cons, List.drop_zero]
                  replace kg1 := GD.has kg1
                  replace kg2 := GD.has kg2
                  replace kg3 := GD.has kg3
                  replace kg4 := GD.has kg4
                  replace kgH := GD.has kgH
                  replace kg5 := GD.has kg5
                  replace HF := HF.gro ((Gro.refl _).drew.trans GD)
                  replace GG := GG.drew.trans GD
                  clear GD
                  refine s_val 169 rfl rfl (.bool false) (rfl) ?_
                  refine nr ?_; intro U h; simp only [z0, z1] at h; subst h
                  refine wpList_nil ?_
                  refine then_n ?_
                  refine wp_cond_false rfl ?_
                  refine wp_skip ?_
                  refine blk_n ?_
                  refine then_n ?_
                  refine wp_region_lit ?_
                  refine s_val 179 rfl rfl (.int .i64 ((q2 + 1 : Nat) : Int)) (run_addI 3 _ _ _ rfl ((q2 : Nat) : Int) 1 ((q2 + 1 : Nat) : Int) rfl rfl (by omega) (by omega) (by omega) _) ?_
                  refine nr ?_; intro U h; simp only [z0, z1] at h; subst h
                  refine s_val 148 rfl rfl (.int .i64 ((q2 + 1 : Nat) : Int)) (rfl) ?_
                  refine nr ?_; intro U h; simp only [z0, z1] at h; subst h
                  refine wpList_nil ?_
                  refine then_n ?_
                  exact ⟨(Hs.getD a1 zR).l.length + 1 - (q2 + 1), by omega, q2 + 1, f2, H2, (fun kz => ([.pointer (some ⟨g5, 0, none⟩), .bool true, .pointer (pK kH (Hs.getD a1 zR).ao q2 0), .agg (hdA ((Hs.getD a1 zR).l.getD q2 zH)), .pointer (some ⟨g5, 0, none⟩), .int .i64 ((Hs.getD a1 zR).l.getD q2 zH).n, .bool true, .bool true, .pointer (some ⟨g5, 0, none⟩), .int .i64 ((Hs.getD a1 zR).l.getD q2 zH).n, .slice ai I.length ci, .int .i64 ((I.length : Nat) : Int), .bool false, .bool false, .bool false, undef, undef, undef, undef, undef, undef, .bool false, us5 22, us5 23, us5 24, us5 25, us5 26, us5 27, us5 28, us5 29, us5 30, .int .i64 ((q2 + 1 : Nat) : Int)] : List Value).getD kz undef), rfl, rfl, by omega, GG, kg1, kg2, kg3, kg4, kgH, HF, hE_no hH2 hq2l (fun c => of_decide_eq_false x2 c.2.1)⟩
                · have hpn6 : pn < 6 := by have := of_decide_eq_true x2; omega
                  cases x3 : decide ((lkF I.length mx0 Lk) a1 pn = true)
                  · refine wp_region_exA (A := ?Ax7) 17 [(0, 152), (1, 153), (2, 154), (3, 155), (4, 156), (5, 157), (6, 158), (7, 159), (8, 160), (9, 161), (10, 162), (11, 163), (12, 164), (13, 165), (14, 166), (15, 167), (16, 168)] [.val (.pointer (some ⟨g5, 0, none⟩)), .val (.int .i64 ((Hs.getD a1 zR).l.getD q2 zH).n), .val (.bool true), .val (.bool true), .val (.pointer (some ⟨g5, 0, none⟩)), .val (.int .i64 ((Hs.getD a1 zR).l.getD q2 zH).n), .val (.slice ai I.length ci), .val (.int .i64 ((I.length : Nat) : Int)), .val (.bool true), .val (.bool true), .val (.bool true), .val (.int .i64 ((a1 : Nat) : Int)), .val (.pointer (some ⟨g5, 0, none⟩)), .val (.int .i64 ((Hs.getD a1 zR).l.getD q2 zH).n), .val (.pointer (some ⟨g3, a1 * 6, none⟩)), .val (.pointer (some ⟨g3, a1 * 6 + pn, none⟩)), .val (.bool false)] follows (by kernel_rfl) rfl ?hAx7 (opsA_cons ?o0x7 (opsA_cons ?o1x7 (opsA_cons ?o2x7 (opsA_cons ?o3x7 (opsA_cons ?o4x7 (opsA_cons ?o5x7 (opsA_cons ?o6x7 (opsA_cons ?o7x7 (opsA_cons ?o8x7 (opsA_cons ?o9x7 (opsA_cons ?o10x7 (opsA_cons ?o11x7 (opsA_cons ?o12x7 (opsA_cons ?o13x7 (opsA_cons ?o14x7 (opsA_cons ?o15x7 (opsA_cons ?o16x7 opsA_nil))))))))))))))))) ?restx7
                    case hAx7 =>
                      intro ptrs
                      simp only [full, foldSlots, filledE, postE, List.foldl_cons, List.foldl_nil, List.getD_cons_zero, List.getD_cons_succ, fill_val, List.set_cons_zero, List.set_cons_succ]
                      exact rfl
                    case o0x7 => exact fun _ _ _ _ => opE_value (v := .pointer (some ⟨g5, 0, none⟩)) rfl (run_fld 26 _ 0 rfl g5 0 rfl 0 (by kernel_rfl))
                    case o1x7 => exact fun _ _ hw _ => opE_value (v := .int .i64 ((Hs.getD a1 zR).l.getD q2 zH).n) rfl (ldHn _ rfl g5 rfl (hw.has kg5))
                    case o2x7 => exact fun _ _ _ _ => opE_value (v := .bool true) rfl (run_geqT 3 _ _ _ rfl ((Hs.getD a1 zR).l.getD q2 zH).n 0 rfl rfl true x1 _)
                    case o3x7 => exact fun _ _ _ _ => opE_move (v := .bool true) _ rfl rfl rfl
                    case o4x7 => exact fun _ _ _ _ => opE_value (v := .pointer (some ⟨g5, 0, none⟩)) rfl (run_fld 26 _ 0 rfl g5 0 rfl 0 (by kernel_rfl))
                    case o5x7 => exact fun _ _ hw _ => opE_value (v := .int .i64 ((Hs.getD a1 zR).l.getD q2 zH).n) rfl (ldHn _ rfl g5 rfl (hw.has kg5))
                    case o6x7 => exact fun _ _ _ _ => opE_move (v := .slice ai I.length ci) _ rfl rfl rfl
                    case o7x7 => exact fun _ _ _ _ => opE_value (v := .int .i64 ((I.length : Nat) : Int)) rfl (run_len Try.underlying41 _ rfl _ _ _ rfl _)
                    case o8x7 => exact fun _ _ _ _ => opE_value (v := .bool true) rfl (run_lssT 3 _ _ _ rfl ((Hs.getD a1 zR).l.getD q2 zH).n ((I.length : Nat) : Int) rfl rfl true x2 _)
                    case o9x7 => exact fun _ _ _ _ => opE_pick (v := .bool true) _ _ _ rfl rfl true rfl rfl
                    case o10x7 => exact fun _ _ _ _ => opE_move (v := .bool true) _ rfl rfl rfl
                    case o11x7 => exact fun _ _ _ _ => opE_move (v := .int .i64 ((a1 : Nat) : Int)) _ rfl rfl rfl
                    case o12x7 => exact fun _ _ _ _ => opE_value (v := .pointer (some ⟨g5, 0, none⟩)) rfl (run_fld 26 _ 0 rfl g5 0 rfl 0 (by kernel_rfl))
                    case o13x7 => exact fun _ _ hw _ => opE_value (v := .int .i64 ((Hs.getD a1 zR).l.getD q2 zH).n) rfl (ldHn _ rfl g5 rfl (hw.has kg5))
                    case o14x7 => exact fun _ _ _ _ => opE_value (v := .pointer (some ⟨g3, a1 * 6, none⟩)) rfl (run_ia47 _ _ rfl g3 a1 rfl rfl (by omega) _)
                    case o15x7 => exact fun _ _ _ _ => opE_value (v := .pointer (some ⟨g3, a1 * 6 + pn, none⟩)) rfl (run_ia46 _ _ rfl g3 (a1 * 6) pn rfl (by exact congrArg (Value.int .i64) hpn) (by omega) _)
                    case o16x7 => exact fun _ _ hw _ => opE_value (v := .bool false) rfl (ldMb _ rfl g3 a1 pn rfl (by omega) (by omega) (hw.has kg3) false (Bool.eq_false_iff.2 (of_decide_eq_false x3)))
                    intro ptrs w8 GD hxE
                    simp only [List.drop_succ_cons, List.drop_zero]
                    replace kg1 := GD.has kg1
                    replace kg2 := GD.has kg2
                    replace kg3 := GD.has kg3
                    replace kg4 := GD.has kg4
                    replace kgH := GD.has kgH
                    replace kg5 := GD.has kg5
                    replace HF := HF.gro ((Gro.refl _).drew.trans GD)
                    replace GG := GG.drew.trans GD
                    clear GD
                    refine s_val 169 rfl rfl (.bool false) (rfl) ?_
                    refine nr ?_; intro U h; simp only [z0, z1] at h; subst h
                    refine wpList_nil ?_
                    refine then_n ?_
                    refine wp_cond_false rfl ?_
                    refine wp_skip ?_
                    refine blk_n ?_
                    refine then_n ?_
                    refine wp_region_lit ?_
                    refine s_val 179 rfl rfl (.int .i64 ((q2 + 1 : Nat) : Int)) (run_addI 3 _ _ _ rfl ((q2 : Nat) : Int) 1 ((q2 + 1 : Nat) : Int) rfl rfl (by omega) (by omega) (by omega) _) ?_
                    refine nr ?_; intro U h; simp only [z0, z1] at h; subst h
                    refine s_val 148 rfl rfl (.int .i64 ((q2 + 1 : Nat) : Int)) (rfl) ?_
                    refine nr ?_; intro U h; simp only [z0, z1] at h; subst h
                    refine wpList_nil ?_
                    refine then_n ?_
                    exact ⟨(Hs.getD a1 zR).l.length + 1 - (q2 + 1), by omega, q2 + 1, f2, H2, (fun kz => ([.pointer (some ⟨g5, 0, none⟩), .bool true, .pointer (pK kH (Hs.getD a1 zR).ao q2 0), .agg (hdA ((Hs.getD a1 zR).l.getD q2 zH)), .pointer (some ⟨g5, 0, none⟩), .int .i64 ((Hs.getD a1 zR).l.getD q2 zH).n, .bool true, .bool true, .pointer (some ⟨g5, 0, none⟩), .int .i64 ((Hs.getD a1 zR).l.getD q2 zH).n, .slice ai I.length ci, .int .i64 ((I.length : Nat) : Int), .bool true, .bool true, .bool true, .int .i64 ((a1 : Nat) : Int), .pointer (some ⟨g5, 0, none⟩), .int .i64 ((Hs.getD a1 zR).l.getD q2 zH).n, .pointer (some ⟨g3, a1 * 6, none⟩), .pointer (some ⟨g3, a1 * 6 + pn, none⟩), .bool false, .bool false, us5 22, us5 23, us5 24, us5 25, us5 26, us5 27, us5 28, us5 29, us5 30, .int .i64 ((q2 + 1 : Nat) : Int)] : List Value).getD kz undef), rfl, rfl, by omega, GG, kg1, kg2, kg3, kg4, kgH, HF, hE_no hH2 hq2l (fun c => of_decide_eq_false x3 (by have := c.2.2; rw [hpn] at this; exact this))⟩
                  · refine wp_region_exA (A := ?Ax8) 17 [(0, 152), (1, 153), (2, 154), (3, 155), (4, 156), (5, 157), (6, 158), (7, 159), (8, 160), (9, 161), (10, 162), (11, 163), (12, 164), (13, 165), (14, 166), (15, 167), (16, 168)] [.val (.pointer (some ⟨g5, 0, none⟩)), .val (.int .i64 ((Hs.getD a1 zR).l.getD q2 zH).n), .val (.bool true), .val (.bool true), .val (.pointer (some ⟨g5, 0, none⟩)), .val (.int .i64 ((Hs.getD a1 zR).l.getD q2 zH).n), .val (.slice ai I.length ci), .val (.int .i64 ((I.length : Nat) : Int)), .val (.bool true), .val (.bool true), .val (.bool true), .val (.int .i64 ((a1 : Nat) : Int)), .val (.pointer (some ⟨g5, 0, none⟩)), .val (.int .i64 ((Hs.getD a1 zR).l.getD q2 zH).n), .val (.pointer (some ⟨g3, a1 * 6, none⟩)), .val (.pointer (some ⟨g3, a1 * 6 + pn, none⟩)), .val (.bool true)] follows (by kernel_rfl) rfl ?hAx8 (opsA_cons ?o0x8 (opsA_cons ?o1x8 (opsA_cons ?o2x8 (opsA_cons ?o3x8 (opsA_cons ?o4x8 (opsA_cons ?o5x8 (opsA_cons ?o6x8 (opsA_cons ?o7x8 (opsA_cons ?o8x8 (opsA_cons ?o9x8 (opsA_cons ?o10x8 (opsA_cons ?o11x8 (opsA_cons ?o12x8 (opsA_cons ?o13x8 (opsA_cons ?o14x8 (opsA_cons ?o15x8 (opsA_cons ?o16x8 opsA_nil))))))))))))))))) ?restx8
                    case hAx8 =>
                      intro ptrs
                      simp only [full, foldSlots, filledE, postE, List.foldl_cons, List.foldl_nil, List.getD_cons_zero, List.getD_cons_succ, fill_val, List.set_cons_zero, List.set_cons_succ]
                      exact rfl
                    case o0x8 => exact fun _ _ _ _ => opE_value (v := .pointer (some ⟨g5, 0, none⟩)) rfl (run_fld 26 _ 0 rfl g5 0 rfl 0 (by kernel_rfl))
                    case o1x8 => exact fun _ _ hw _ => opE_value (v := .int .i64 ((Hs.getD a1 zR).l.getD q2 zH).n) rfl (ldHn _ rfl g5 rfl (hw.has kg5))
                    case o2x8 => exact fun _ _ _ _ => opE_value (v := .bool true) rfl (run_geqT 3 _ _ _ rfl ((Hs.getD a1 zR).l.getD q2 zH).n 0 rfl rfl true x1 _)
                    case o3x8 => exact fun _ _ _ _ => opE_move (v := .bool true) _ rfl rfl rfl
                    case o4x8 => exact fun _ _ _ _ => opE_value (v := .pointer (some ⟨g5, 0, none⟩)) rfl (run_fld 26 _ 0 rfl g5 0 rfl 0 (by kernel_rfl))
                    case o5x8 => exact fun _ _ hw _ => opE_value (v := .int .i64 ((Hs.getD a1 zR).l.getD q2 zH).n) rfl (ldHn _ rfl g5 rfl (hw.has kg5))
                    case o6x8 => exact fun _ _ _ _ => opE_move (v := .slice ai I.length ci) _ rfl rfl rfl
                    case o7x8 => exact fun _ _ _ _ => opE_value (v := .int .i64 ((I.length : Nat) : Int)) rfl (run_len Try.underlying41 _ rfl _ _ _ rfl _)
                    case o8x8 => exact fun _ _ _ _ => opE_value (v := .bool true) rfl (run_lssT 3 _ _ _ rfl ((Hs.getD a1 zR).l.getD q2 zH).n ((I.length : Nat) : Int) rfl rfl true x2 _)
                    case o9x8 => exact fun _ _ _ _ => opE_pick (v := .bool true) _ _ _ rfl rfl true rfl rfl
                    case o10x8 => exact fun _ _ _ _ => opE_move (v := .bool true) _ rfl rfl rfl
                    case o11x8 => exact fun _ _ _ _ => opE_move (v := .int .i64 ((a1 : Nat) : Int)) _ rfl rfl rfl
                    case o12x8 => exact fun _ _ _ _ => opE_value (v := .pointer (some ⟨g5, 0, none⟩)) rfl (run_fld 26 _ 0 rfl g5 0 rfl 0 (by kernel_rfl))
                    case o13x8 => exact fun _ _ hw _ => opE_value (v := .int .i64 ((Hs.getD a1 zR).l.getD q2 zH).n) rfl (ldHn _ rfl g5 rfl (hw.has kg5))
                    case o14x8 => exact fun _ _ _ _ => opE_value (v := .pointer (some ⟨g3, a1 * 6, none⟩)) rfl (run_ia47 _ _ rfl g3 a1 rfl rfl (by omega) _)
                    case o15x8 => exact fun _ _ _ _ => opE_value (v := .pointer (some ⟨g3, a1 * 6 + pn, none⟩)) rfl (run_ia46 _ _ rfl g3 (a1 * 6) pn rfl (by exact congrArg (Value.int .i64) hpn) (by omega) _)
                    case o16x8 => exact fun _ _ hw _ => opE_value (v := .bool true) rfl (ldMb _ rfl g3 a1 pn rfl (by omega) (by omega) (hw.has kg3) true (of_decide_eq_true x3))
                    intro ptrs w8 GD hxE
                    simp only [List.drop_succ_cons, List.drop_zero]
                    replace kg1 := GD.has kg1
                    replace kg2 := GD.has kg2
                    replace kg3 := GD.has kg3
                    replace kg4 := GD.has kg4
                    replace kgH := GD.has kgH
                    replace kg5 := GD.has kg5
                    replace HF := HF.gro ((Gro.refl _).drew.trans GD)
                    replace GG := GG.drew.trans GD
                    clear GD
                    refine s_val 169 rfl rfl (.bool true) (rfl) ?_
                    refine nr ?_; intro U h; simp only [z0, z1] at h; subst h
                    refine wpList_nil ?_
                    refine then_n ?_
                    refine wp_cond_true rfl ?_
                    have lzH := lt_of_heap kgH
                    refine wp_region_exA (A := ?Ax9) 8 [(0, 170), (1, 171), (2, 172), (3, 173), (4, 174), (5, 175), (6, 176), (7, 177)] [.val (.slice (some ⟨gH, 0, none⟩) I.length I.length), .val (.int .i64 ((a1 : Nat) : Int)), .val (.slice (some ⟨gH, 0, none⟩) I.length I.length), .val (.int .i64 ((a1 : Nat) : Int)), .val (.pointer (some ⟨gH, a1, none⟩)), .val (.slice (f2 a1).1 (H2 a1).length (f2 a1).2), .val (.agg (hdA ((Hs.getD a1 zR).l.getD q2 zH))), ownK w8.heap.size kH 26 (putH (H2 a1) ((Hs.getD a1 zR).l.getD q2 zH))] follows (by kernel_rfl) rfl ?hAx9 (opsA_cons ?o0x9 (opsA_cons ?o1x9 (opsA_cons ?o2x9 (opsA_cons ?o3x9 (opsA_cons ?o4x9 (opsA_cons ?o5x9 (opsA_cons ?o6x9 (opsA_cons ?o7x9 opsA_nil)))))))) ?restx9
                    case hAx9 =>
                      intro ptrs
                      simp only [full, foldSlots, filledE, postE, List.foldl_cons, List.foldl_nil, List.getD_cons_zero, List.getD_cons_succ, fill_val, fill_ownK, List.set_cons_zero, List.set_cons_succ]
                      exact rfl
                    case o0x9 => exact fun _ _ _ _ => opE_move (v := .slice (some ⟨gH, 0, none⟩) I.length I.length) _ rfl rfl rfl
                    case o1x9 => exact fun _ _ _ _ => opE_move (v := .int .i64 ((a1 : Nat) : Int)) _ rfl rfl rfl
                    case o2x9 => exact fun _ _ _ _ => opE_move (v := .slice (some ⟨gH, 0, none⟩) I.length I.length) _ rfl rfl rfl
                    case o3x9 => exact fun _ _ _ _ => opE_move (v := .int .i64 ((a1 : Nat) : Int)) _ rfl rfl rfl
                    case o4x9 => exact fun _ _ _ _ => opE_value (v := .pointer (some ⟨gH, a1, none⟩)) rfl (run_ixG _ _ rfl gH I.length a1 rfl rfl (by omega) _)
                    case o5x9 => exact fun _ _ hw _ => opE_value (v := .slice (f2 a1).1 (H2 a1).length (f2 a1).2) rfl (ldG _ rfl gH a1 rfl (hw.has kgH) (by omega))
                    case o6x9 => exact fun _ _ hw _ => opE_value (v := .agg (hdA ((Hs.getD a1 zR).l.getD q2 zH))) rfl (ldH0 _ rfl g5 rfl (hw.has kg5))
                    case o7x9 =>
                      intro ptrs w' hw hE
                      exact opE_call (ownK w8.heap.size kH 26 (putH (H2 a1) ((Hs.getD a1 zR).l.getD q2 zH))) rfl _ 12 Try.call12 rfl rfl _ rfl [.slice (f2 a1).1 (H2 a1).length (f2 a1).2, .agg (hdA ((Hs.getD a1 zR).l.getD q2 zH))] rfl ((put_any _ (f2 a1).1 (f2 a1).2 (H2 a1) ((HF.gro ((Gro.refl _).drew.trans hw)).rk a1 (by omega)) ((HF.nb a1 (by omega)).big hI6) ((Hs.getD a1 zR).l.getD q2 zH) (atH HX hq2l)).mono fun e w' ⟨ao, cap, he, hg, hr⟩ => ⟨_, he, hg, ao, cap, rfl, hr.mono hw.size⟩)
                    intro ptrs w9 GD hxE
                    simp only [List.drop_succ_cons, List.drop_zero]
                    replace kg1 := GD.has kg1
                    replace kg2 := GD.has kg2
                    replace kg3 := GD.has kg3
                    replace kg4 := GD.has kg4
                    replace kgH := GD.has kgH
                    replace kg5 := GD.has kg5
                    replace HF := HF.gro ((Gro.refl _).drew.trans GD)
                    replace GG := GG.drew.trans GD
                    obtain ⟨⟨ao1, cap1, hx1, HR1⟩, _⟩ := hxE
                    simp only [hx1]
                    clear hx1
                    clear GD
                    refine s_val 178 rfl rfl (.pointer (some ⟨gH, a1, none⟩)) (run_ixG _ _ rfl gH I.length a1 rfl rfl (by omega) _) ?_
                    refine nr ?_; intro U h; simp only [z0, z1] at h; subst h
                    replace HF := HF.put HR1 (mem1 lzH) ha1l (by have := of_decide_eq_true x2; omega : pn < I.length) (of_decide_eq_true x3) hpn
                    refine s_store rfl rfl 24 _ _ rfl gH a1 rfl (.slice ao1 (putH (H2 a1) ((Hs.getD a1 zR).l.getD q2 zH)).length cap1) rfl 24 _ kgH #[.slice ao1 (putH (H2 a1) ((Hs.getD a1 zR).l.getD q2 zH)).length cap1] rfl si24 (by rw [hrA_size]; show _ + 1 ≤ _; omega) (sl_one _ _ _) (hrA I.length (updF f2 a1 (ao1, cap1)) (updF H2 a1 (putH (H2 a1) ((Hs.getD a1 zR).l.getD q2 zH)))) (hrA_set f2 H2 (by omega) ao1 cap1 (putH (H2 a1) ((Hs.getD a1 zR).l.getD q2 zH))) ?_
                    intro w10 St
                    have kS := kgH
                    replace kg1 := St.has (by omega) kg1
                    replace kg2 := St.has (by omega) kg2
                    replace kg3 := St.has (by omega) kg3
                    replace kg4 := St.has (by omega) kg4
                    replace kg5 := St.has (by omega) kg5
                    replace HF := HF.stS St (by simp)
                    replace GG := GG.store St bgH
                    replace kgH := St.new
                    clear St
                    refine wpList_nil ?_
                    refine blk_n ?_
                    refine then_n ?_
                    refine wp_region_lit ?_
                    refine s_val 179 rfl rfl (.int .i64 ((q2 + 1 : Nat) : Int)) (run_addI 3 _ _ _ rfl ((q2 : Nat) : Int) 1 ((q2 + 1 : Nat) : Int) rfl rfl (by omega) (by omega) (by omega) _) ?_
                    refine nr ?_; intro U h; simp only [z0, z1] at h; subst h
                    refine s_val 148 rfl rfl (.int .i64 ((q2 + 1 : Nat) : Int)) (rfl) ?_
                    refine nr ?_; intro U h; simp only [z0, z1] at h; subst h
                    refine wpList_nil ?_
                    refine then_n ?_
                    exact ⟨(Hs.getD a1 zR).l.length + 1 - (q2 + 1), by omega, q2 + 1, (updF f2 a1 (ao1, cap1)), (updF H2 a1 (putH (H2 a1) ((Hs.getD a1 zR).l.getD q2 zH))), (fun kz => ([.pointer (some ⟨g5, 0, none⟩), .bool true, .pointer (pK kH (Hs.getD a1 zR).ao q2 0), .agg (hdA ((Hs.getD a1 zR).l.getD q2 zH)), .pointer (some ⟨g5, 0, none⟩), .int .i64 ((Hs.getD a1 zR).l.getD q2 zH).n, .bool true, .bool true, .pointer (some ⟨g5, 0, none⟩), .int .i64 ((Hs.getD a1 zR).l.getD q2 zH).n, .slice ai I.length ci, .int .i64 ((I.length : Nat) : Int), .bool true, .bool true, .bool true, .int .i64 ((a1 : Nat) : Int), .pointer (some ⟨g5, 0, none⟩), .int .i64 ((Hs.getD a1 zR).l.getD q2 zH).n, .pointer (some ⟨g3, a1 * 6, none⟩), .pointer (some ⟨g3, a1 * 6 + pn, none⟩), .bool true, .bool true, .slice (some ⟨gH, 0, none⟩) I.length I.length, .int .i64 ((a1 : Nat) : Int), .slice (some ⟨gH, 0, none⟩) I.length I.length, .int .i64 ((a1 : Nat) : Int), .pointer (some ⟨gH, a1, none⟩), .slice (f2 a1).1 (H2 a1).length (f2 a1).2, .agg (hdA ((Hs.getD a1 zR).l.getD q2 zH)), .slice ao1 (putH (H2 a1) ((Hs.getD a1 zR).l.getD q2 zH)).length cap1, .pointer (some ⟨gH, a1, none⟩), .int .i64 ((q2 + 1 : Nat) : Int)] : List Value).getD kz undef), rfl, rfl, by omega, GG, kg1, kg2, kg3, kg4, kgH, HF, hE_yes hH2 ha1l hq2l ⟨of_decide_eq_true x1, of_decide_eq_true x2, by rw [hpn]; exact of_decide_eq_true x3⟩⟩
      · have hkl : k < I.length := by have := of_decide_eq_true hk1; omega
        refine s_val 91 rfl rfl (.bool true) (run_lssT 3 _ _ _ rfl ((k : Nat) : Int) ((I.length : Nat) : Int) rfl rfl true hk1 _) ?_
        refine nr ?_; intro U h; simp only [z0, z1] at h; subst h
        refine wpList_nil ?_
        refine then_n ?_
        refine wp_seq ?_
        refine wp_cond_true rfl ?_
        refine wp_skip ?_
        refine then_n ?_
        refine wp_seq ?_
        refine wp_block ?_
        refine wp_seq ?_
        refine wp_region_lit ?_
        refine s_val 92 rfl rfl (.int .i64 ((k : Nat) : Int)) (rfl) ?_
        refine nr ?_; intro U h; simp only [z0, z1] at h; subst h
        refine s_val 15 rfl rfl (.int .i64 ((k : Nat) : Int)) (rfl) ?_
        refine nr ?_; intro U h; simp only [z0, z1] at h; subst h
        refine wpList_nil ?_
        refine then_n ?_
        refine wp_seq ?_
        refine wp_region_lit ?_
        refine s_val 93 rfl rfl (.slice ai I.length ci) (rfl) ?_
        refine nr ?_; intro U h; simp only [z0, z1] at h; subst h
        refine s_val 94 rfl rfl (.int .i64 ((I.length : Nat) : Int)) (run_len Try.underlying41 _ rfl _ _ _ rfl _) ?_
        refine nr ?_; intro U h; simp only [z0, z1] at h; subst h
        refine s_val 95 rfl rfl (.int .i64 0) (rfl) ?_
        refine nr ?_; intro U h; simp only [z0, z1] at h; subst h
        refine wpList_nil ?_
        refine then_n ?_
        refine wp_block ?_
        refine wp_loopN (fun mz az wv => ∃ (a0 : Nat) (us4 : Nat → Value), mz = I.length + 1 - a0 ∧ az = ⟨[.agg (wdA aw IW.length cw al Lk.length cl ah Hs.length ch), .slice ai I.length ci, .int .i64 ((tm : Nat) : Int), .pointer (some ⟨g1, 0, none⟩), undef, undef, .slice none 0 0, .pointer (some ⟨g2, 0, none⟩), .pointer (some ⟨g3, 0, none⟩), .pointer (some ⟨g4, 0, none⟩), us1 0, undef, us2 0, us2 1, us2 2, .int .i64 ((k : Nat) : Int), us4 0, us4 1, undef, undef, undef, undef, undef, undef, undef, undef, undef, .slice ai I.length ci, .int .i64 ((I.length : Nat) : Int), .int .i64 ((i : Nat) : Int), .bool false, us1 2, us1 3, us1 4, us1 5, us1 6, us1 7, .pointer (some ⟨g1, 1, none⟩), .slice al Lk.length cl, .int .i64 ((Lk.length : Nat) : Int), .int .i64 ((q : Nat) : Int), .bool false, us2 4, us2 5, us2 6, us2 7, us2 8, us2 9, us2 10, us2 11, us2 12, us2 13, us2 14, us2 15, us2 16, us2 17, us2 18, us2 19, us2 20, us2 21, us2 22, us2 23, us2 24, us2 25, us2 26, us2 27, us2 28, us2 29, us2 30, us2 31, us2 32, us2 33, us2 34, us2 35, us2 36, us2 37, us2 38, us2 39, us2 40, us2 41, us2 42, us2 43, us2 44, us2 45, us2 46, us2 47, us2 48, us2 49, .slice ai I.length ci, .int .i64 ((I.length : Nat) : Int), .int .i64 ((k : Nat) : Int), .bool true, .int .i64 ((k : Nat) : Int), .slice ai I.length ci, .int .i64 ((I.length : Nat) : Int), .int .i64 ((a0 : Nat) : Int), us4 2, us4 3, us4 4, us4 5, us4 6, us4 7, us4 8, us4 9, us4 10, us4 11, us4 12, us4 13, us4 14, us4 15, us4 16, us4 17, us4 18, us4 19, us4 20, us4 21, us4 22, us4 23, us4 24, us4 25, us4 26, us4 27, us4 28, us4 29, us4 30, us4 31, us4 32, us4 33, us3 40, undef, undef, undef, undef, undef, undef, undef, undef, undef, undef, undef, undef, undef, undef, undef, undef, undef, undef, undef, undef, undef, undef, undef, undef, undef, undef, undef, undef, undef, undef, undef, undef, undef, undef, undef, undef, undef, undef, undef, undef, undef, undef, undef, undef, undef, undef, undef, undef, undef, undef, undef, undef, undef, undef, undef, undef, undef, undef, undef, undef, undef, undef, undef, undef, undef, undef, undef, undef, undef, undef, undef, undef, undef, undef, undef, undef, undef, undef, undef, undef, undef, undef, undef, undef, undef, undef, undef, undef, undef, undef, undef, undef, undef, undef, undef, undef, undef, undef, undef, undef, undef, undef, undef, undef, undef, undef, undef, undef, undef, undef, undef, undef, undef, undef, undef, undef, undef, undef, undef, undef, undef, undef, undef, undef, undef, undef, undef, undef, undef, undef, undef, undef, undef, undef].toArray, []⟩ ∧ a0 ≤ I.length ∧ Gro w wv ∧ wv.heap[g1]? = some (.cells (wdA aw IW.length cw al Lk.length cl ah Hs.length ch) 45 (0, 0)) ∧ wv.heap[g2]? = some (.cells (mxA mx0) 47 (0, 0)) ∧ wv.heap[g3]? = some (.cells (mxA (lkF I.length mx0 Lk)) 47 (0, 0)) ∧ wv.heap[g4]? = some (.cells (mxA (midH I.length (warH I.length (lkF I.length (dgF I.length) Lk) k) k a0 0)) 47 (0, 0))) ?_ _ ⟨0, (fun kz => ([us3 1, us3 2, us3 8, us3 9, us3 10, us3 11, us3 12, us3 13, us3 14, us3 15, us3 16, us3 17, us3 18, us3 19, us3 20, us3 21, us3 22, us3 23, us3 24, us3 25, us3 26, us3 27, us3 28, us3 29, us3 30, us3 31, us3 32, us3 33, us3 34, us3 35, us3 36, us3 37, us3 38, us3 39] : List Value).getD kz undef), rfl, rfl, Nat.zero_le _, GG, kg1, kg2, kg3, by rw [midH_zero]; exact kg4⟩
        clear GG kg1 kg2 kg3 kg4
        rintro mz az wv ⟨a0, us4, rfl, rfl, ha0, GG, kg1, kg2, kg3, kg4⟩
        refine wp_seq ?_
        refine wp_region_lit ?_
        cases ha01 : decide (((a0 : Nat) : Int) < ((I.length : Nat) : Int))
        · have ha0e : a0 = I.length := by have := of_decide_eq_false ha01; omega
          refine s_val 96 rfl rfl (.bool false) (run_lssT 3 _ _ _ rfl ((a0 : Nat) : Int) ((I.length : Nat) : Int) rfl rfl false ha01 _) ?_
          refine nr ?_; intro U h; simp only [z0, z1] at h; subst h
          refine wpList_nil ?_
          refine then_n ?_
          refine wp_seq ?_
          refine wp_cond_false rfl ?_
          refine wp_exit ?_
          refine then_x ?_
          refine then_x ?_
          refine blk_x ?_
          refine blk_n ?_
          refine then_n ?_
          refine wp_region_lit ?_
          refine s_val 128 rfl rfl (.int .i64 ((k + 1 : Nat) : Int)) (run_addI 3 _ _ _ rfl ((k : Nat) : Int) 1 ((k + 1 : Nat) : Int) rfl rfl (by omega) (by omega) (by omega) _) ?_
          refine nr ?_; intro U h; simp only [z0, z1] at h; subst h
          refine s_val 90 rfl rfl (.int .i64 ((k + 1 : Nat) : Int)) (rfl) ?_
          refine nr ?_; intro U h; simp only [z0, z1] at h; subst h
          refine wpList_nil ?_
          refine then_n ?_
          exact ⟨I.length + 1 - (k + 1), by omega, k + 1, (fun kz => ([.int .i64 ((k : Nat) : Int), us4 0, us4 1, .bool true, .int .i64 ((k : Nat) : Int), .slice ai I.length ci, .int .i64 ((I.length : Nat) : Int), .int .i64 ((a0 : Nat) : Int), .bool false, us4 3, us4 4, us4 5, us4 6, us4 7, us4 8, us4 9, us4 10, us4 11, us4 12, us4 13, us4 14, us4 15, us4 16, us4 17, us4 18, us4 19, us4 20, us4 21, us4 22, us4 23, us4 24, us4 25, us4 26, us4 27, us4 28, us4 29, us4 30, us4 31, us4 32, us4 33, .int .i64 ((k + 1 : Nat) : Int)] : List Value).getD kz undef), rfl, rfl, by omega, GG, kg1, kg2, kg3, by rw [ha0e, midH_all] at kg4; exact kg4⟩
        · have ha0l : a0 < I.length := by have := of_decide_eq_true ha01; omega
          refine s_val 96 rfl rfl (.bool true) (run_lssT 3 _ _ _ rfl ((a0 : Nat) : Int) ((I.length : Nat) : Int) rfl rfl true ha01 _) ?_
          refine nr ?_; intro U h; simp only [z0, z1] at h; subst h
          refine wpList_nil ?_
          refine then_n ?_
          refine wp_seq ?_
          refine wp_cond_true rfl ?_
          refine wp_skip ?_
          refine then_n ?_
          refine wp_seq ?_
          refine wp_block ?_
          refine wp_seq ?_
          refine wp_region_lit ?_
          refine s_val 97 rfl rfl (.int .i64 ((a0 : Nat) : Int)) (rfl) ?_
          refine nr ?_; intro U h; simp only [z0, z1] at h; subst h
          refine s_val 16 rfl rfl (.int .i64 ((a0 : Nat) : Int)) (rfl) ?_
          refine nr ?_; intro U h; simp only [z0, z1] at h; subst h
          refine wpList_nil ?_
          refine then_n ?_
          refine wp_seq ?_
          refine wp_region_lit ?_
          refine s_val 98 rfl rfl (.slice ai I.length ci) (rfl) ?_
          refine nr ?_; intro U h; simp only [z0, z1] at h; subst h
          refine s_val 99 rfl rfl (.int .i64 ((I.length : Nat) : Int)) (run_len Try.underlying41 _ rfl _ _ _ rfl _) ?_
          refine nr ?_; intro U h; simp only [z0, z1] at h; subst h
          refine s_val 100 rfl rfl (.int .i64 0) (rfl) ?_
          refine nr ?_; intro U h; simp only [z0, z1] at h; subst h
          refine wpList_nil ?_
          refine then_n ?_
          refine wp_block ?_
          refine wp_loopN (fun mz az wv => ∃ (b0 : Nat) (us5 : Nat → Value), mz = I.length + 1 - b0 ∧ az = ⟨[.agg (wdA aw IW.length cw al Lk.length cl ah Hs.length ch), .slice ai I.length ci, .int .i64 ((tm : Nat) : Int), .pointer (some ⟨g1, 0, none⟩), undef, undef, .slice none 0 0, .pointer (some ⟨g2, 0, none⟩), .pointer (some ⟨g3, 0, none⟩), .pointer (some ⟨g4, 0, none⟩), us1 0, undef, us2 0, us2 1, us2 2, .int .i64 ((k : Nat) : Int), .int .i64 ((a0 : Nat) : Int), us5 0, undef, undef, undef, undef, undef, undef, undef, undef, undef, .slice ai I.length ci, .int .i64 ((I.length : Nat) : Int), .int .i64 ((i : Nat) : Int), .bool false, us1 2, us1 3, us1 4, us1 5, us1 6, us1 7, .pointer (some ⟨g1, 1, none⟩), .slice al Lk.length cl, .int .i64 ((Lk.length : Nat) : Int), .int .i64 ((q : Nat) : Int), .bool false, us2 4, us2 5, us2 6, us2 7, us2 8, us2 9, us2 10, us2 11, us2 12, us2 13, us2 14, us2 15, us2 16, us2 17, us2 18, us2 19, us2 20, us2 21, us2 22, us2 23, us2 24, us2 25, us2 26, us2 27, us2 28, us2 29, us2 30, us2 31, us2 32, us2 33, us2 34, us2 35, us2 36, us2 37, us2 38, us2 39, us2 40, us2 41, us2 42, us2 43, us2 44, us2 45, us2 46, us2 47, us2 48, us2 49, .slice ai I.length ci, .int .i64 ((I.length : Nat) : Int), .int .i64 ((k : Nat) : Int), .bool true, .int .i64 ((k : Nat) : Int), .slice ai I.length ci, .int .i64 ((I.length : Nat) : Int), .int .i64 ((a0 : Nat) : Int), .bool true, .int .i64 ((a0 : Nat) : Int), .slice ai I.length ci, .int .i64 ((I.length : Nat) : Int), .int .i64 ((b0 : Nat) : Int), us5 1, us5 2, us5 3, us5 4, us5 5, us5 6, us5 7, us5 8, us5 9, us5 10, us5 11, us5 12, us5 13, us5 14, us5 15, us5 16, us5 17, us5 18, us5 19, us5 20, us5 21, us5 22, us5 23, us5 24, us5 25, us5 26, us4 33, us3 40, undef, undef, undef, undef, undef, undef, undef, undef, undef, undef, undef, undef, undef, undef, undef, undef, undef, undef, undef, undef, undef, undef, undef, undef, undef, undef, undef, undef, undef, undef, undef, undef, undef, undef, undef, undef, undef, undef, undef, undef, undef, undef, undef, undef, undef, undef, undef, undef, undef, undef, undef, undef, undef, undef, undef, undef, undef, undef, undef, undef, undef, undef, undef, undef, undef, undef, undef, undef, undef, undef, undef, undef, undef, undef, undef, undef, undef, undef, undef, undef, undef, undef, undef, undef, undef, undef, undef, undef, undef, undef, undef, undef, undef, undef, undef, undef, undef, undef, undef, undef, undef, undef, undef, undef, undef, undef, undef, undef, undef, undef, undef, undef, undef, undef, undef, undef, undef, undef, undef, undef, undef, undef, undef, undef, undef, undef, undef, undef, undef, undef, undef, undef, undef, undef].toArray, []⟩ ∧ b0 ≤ I.length ∧ Gro w wv ∧ wv.heap[g1]? = some (.cells (wdA aw IW.length cw al Lk.length cl ah Hs.length ch) 45 (0, 0)) ∧ wv.heap[g2]? = some (.cells (mxA mx0) 47 (0, 0)) ∧ wv.heap[g3]? = some (.cells (mxA (lkF I.length mx0 Lk)) 47 (0, 0)) ∧ wv.heap[g4]? = some (.cells (mxA (midH I.length (warH I.length (lkF I.length (dgF I.length) Lk) k) k a0 b0)) 47 (0, 0))) ?_ _ ⟨0, (fun kz => ([us4 1, us4 7, us4 8, us4 9, us4 10, us4 11, us4 12, us4 13, us4 14, us4 15, us4 16, us4 17, us4 18, us4 19, us4 20, us4 21, us4 22, us4 23, us4 24, us4 25, us4 26, us4 27, us4 28, us4 29, us4 30, us4 31, us4 32] : List Value).getD kz undef), rfl, rfl, Nat.zero_le _, GG, kg1, kg2, kg3, kg4⟩
          clear GG kg1 kg2 kg3 kg4
          rintro mz az wv ⟨b0, us5, rfl, rfl, hb0, GG, kg1, kg2, kg3, kg4⟩
          refine wp_seq ?_
          refine wp_region_lit ?_
          cases hb01 : decide (((b0 : Nat) : Int) < ((I.length : Nat) : Int))
          · have hb0e : b0 = I.length := by have := of_decide_eq_false hb01; omega
            refine s_val 101 rfl rfl (.bool false) (run_lssT 3 _ _ _ rfl ((b0 : Nat) : Int) ((I.length : Nat) : Int) rfl rfl false hb01 _) ?_
            refine nr ?_; intro U h; simp only [z0, z1] at h; subst h
            refine wpList_nil ?_
            refine then_n ?_
            refine wp_seq ?_
            refine wp_cond_false rfl ?_
            refine wp_exit ?_
            refine then_x ?_
            refine then_x ?_
            refine blk_x ?_
            refine blk_n ?_
            refine then_n ?_
            refine wp_region_lit ?_
            refine s_val 127 rfl rfl (.int .i64 ((a0 + 1 : Nat) : Int)) (run_addI 3 _ _ _ rfl ((a0 : Nat) : Int) 1 ((a0 + 1 : Nat) : Int) rfl rfl (by omega) (by omega) (by omega) _) ?_
            refine nr ?_; intro U h; simp only [z0, z1] at h; subst h
            refine s_val 95 rfl rfl (.int .i64 ((a0 + 1 : Nat) : Int)) (rfl) ?_
            refine nr ?_; intro U h; simp only [z0, z1] at h; subst h
            refine wpList_nil ?_
            refine then_n ?_
            exact ⟨I.length + 1 - (a0 + 1), by omega, a0 + 1, (fun kz => ([.int .i64 ((a0 : Nat) : Int), us5 0, .bool true, .int .i64 ((a0 : Nat) : Int), .slice ai I.length ci, .int .i64 ((I.length : Nat) : Int), .int .i64 ((b0 : Nat) : Int), .bool false, us5 2, us5 3, us5 4, us5 5, us5 6, us5 7, us5 8, us5 9, us5 10, us5 11, us5 12, us5 13, us5 14, us5 15, us5 16, us5 17, us5 18, us5 19, us5 20, us5 21, us5 22, us5 23, us5 24, us5 25, us5 26, .int .i64 ((a0 + 1 : Nat) : Int)] : List Value).getD kz undef), rfl, rfl, by omega, GG, kg1, kg2, kg3, by rw [hb0e, midH_line] at kg4; exact kg4⟩
          · have hb0l : b0 < I.length := by have := of_decide_eq_true hb01; omega
            refine s_val 101 rfl rfl (.bool true) (run_lssT 3 _ _ _ rfl ((b0 : Nat) : Int) ((I.length : Nat) : Int) rfl rfl true hb01 _) ?_
            refine nr ?_; intro U h; simp only [z0, z1] at h; subst h
            refine wpList_nil ?_
            refine then_n ?_
            refine wp_seq ?_
            refine wp_cond_true rfl ?_
            refine wp_skip ?_
            refine then_n ?_
            refine wp_seq ?_
            refine wp_block ?_
            refine wp_seq ?_
            refine wp_region_lit ?_
            refine s_val 102 rfl rfl (.int .i64 ((b0 : Nat) : Int)) (rfl) ?_
            refine nr ?_; intro U h; simp only [z0, z1] at h; subst h
            refine s_val 17 rfl rfl (.int .i64 ((b0 : Nat) : Int)) (rfl) ?_
            refine nr ?_; intro U h; simp only [z0, z1] at h; subst h
            refine wpList_nil ?_
            refine then_n ?_
            cases r1 : decide ((midH I.length (warH I.length (lkF I.length (dgF I.length) Lk) k) k a0 b0) a0 b0 = true)
            · have r1b : (midH I.length (warH I.length (lkF I.length (dgF I.length) Lk) k) k a0 b0) a0 b0 = false := Bool.eq_false_iff.2 (of_decide_eq_false r1)
              cases r2 : decide ((midH I.length (warH I.length (lkF I.length (dgF I.length) Lk) k) k a0 b0) a0 k = true)
              · have r2b : (midH I.length (warH I.length (lkF I.length (dgF I.length) Lk) k) k a0 b0) a0 k = false := Bool.eq_false_iff.2 (of_decide_eq_false r2)
                refine wp_region_exA (A := ?Ax10) 22 [(0, 103), (1, 104), (2, 105), (3, 106), (4, 107), (5, 108), (6, 109), (7, 110), (8, 111), (9, 112), (10, 113), (11, 114), (12, 115), (13, 116), (14, 117), (15, 118), (16, 119), (17, 120), (18, 121), (19, 122), (20, 123), (21, 124)] [.val (.int .i64 ((a0 : Nat) : Int)), .val (.int .i64 ((b0 : Nat) : Int)), .val (.int .i64 ((a0 : Nat) : Int)), .val (.int .i64 ((b0 : Nat) : Int)), .val (.pointer (some ⟨g4, a0 * 6, none⟩)), .val (.pointer (some ⟨g4, a0 * 6 + b0, none⟩)), .val (.bool false), .val (.bool false), .val (.int .i64 ((a0 : Nat) : Int)), .val (.int .i64 ((k : Nat) : Int)), .val (.pointer (some ⟨g4, a0 * 6, none⟩)), .val (.pointer (some ⟨g4, a0 * 6 + k, none⟩)), .val (.bool false), .val (.bool false), .val undef, .val undef, .val undef, .val undef, .val undef, .val (.bool false), .val (.bool false), .val (.pointer (some ⟨g4, a0 * 6, none⟩))] follows (by kernel_rfl) rfl ?hAx10 (opsA_cons ?o0x10 (opsA_cons ?o1x10 (opsA_cons ?o2x10 (opsA_cons ?o3x10 (opsA_cons ?o4x10 (opsA_cons ?o5x10 (opsA_cons ?o6x10 (opsA_cons ?o7x10 (opsA_cons ?o8x10 (opsA_cons ?o9x10 (opsA_cons ?o10x10 (opsA_cons ?o11x10 (opsA_cons ?o12x10 (opsA_cons ?o13x10 (opsA_cons ?o14x10 (opsA_cons ?o15x10 (opsA_cons ?o16x10 (opsA_cons ?o17x10 (opsA_cons ?o18x10 (opsA_cons ?o19x10 (opsA_cons ?o20x10 (opsA_cons ?o21x10 opsA_nil)))))))))))))))))))))) ?restx10
                case hAx10 =>
                  intro ptrs
                  simp only [full, foldSlots, filledE, postE, List.foldl_cons, List.foldl_nil, List.getD_cons_zero, List.getD_cons_succ, fill_val, List.set_cons_zero, List.set_cons_succ]
                  exact rfl
                case o0x10 => exact fun _ _ _ _ => opE_move (v := .int .i64 ((a0 : Nat) : Int)) _ rfl rfl rfl
                case o1x10 => exact fun _ _ _ _ => opE_move (v := .int .i64 ((b0 : Nat) : Int)) _ rfl rfl rfl
                case o2x10 => exact fun _ _ _ _ => opE_move (v := .int .i64 ((a0 : Nat) : Int)) _ rfl rfl rfl
                case o3x10 => exact fun _ _ _ _ => opE_move (v := .int .i64 ((b0 : Nat) : Int)) _ rfl rfl rfl
                case o4x10 => exact fun _ _ _ _ => opE_value (v := .pointer (some ⟨g4, a0 * 6, none⟩)) rfl (run_ia47 _ _ rfl g4 a0 rfl rfl (by omega) _)
                case o5x10 => exact fun _ _ _ _ => opE_value (v := .pointer (some ⟨g4, a0 * 6 + b0, none⟩)) rfl (run_ia46 _ _ rfl g4 (a0 * 6) b0 rfl rfl (by omega) _)
                case o6x10 => exact fun _ _ hw _ => opE_value (v := .bool false) rfl (ldMb _ rfl g4 a0 b0 rfl (by omega) (by omega) (hw.has kg4) false r1b)
                case o7x10 => exact fun _ _ _ _ => opE_move (v := .bool false) _ rfl rfl rfl
                case o8x10 => exact fun _ _ _ _ => opE_move (v := .int .i64 ((a0 : Nat) : Int)) _ rfl rfl rfl
                case o9x10 => exact fun _ _ _ _ => opE_move (v := .int .i64 ((k : Nat) : Int)) _ rfl rfl rfl
                case o10x10 => exact fun _ _ _ _ => opE_value (v := .pointer (some ⟨g4, a0 * 6, none⟩)) rfl (run_ia47 _ _ rfl g4 a0 rfl rfl (by omega) _)
                case o11x10 => exact fun _ _ _ _ => opE_value (v := .pointer (some ⟨g4, a0 * 6 + k, none⟩)) rfl (run_ia46 _ _ rfl g4 (a0 * 6) k rfl rfl (by omega) _)
                case o12x10 => exact fun _ _ hw _ => opE_value (v := .bool false) rfl (ldMb _ rfl g4 a0 k rfl (by omega) (by omega) (hw.has kg4) false r2b)
                case o13x10 => exact fun _ _ _ _ => opE_move (v := .bool false) _ rfl rfl rfl
                case o14x10 => exact fun _ _ _ _ => opE_skip rfl
                case o15x10 => exact fun _ _ _ _ => opE_skip rfl
                case o16x10 => exact fun _ _ _ _ => opE_skip rfl
                case o17x10 => exact fun _ _ _ _ => opE_skip rfl
                case o18x10 => exact fun _ _ _ _ => opE_skip rfl
                case o19x10 => exact fun _ _ _ _ => opE_pick (v := .bool false) _ _ _ rfl rfl false rfl rfl
                case o20x10 => exact fun _ _ _ _ => opE_pick (v := .bool false) _ _ _ rfl rfl false rfl rfl
                case o21x10 => exact fun _ _ _ _ => opE_value (v := .pointer (some ⟨g4, a0 * 6, none⟩)) rfl (run_ia47 _ _ rfl g4 a0 rfl rfl (by omega) _)
                intro ptrs w5 GD hxE
                simp only [List.drop_succ_cons, List.drop_zero]
                replace kg1 := GD.has kg1
                replace kg2 := GD.has kg2
                replace kg3 := GD.has kg3
                replace kg4 := GD.has kg4
                replace GG := GG.drew.trans GD
                clear GD
                refine s_val 125 rfl rfl (.pointer (some ⟨g4, a0 * 6 + b0, none⟩)) (run_ia46 _ _ rfl g4 (a0 * 6) b0 rfl rfl (by omega) _) ?_
                refine nr ?_; intro U h; simp only [z0, z1] at h; subst h
                refine s_store rfl rfl 4 _ _ rfl g4 (a0 * 6 + b0) rfl (.bool false) rfl 47 _ kg4 #[.bool false] rfl si4 (by rw [mxA_size]; show _ + 1 ≤ 36; omega) (b_one _) (mxA (midH I.length (warH I.length (lkF I.length (dgF I.length) Lk) k) k a0 (b0 + 1))) ((spM _ _ _ (by omega) (by omega) _).trans (congrArg mxA ((congrArg (setH (midH I.length (warH I.length (lkF I.length (dgF I.length) Lk) k) k a0 b0) a0 b0) (show false = ((midH I.length (warH I.length (lkF I.length (dgF I.length) Lk) k) k a0 b0) a0 b0 || (midH I.length (warH I.length (lkF I.length (dgF I.length) Lk) k) k a0 b0) a0 k && (midH I.length (warH I.length (lkF I.length (dgF I.length) Lk) k) k a0 b0) k b0) from by rw [r1b, r2b]; rfl)).trans (midH_step _ _ _ _)))) ?_
                intro w6 St
                have kS := kg4
                replace kg1 := St.has (by omega) kg1
                replace kg2 := St.has (by omega) kg2
                replace kg3 := St.has (by omega) kg3
                replace GG := GG.store St bg4
                replace kg4 := St.new
                clear St
                refine wpList_nil ?_
                refine blk_n ?_
                refine then_n ?_
                refine wp_region_lit ?_
                refine s_val 126 rfl rfl (.int .i64 ((b0 + 1 : Nat) : Int)) (run_addI 3 _ _ _ rfl ((b0 : Nat) : Int) 1 ((b0 + 1 : Nat) : Int) rfl rfl (by omega) (by omega) (by omega) _) ?_
                refine nr ?_; intro U h; simp only [z0, z1] at h; subst h
                refine s_val 100 rfl rfl (.int .i64 ((b0 + 1 : Nat) : Int)) (rfl) ?_
                refine nr ?_; intro U h; simp only [z0, z1] at h; subst h
                refine wpList_nil ?_
                refine then_n ?_
                exact ⟨I.length + 1 - (b0 + 1), by omega, b0 + 1, (fun kz => ([.int .i64 ((b0 : Nat) : Int), .bool true, .int .i64 ((b0 : Nat) : Int), .int .i64 ((a0 : Nat) : Int), .int .i64 ((b0 : Nat) : Int), .int .i64 ((a0 : Nat) : Int), .int .i64 ((b0 : Nat) : Int), .pointer (some ⟨g4, a0 * 6, none⟩), .pointer (some ⟨g4, a0 * 6 + b0, none⟩), .bool false, .bool false, .int .i64 ((a0 : Nat) : Int), .int .i64 ((k : Nat) : Int), .pointer (some ⟨g4, a0 * 6, none⟩), .pointer (some ⟨g4, a0 * 6 + k, none⟩), .bool false, .bool false, undef, undef, undef, undef, undef, .bool false, .bool false, .pointer (some ⟨g4, a0 * 6, none⟩), .pointer (some ⟨g4, a0 * 6 + b0, none⟩), .int .i64 ((b0 + 1 : Nat) : Int)] : List Value).getD kz undef), rfl, rfl, by omega, GG, kg1, kg2, kg3, kg4⟩
              · have r2b : (midH I.length (warH I.length (lkF I.length (dgF I.length) Lk) k) k a0 b0) a0 k = true := of_decide_eq_true r2
                refine wp_region_exA (A := ?Ax11) 22 [(0, 103), (1, 104), (2, 105), (3, 106), (4, 107), (5, 108), (6, 109), (7, 110), (8, 111), (9, 112), (10, 113), (11, 114), (12, 115), (13, 116), (14, 117), (15, 118), (16, 119), (17, 120), (18, 121), (19, 122), (20, 123), (21, 124)] [.val (.int .i64 ((a0 : Nat) : Int)), .val (.int .i64 ((b0 : Nat) : Int)), .val (.int .i64 ((a0 : Nat) : Int)), .val (.int .i64 ((b0 : Nat) : Int)), .val (.pointer (some ⟨g4, a0 * 6, none⟩)), .val (.pointer (some ⟨g4, a0 * 6 + b0, none⟩)), .val (.bool false), .val (.bool false), .val (.int .i64 ((a0 : Nat) : Int)), .val (.int .i64 ((k : Nat) : Int)), .val (.pointer (some ⟨g4, a0 * 6, none⟩)), .val (.pointer (some ⟨g4, a0 * 6 + k, none⟩)), .val (.bool true), .val (.bool true), .val (.int .i64 ((k : Nat) : Int)), .val (.int .i64 ((b0 : Nat) : Int)), .val (.pointer (some ⟨g4, k * 6, none⟩)), .val (.pointer (some ⟨g4, k * 6 + b0, none⟩)), .val (.bool ((midH I.length (warH I.length (lkF I.length (dgF I.length) Lk) k) k a0 b0) k b0)), .val (.bool ((midH I.length (warH I.length (lkF I.length (dgF I.length) Lk) k) k a0 b0) k b0)), .val (.bool ((midH I.length (warH I.length (lkF I.length (dgF I.length) Lk) k) k a0 b0) k b0)), .val (.pointer (some ⟨g4, a0 * 6, none⟩))] follows (by kernel_rfl) rfl ?hAx11 (opsA_cons ?o0x11 (opsA_cons ?o1x11 (opsA_cons ?o2x11 (opsA_cons ?o3x11 (opsA_cons ?o4x11 (opsA_cons ?o5x11 (opsA_cons ?o6x11 (opsA_cons ?o7x11 (opsA_cons ?o8x11 (opsA_cons ?o9x11 (opsA_cons ?o10x11 (opsA_cons ?o11x11 (opsA_cons ?o12x11 (opsA_cons ?o13x11 (opsA_cons ?o14x11 (opsA_cons ?o15x11 (opsA_cons ?o16x11 (opsA_cons ?o17x11 (opsA_cons ?o18x11 (opsA_cons ?o19x11 (opsA_cons ?o20x11 (opsA_cons ?o21x11 opsA_nil)))))))))))))))))))))) ?restx11
                case hAx11 =>
                  intro ptrs
                  simp only [full, foldSlots, filledE, postE, List.foldl_cons, List.foldl_nil, List.getD_cons_zero, List.getD_cons_succ, fill_val, List.set_cons_zero, List.set_cons_succ]
                  exact rfl
                case o0x11 => exact fun _ _ _ _ => opE_move (v := .int .i64 ((a0 : Nat) : Int)) _ rfl rfl rfl
                case o1x11 => exact fun _ _ _ _ => opE_move (v := .int .i64 ((b0 : Nat) : Int)) _ rfl rfl rfl
                case o2x11 => exact fun _ _ _ _ => opE_move (v := .int .i64 ((a0 : Nat) : Int)) _ rfl rfl rfl
                case o3x11 => exact fun _ _ _ _ => opE_move (v := .int .i64 ((b0 : Nat) : Int)) _ rfl rfl rfl
                case o4x11 => exact fun _ _ _ _ => opE_value (v := .pointer (some ⟨g4, a0 * 6, none⟩)) rfl (run_ia47 _ _ rfl g4 a0 rfl rfl (by omega) _)
                case o5x11 => exact fun _ _ _ _ => opE_value (v := .pointer (some ⟨g4, a0 * 6 + b0, none⟩)) rfl (run_ia46 _ _ rfl g4 (a0 * 6) b0 rfl rfl (by omega) _)
                case o6x11 => exact fun _ _ hw _ => opE_value (v := .bool false) rfl (ldMb _ rfl g4 a0 b0 rfl (by omega) (by omega) (hw.has kg4) false r1b)
                case o7x11 => exact fun _ _ _ _ => opE_move (v := .bool false) _ rfl rfl rfl
                case o8x11 => exact fun _ _ _ _ => opE_move (v := .int .i64 ((a0 : Nat) : Int)) _ rfl rfl rfl
                case o9x11 => exact fun _ _ _ _ => opE_move (v := .int .i64 ((k : Nat) : Int)) _ rfl rfl rfl
                case o10x11 => exact fun _ _ _ _ => opE_value (v := .pointer (some ⟨g4, a0 * 6, none⟩)) rfl (run_ia47 _ _ rfl g4 a0 rfl rfl (by omega) _)
                case o11x11 => exact fun _ _ _ _ => opE_value (v := .pointer (some ⟨g4, a0 * 6 + k, none⟩)) rfl (run_ia46 _ _ rfl g4 (a0 * 6) k rfl rfl (by omega) _)
                case o12x11 => exact fun _ _ hw _ => opE_value (v := .bool true) rfl (ldMb _ rfl g4 a0 k rfl (by omega) (by omega) (hw.has kg4) true r2b)
                case o13x11 => exact fun _ _ _ _ => opE_move (v := .bool true) _ rfl rfl rfl
                case o14x11 => exact fun _ _ _ _ => opE_move (v := .int .i64 ((k : Nat) : Int)) _ rfl rfl rfl
                case o15x11 => exact fun _ _ _ _ => opE_move (v := .int .i64 ((b0 : Nat) : Int)) _ rfl rfl rfl
                case o16x11 => exact fun _ _ _ _ => opE_value (v := .pointer (some ⟨g4, k * 6, none⟩)) rfl (run_ia47 _ _ rfl g4 k rfl rfl (by omega) _)
                case o17x11 => exact fun _ _ _ _ => opE_value (v := .pointer (some ⟨g4, k * 6 + b0, none⟩)) rfl (run_ia46 _ _ rfl g4 (k * 6) b0 rfl rfl (by omega) _)
                case o18x11 => exact fun _ _ hw _ => opE_value (v := .bool ((midH I.length (warH I.length (lkF I.length (dgF I.length) Lk) k) k a0 b0) k b0)) rfl (ldMb _ rfl g4 k b0 rfl (by omega) (by omega) (hw.has kg4) ((midH I.length (warH I.length (lkF I.length (dgF I.length) Lk) k) k a0 b0) k b0) rfl)
                case o19x11 => exact fun _ _ _ _ => opE_pick (v := .bool ((midH I.length (warH I.length (lkF I.length (dgF I.length) Lk) k) k a0 b0) k b0)) _ _ _ rfl rfl true rfl rfl
                case o20x11 => exact fun _ _ _ _ => opE_pick (v := .bool ((midH I.length (warH I.length (lkF I.length (dgF I.length) Lk) k) k a0 b0) k b0)) _ _ _ rfl rfl false rfl rfl
                case o21x11 => exact fun _ _ _ _ => opE_value (v := .pointer (some ⟨g4, a0 * 6, none⟩)) rfl (run_ia47 _ _ rfl g4 a0 rfl rfl (by omega) _)
                intro ptrs w5 GD hxE
                simp only [List.drop_succ_cons, List.drop_zero]
                replace kg1 := GD.has kg1
                replace kg2 := GD.has kg2
                replace kg3 := GD.has kg3
                replace kg4 := GD.has kg4
                replace GG := GG.drew.trans GD
                clear GD
                refine s_val 125 rfl rfl (.pointer (some ⟨g4, a0 * 6 + b0, none⟩)) (run_ia46 _ _ rfl g4 (a0 * 6) b0 rfl rfl (by omega) _) ?_
                refine nr ?_; intro U h; simp only [z0, z1] at h; subst h
                refine s_store rfl rfl 4 _ _ rfl g4 (a0 * 6 + b0) rfl (.bool ((midH I.length (warH I.length (lkF I.length (dgF I.length) Lk) k) k a0 b0) k b0)) rfl 47 _ kg4 #[.bool ((midH I.length (warH I.length (lkF I.length (dgF I.length) Lk) k) k a0 b0) k b0)] rfl si4 (by rw [mxA_size]; show _ + 1 ≤ 36; omega) (b_one _) (mxA (midH I.length (warH I.length (lkF I.length (dgF I.length) Lk) k) k a0 (b0 + 1))) ((spM _ _ _ (by omega) (by omega) _).trans (congrArg mxA ((congrArg (setH (midH I.length (warH I.length (lkF I.length (dgF I.length) Lk) k) k a0 b0) a0 b0) (show (midH I.length (warH I.length (lkF I.length (dgF I.length) Lk) k) k a0 b0) k b0 = ((midH I.length (warH I.length (lkF I.length (dgF I.length) Lk) k) k a0 b0) a0 b0 || (midH I.length (warH I.length (lkF I.length (dgF I.length) Lk) k) k a0 b0) a0 k && (midH I.length (warH I.length (lkF I.length (dgF I.length) Lk) k) k a0 b0) k b0) from by rw [r1b, r2b]; rfl)).trans (midH_step _ _ _ _)))) ?_
                intro w6 St
                have kS := kg4
                replace kg1 := St.has (by omega) kg1
                replace kg2 := St.has (by omega) kg2
                replace kg3 := St.has (by omega) kg3
                replace GG := GG.store St bg4
                replace kg4 := St.new
                clear St
                refine wpList_nil ?_
                refine blk_n ?_
                refine then_n ?_
                refine wp_region_lit ?_
                refine s_val 126 rfl rfl (.int .i64 ((b0 + 1 : Nat) : Int)) (run_addI 3 _ _ _ rfl ((b0 : Nat) : Int) 1 ((b0 + 1 : Nat) : Int) rfl rfl (by omega) (by omega) (by omega) _) ?_
                refine nr ?_; intro U h; simp only [z0, z1] at h; subst h
                refine s_val 100 rfl rfl (.int .i64 ((b0 + 1 : Nat) : Int)) (rfl) ?_
                refine nr ?_; intro U h; simp only [z0, z1] at h; subst h
                refine wpList_nil ?_
                refine then_n ?_
                exact ⟨I.length + 1 - (b0 + 1), by omega, b0 + 1, (fun kz => ([.int .i64 ((b0 : Nat) : Int), .bool true, .int .i64 ((b0 : Nat) : Int), .int .i64 ((a0 : Nat) : Int), .int .i64 ((b0 : Nat) : Int), .int .i64 ((a0 : Nat) : Int), .int .i64 ((b0 : Nat) : Int), .pointer (some ⟨g4, a0 * 6, none⟩), .pointer (some ⟨g4, a0 * 6 + b0, none⟩), .bool false, .bool false, .int .i64 ((a0 : Nat) : Int), .int .i64 ((k : Nat) : Int), .pointer (some ⟨g4, a0 * 6, none⟩), .pointer (some ⟨g4, a0 * 6 + k, none⟩), .bool true, .bool true, .int .i64 ((k : Nat) : Int), .int .i64 ((b0 : Nat) : Int), .pointer (some ⟨g4, k * 6, none⟩), .pointer (some ⟨g4, k * 6 + b0, none⟩), .bool ((midH I.length (warH I.length (lkF I.length (dgF I.length) Lk) k) k a0 b0) k b0), .bool ((midH I.length (warH I.length (lkF I.length (dgF I.length) Lk) k) k a0 b0) k b0), .bool ((midH I.length (warH I.length (lkF I.length (dgF I.length) Lk) k) k a0 b0) k b0), .pointer (some ⟨g4, a0 * 6, none⟩), .pointer (some ⟨g4, a0 * 6 + b0, none⟩), .int .i64 ((b0 + 1 : Nat) : Int)] : List Value).getD kz undef), rfl, rfl, by omega, GG, kg1, kg2, kg3, kg4⟩
            · have r1b : (midH I.length (warH I.length (lkF I.length (dgF I.length) Lk) k) k a0 b0) a0 b0 = true := of_decide_eq_true r1
              refine wp_region_exA (A := ?Ax12) 22 [(0, 103), (1, 104), (2, 105), (3, 106), (4, 107), (5, 108), (6, 109), (7, 110), (8, 111), (9, 112), (10, 113), (11, 114), (12, 115), (13, 116), (14, 117), (15, 118), (16, 119), (17, 120), (18, 121), (19, 122), (20, 123), (21, 124)] [.val (.int .i64 ((a0 : Nat) : Int)), .val (.int .i64 ((b0 : Nat) : Int)), .val (.int .i64 ((a0 : Nat) : Int)), .val (.int .i64 ((b0 : Nat) : Int)), .val (.pointer (some ⟨g4, a0 * 6, none⟩)), .val (.pointer (some ⟨g4, a0 * 6 + b0, none⟩)), .val (.bool true), .val (.bool true), .val undef, .val undef, .val undef, .val undef, .val undef, .val undef, .val undef, .val undef, .val undef, .val undef, .val undef, .val undef, .val (.bool true), .val (.pointer (some ⟨g4, a0 * 6, none⟩))] follows (by kernel_rfl) rfl ?hAx12 (opsA_cons ?o0x12 (opsA_cons ?o1x12 (opsA_cons ?o2x12 (opsA_cons ?o3x12 (opsA_cons ?o4x12 (opsA_cons ?o5x12 (opsA_cons ?o6x12 (opsA_cons ?o7x12 (opsA_cons ?o8x12 (opsA_cons ?o9x12 (opsA_cons ?o10x12 (opsA_cons ?o11x12 (opsA_cons ?o12x12 (opsA_cons ?o13x12 (opsA_cons ?o14x12 (opsA_cons ?o15x12 (opsA_cons ?o16x12 (opsA_cons ?o17x12 (opsA_cons ?o18x12 (opsA_cons ?o19x12 (opsA_cons ?o20x12 (opsA_cons ?o21x12 opsA_nil)))))))))))))))))))))) ?restx12
              case hAx12 =>
                intro ptrs
                simp only [full, foldSlots, filledE, postE, List.foldl_cons, List.foldl_nil, List.getD_cons_zero, List.getD_cons_succ, fill_val, List.set_cons_zero, List.set_cons_succ]
                exact rfl
              case o0x12 => exact fun _ _ _ _ => opE_move (v := .int .i64 ((a0 : Nat) : Int)) _ rfl rfl rfl
              case o1x12 => exact fun _ _ _ _ => opE_move (v := .int .i64 ((b0 : Nat) : Int)) _ rfl rfl rfl
              case o2x12 => exact fun _ _ _ _ => opE_move (v := .int .i64 ((a0 : Nat) : Int)) _ rfl rfl rfl
              case o3x12 => exact fun _ _ _ _ => opE_move (v := .int .i64 ((b0 : Nat) : Int)) _ rfl rfl rfl
              case o4x12 => exact fun _ _ _ _ => opE_value (v := .pointer (some ⟨g4, a0 * 6, none⟩)) rfl (run_ia47 _ _ rfl g4 a0 rfl rfl (by omega) _)
              case o5x12 => exact fun _ _ _ _ => opE_value (v := .pointer (some ⟨g4, a0 * 6 + b0, none⟩)) rfl (run_ia46 _ _ rfl g4 (a0 * 6) b0 rfl rfl (by omega) _)
              case o6x12 => exact fun _ _ hw _ => opE_value (v := .bool true) rfl (ldMb _ rfl g4 a0 b0 rfl (by omega) (by omega) (hw.has kg4) true r1b)
              case o7x12 => exact fun _ _ _ _ => opE_move (v := .bool true) _ rfl rfl rfl
              case o8x12 => exact fun _ _ _ _ => opE_skip rfl
              case o9x12 => exact fun _ _ _ _ => opE_skip rfl
              case o10x12 => exact fun _ _ _ _ => opE_skip rfl
              case o11x12 => exact fun _ _ _ _ => opE_skip rfl
              case o12x12 => exact fun _ _ _ _ => opE_skip rfl
              case o13x12 => exact fun _ _ _ _ => opE_skip rfl
              case o14x12 => exact fun _ _ _ _ => opE_skip rfl
              case o15x12 => exact fun _ _ _ _ => opE_skip rfl
              case o16x12 => exact fun _ _ _ _ => opE_skip rfl
              case o17x12 => exact fun _ _ _ _ => opE_skip rfl
              case o18x12 => exact fun _ _ _ _ => opE_skip rfl
              case o19x12 => exact fun _ _ _ _ => opE_skip rfl
              case o20x12 => exact fun _ _ _ _ => opE_pick (v := .bool true) _ _ _ rfl rfl true rfl rfl
              case o21x12 => exact fun _ _ _ _ => opE_value (v := .pointer (some ⟨g4, a0 * 6, none⟩)) rfl (run_ia47 _ _ rfl g4 a0 rfl rfl (by omega) _)
              intro ptrs w5 GD hxE
              simp only [List.drop_succ_cons, List.drop_zero]
              replace kg1 := GD.has kg1
              replace kg2 := GD.has kg2
              replace kg3 := GD.has kg3
              replace kg4 := GD.has kg4
              replace GG := GG.drew.trans GD
              clear GD
              refine s_val 125 rfl rfl (.pointer (some ⟨g4, a0 * 6 + b0, none⟩)) (run_ia46 _ _ rfl g4 (a0 * 6) b0 rfl rfl (by omega) _) ?_
              refine nr ?_; intro U h; simp only [z0, z1] at h; subst h
              refine s_store rfl rfl 4 _ _ rfl g4 (a0 * 6 + b0) rfl (.bool true) rfl 47 _ kg4 #[.bool true] rfl si4 (by rw [mxA_size]; show _ + 1 ≤ 36; omega) (b_one _) (mxA (midH I.length (warH I.length (lkF I.length (dgF I.length) Lk) k) k a0 (b0 + 1))) ((spM _ _ _ (by omega) (by omega) _).trans (congrArg mxA ((congrArg (setH (midH I.length (warH I.length (lkF I.length (dgF I.length) Lk) k) k a0 b0) a0 b0) (show true = ((midH I.length (warH I.length (lkF I.length (dgF I.length) Lk) k) k a0 b0) a0 b0 || (midH I.length (warH I.length (lkF I.length (dgF I.length) Lk) k) k a0 b0) a0 k && (midH I.length (warH I.length (lkF I.length (dgF I.length) Lk) k) k a0 b0) k b0) from by rw [r1b]; rfl)).trans (midH_step _ _ _ _)))) ?_
              intro w6 St
              have kS := kg4
              replace kg1 := St.has (by omega) kg1
              replace kg2 := St.has (by omega) kg2
              replace kg3 := St.has (by omega) kg3
              replace GG := GG.store St bg4
              replace kg4 := St.new
              clear St
              refine wpList_nil ?_
              refine blk_n ?_
              refine then_n ?_
              refine wp_region_lit ?_
              refine s_val 126 rfl rfl (.int .i64 ((b0 + 1 : Nat) : Int)) (run_addI 3 _ _ _ rfl ((b0 : Nat) : Int) 1 ((b0 + 1 : Nat) : Int) rfl rfl (by omega) (by omega) (by omega) _) ?_
              refine nr ?_; intro U h; simp only [z0, z1] at h; subst h
              refine s_val 100 rfl rfl (.int .i64 ((b0 + 1 : Nat) : Int)) (rfl) ?_
              refine nr ?_; intro U h; simp only [z0, z1] at h; subst h
              refine wpList_nil ?_
              refine then_n ?_
              exact ⟨I.length + 1 - (b0 + 1), by omega, b0 + 1, (fun kz => ([.int .i64 ((b0 : Nat) : Int), .bool true, .int .i64 ((b0 : Nat) : Int), .int .i64 ((a0 : Nat) : Int), .int .i64 ((b0 : Nat) : Int), .int .i64 ((a0 : Nat) : Int), .int .i64 ((b0 : Nat) : Int), .pointer (some ⟨g4, a0 * 6, none⟩), .pointer (some ⟨g4, a0 * 6 + b0, none⟩), .bool true, .bool true, undef, undef, undef, undef, undef, undef, undef, undef, undef, undef, undef, undef, .bool true, .pointer (some ⟨g4, a0 * 6, none⟩), .pointer (some ⟨g4, a0 * 6 + b0, none⟩), .int .i64 ((b0 + 1 : Nat) : Int)] : List Value).getD kz undef), rfl, rfl, by omega, GG, kg1, kg2, kg3, kg4⟩
    · have hql : q < Lk.length := by have := of_decide_eq_true hq1; omega
      refine s_val 41 rfl rfl (.bool true) (run_lssT 3 _ _ _ rfl ((q : Nat) : Int) ((Lk.length : Nat) : Int) rfl rfl true hq1 _) ?_
      refine nr ?_; intro U h; simp only [z0, z1] at h; subst h
      refine wpList_nil ?_
      refine then_n ?_
      refine wp_seq ?_
      refine wp_cond_true rfl ?_
      refine wp_skip ?_
      refine then_n ?_
      refine wp_seq ?_
      refine wp_block ?_
      refine wp_seq ?_
      refine wp_region_lit ?_
      refine s_val 42 rfl rfl (.pointer (pK kP al q 0)) (run_ixK rP (HK.gro GG) _ _ rfl rfl q rfl (by omega)) ?_
      refine nr ?_; intro U h; simp only [z0, z1] at h; subst h
      refine s_val 43 rfl rfl (.agg (prA (Lk.getD q (0, 0)))) (run_ldKP (HK.gro GG) _ rfl q rfl (by omega)) ?_
      refine nr ?_; intro U h; simp only [z0, z1] at h; subst h
      refine s_alloc 12 rfl rfl 60 rfl _ zeroP (prA (0, 0)) rfl ?_
      intro w5 g5 G eg5 kg5
      have bg5 := size_base GG eg5
      have dg1g5 := lt_new kg1 eg5
      have dg2g5 := lt_new kg2 eg5
      have dg3g5 := lt_new kg3 eg5
      have dg4g5 := lt_new kg4 eg5
      replace kg1 := G.has kg1
      replace kg2 := G.has kg2
      replace kg3 := G.has kg3
      replace kg4 := G.has kg4
      replace GG := GG.trans G
      clear G
      clear eg5
      refine nr ?_; intro U h; simp only [z0, z1] at h; subst h
      refine s_store rfl rfl 60 _ _ rfl g5 0 rfl (.agg (prA (Lk.getD q (0, 0)))) rfl 60 _ kg5 (prA (Lk.getD q (0, 0))) rfl (siP' _) (prA_fit _ _) (prA_one _) (prA (Lk.getD q (0, 0))) (splice_whole _ _ (prA_sz _ _)) ?_
      intro w6 St
      have kS := kg5
      replace kg1 := St.has (by omega) kg1
      replace kg2 := St.has (by omega) kg2
      replace kg3 := St.has (by omega) kg3
      replace kg4 := St.has (by omega) kg4
      replace GG := GG.store St bg5
      replace kg5 := St.new
      clear St
      refine wpList_nil ?_
      refine then_n ?_
      refine wp_seq ?_
      refine wp_region_exA (A := ?Ax13) 5 [(0, 44), (1, 45), (2, 46), (3, 47), (4, 13)] [.val (.pointer (some ⟨g5, 0, none⟩)), .val (.int .i64 (Lk.getD q (0, 0)).1), .val (.pointer (some ⟨g5, 1, none⟩)), .val (.int .i64 (Lk.getD q (0, 0)).2), .val (.int .i64 (Lk.getD q (0, 0)).1)] follows (by kernel_rfl) rfl ?hAx13 (opsA_cons ?o0x13 (opsA_cons ?o1x13 (opsA_cons ?o2x13 (opsA_cons ?o3x13 (opsA_cons ?o4x13 opsA_nil))))) ?restx13
      case hAx13 =>
        intro ptrs
        simp only [full, foldSlots, filledE, postE, List.foldl_cons, List.foldl_nil, List.getD_cons_zero, List.getD_cons_succ, fill_val, List.set_cons_zero, List.set_cons_succ]
        exact rfl
      case o0x13 => exact fun _ _ _ _ => opE_value (v := .pointer (some ⟨g5, 0, none⟩)) rfl (run_ia60 _ _ rfl g5 0 0 rfl rfl (by decide) _)
      case o1x13 => exact fun _ _ hw _ => opE_value (v := .int .i64 (Lk.getD q (0, 0)).1) rfl (ldPa _ rfl g5 rfl (hw.has kg5))
      case o2x13 => exact fun _ _ _ _ => opE_value (v := .pointer (some ⟨g5, 1, none⟩)) rfl (run_ia60 _ _ rfl g5 0 1 rfl rfl (by decide) _)
      case o3x13 => exact fun _ _ hw _ => opE_value (v := .int .i64 (Lk.getD q (0, 0)).2) rfl (ldPb _ rfl g5 rfl (hw.has kg5))
      case o4x13 => exact fun _ _ _ _ => opE_assign (v := .int .i64 (Lk.getD q (0, 0)).1) _ rfl rfl rfl
      intro ptrs w7 GD hxE
      simp only [List.drop_succ_cons, List.drop_zero]
      replace kg1 := GD.has kg1
      replace kg2 := GD.has kg2
      replace kg3 := GD.has kg3
      replace kg4 := GD.has kg4
      replace kg5 := GD.has kg5
      replace GG := GG.drew.trans GD
      clear GD
      refine s_val 14 rfl rfl (.int .i64 (Lk.getD q (0, 0)).2) (rfl) ?_
      refine nr ?_; intro U h; simp only [z0, z1] at h; subst h
      refine wpList_nil ?_
      refine then_n ?_
      refine wp_seq ?_
      cases p1 : decide (0 ≤ (Lk.getD q (0, 0)).1)
      · refine wp_region_opq ?_
        intro OPS hY
        have y2 := hY 2 50 rfl
        have y6 := hY 6 54 rfl
        have y12 := hY 12 60 rfl
        have y18 := hY 18 66 rfl
        clear hY
        refine s_val 48 rfl rfl (.int .i64 (Lk.getD q (0, 0)).1) (rfl) ?_
        refine nr ?_; intro U h; simp only [z0, z1] at h; subst h
        refine s_val 49 rfl rfl (.bool false) (run_geqT 3 _ _ _ rfl (Lk.getD q (0, 0)).1 0 rfl rfl false p1 _) ?_
        refine nr ?_; intro U h; simp only [z0, z1] at h; subst h
        refine s_val 50 rfl rfl (.bool false) (rfl) ?_
        refine nr ?_; intro U h; simp only [z0, z1] at h; subst h
        refine s_skipY 51 rfl rfl y2 rfl ?_
        refine nr ?_; intro U h; simp only [z0, z1] at h; subst h
        refine s_skipY 52 rfl rfl y2 rfl ?_
        refine nr ?_; intro U h; simp only [z0, z1] at h; subst h
        refine s_val 53 rfl rfl (.bool false) (rfl) ?_
        refine nr ?_; intro U h; simp only [z0, z1] at h; subst h
        refine s_val 54 rfl rfl (.bool false) (rfl) ?_
        refine nr ?_; intro U h; simp only [z0, z1] at h; subst h
        refine s_skipY 55 rfl rfl y6 rfl ?_
        refine nr ?_; intro U h; simp only [z0, z1] at h; subst h
        refine s_skipY 56 rfl rfl y6 rfl ?_
        refine nr ?_; intro U h; simp only [z0, z1] at h; subst h
        refine s_skipY 57 rfl rfl y6 rfl ?_
        refine nr ?_; intro U h; simp only [z0, z1] at h; subst h
        refine s_skipY 58 rfl rfl y6 rfl ?_
        refine nr ?_; intro U h; simp only [z0, z1] at h; subst h
        refine s_val 59 rfl rfl (.bool false) (rfl) ?_
        refine nr ?_; intro U h; simp only [z0, z1] at h; subst h
        refine s_val 60 rfl rfl (.bool false) (rfl) ?_
        refine nr ?_; intro U h; simp only [z0, z1] at h; subst h
        refine s_skipY 61 rfl rfl y12 rfl ?_
        refine nr ?_; intro U h; simp only [z0, z1] at h; subst h
        refine s_skipY 62 rfl rfl y12 rfl ?_
        refine nr ?_; intro U h; simp only [z0, z1] at h; subst h
        refine s_skipY 63 rfl rfl y12 rfl ?_
        refine nr ?_; intro U h; simp only [z0, z1] at h; subst h
        refine s_skipY 64 rfl rfl y12 rfl ?_
        refine nr ?_; intro U h; simp only [z0, z1] at h; subst h
        refine s_val 65 rfl rfl (.bool false) (rfl) ?_
        refine nr ?_; intro U h; simp only [z0, z1] at h; subst h
        refine s_val 66 rfl rfl (.bool false) (rfl) ?_
        refine nr ?_; intro U h; simp only [z0, z1] at h; subst h
        refine s_skipY 67 rfl rfl y18 rfl ?_
        refine nr ?_; intro U h; simp only [z0, z1] at h; subst h
        refine s_skipY 68 rfl rfl y18 rfl ?_
        refine nr ?_; intro U h; simp only [z0, z1] at h; subst h
        refine s_skipY 69 rfl rfl y18 rfl ?_
        refine nr ?_; intro U h; simp only [z0, z1] at h; subst h
        refine s_val 70 rfl rfl (.bool false) (rfl) ?_
        refine nr ?_; intro U h; simp only [z0, z1] at h; subst h
        refine wpList_nil ?_
        refine then_n ?_
        refine wp_cond_false rfl ?_
        refine wp_skip ?_
        refine blk_n ?_
        refine then_n ?_
        refine wp_region_lit ?_
        refine s_val 87 rfl rfl (.int .i64 ((q + 1 : Nat) : Int)) (run_addI 3 _ _ _ rfl ((q : Nat) : Int) 1 ((q + 1 : Nat) : Int) rfl rfl (by omega) (by omega) (by omega) _) ?_
        refine nr ?_; intro U h; simp only [z0, z1] at h; subst h
        refine s_val 40 rfl rfl (.int .i64 ((q + 1 : Nat) : Int)) (rfl) ?_
        refine nr ?_; intro U h; simp only [z0, z1] at h; subst h
        refine wpList_nil ?_
        refine then_n ?_
        exact ⟨Lk.length + 1 - (q + 1), by omega, q + 1, (fun kz => ([.pointer (some ⟨g5, 0, none⟩), .int .i64 (Lk.getD q (0, 0)).1, .int .i64 (Lk.getD q (0, 0)).2, .bool true, .pointer (pK kP al q 0), .agg (prA (Lk.getD q (0, 0))), .pointer (some ⟨g5, 0, none⟩), .int .i64 (Lk.getD q (0, 0)).1, .pointer (some ⟨g5, 1, none⟩), .int .i64 (Lk.getD q (0, 0)).2, .int .i64 (Lk.getD q (0, 0)).1, .bool false, .bool false, undef, undef, .bool false, .bool false, undef, undef, undef, undef, .bool false, .bool false, undef, undef, undef, undef, .bool false, .bool false, undef, undef, undef, .bool false, us2 33, us2 34, us2 35, us2 36, us2 37, us2 38, us2 39, us2 40, us2 41, us2 42, us2 43, us2 44, us2 45, us2 46, us2 47, us2 48, .int .i64 ((q + 1 : Nat) : Int)] : List Value).getD kz undef), rfl, rfl, by omega, GG, kg1, kg2, by rw [lkF_step hql, ← lkS_no (fun c => of_decide_eq_false p1 c.1)]; exact kg3, by rw [lkF_step hql, ← lkS_no (fun c => of_decide_eq_false p1 c.1)]; exact kg4⟩
      · cases p2 : decide (0 ≤ (Lk.getD q (0, 0)).2)
        · refine wp_region_opq ?_
          intro OPS hY
          have y2 := hY 2 50 rfl
          have y6 := hY 6 54 rfl
          have y12 := hY 12 60 rfl
          have y18 := hY 18 66 rfl
          clear hY
          refine s_val 48 rfl rfl (.int .i64 (Lk.getD q (0, 0)).1) (rfl) ?_
          refine nr ?_; intro U h; simp only [z0, z1] at h; subst h
          refine s_val 49 rfl rfl (.bool true) (run_geqT 3 _ _ _ rfl (Lk.getD q (0, 0)).1 0 rfl rfl true p1 _) ?_
          refine nr ?_; intro U h; simp only [z0, z1] at h; subst h
          refine s_val 50 rfl rfl (.bool true) (rfl) ?_
          refine nr ?_; intro U h; simp only [z0, z1] at h; subst h
          refine s_gvalY 51 rfl rfl y2 rfl (.int .i64 (Lk.getD q (0, 0)).2) (rfl) ?_
          refine nr ?_; intro U h; simp only [z0, z1] at h; subst h
          refine s_gvalY 52 rfl rfl y2 rfl (.bool false) (run_geqT 3 _ _ _ rfl (Lk.getD q (0, 0)).2 0 rfl rfl false p2 _) ?_
          refine nr ?_; intro U h; simp only [z0, z1] at h; subst h
          refine s_val 53 rfl rfl (.bool false) (rfl) ?_
          refine nr ?_; intro U h; simp only [z0, z1] at h; subst h
          refine s_val 54 rfl rfl (.bool false) (rfl) ?_
          refine nr ?_; intro U h; simp only [z0, z1] at h; subst h
          refine s_skipY 55 rfl rfl y6 rfl ?_
          refine nr ?_; intro U h; simp only [z0, z1] at h; subst h
          refine s_skipY 56 rfl rfl y6 rfl ?_
          refine nr ?_; intro U h; simp only [z0, z1] at h; subst h
          refine s_skipY 57 rfl rfl y6 rfl ?_
          refine nr ?_; intro U h; simp only [z0, z1] at h; subst h
          refine s_skipY 58 rfl rfl y6 rfl ?_
          refine nr ?_; intro U h; simp only [z0, z1] at h; subst h
          refine s_val 59 rfl rfl (.bool false) (rfl) ?_
          refine nr ?_; intro U h; simp only [z0, z1] at h; subst h
          refine s_val 60 rfl rfl (.bool false) (rfl) ?_
          refine nr ?_; intro U h; simp only [z0, z1] at h; subst h
          refine s_skipY 61 rfl rfl y12 rfl ?_
          refine nr ?_; intro U h; simp only [z0, z1] at h; subst h
          refine s_skipY 62 rfl rfl y12 rfl ?_
          refine nr ?_; intro U h; simp only [z0, z1] at h; subst h
          refine s_skipY 63 rfl rfl y12 rfl ?_
          refine nr ?_; intro U h; simp only [z0, z1] at h; subst h
          refine s_skipY 64 rfl rfl y12 rfl ?_
          refine nr ?_; intro U h; simp only [z0, z1] at h; subst h
          refine s_val 65 rfl rfl (.bool false) (rfl) ?_
          refine nr ?_; intro U h; simp only [z0, z1] at h; subst h
          refine s_val 66 rfl rfl (.bool false) (rfl) ?_
          refine nr ?_; intro U h; simp only [z0, z1] at h; subst h
          refine s_skipY 67 rfl rfl y18 rfl ?_
          refine nr ?_; intro U h; simp only [z0, z1] at h; subst h
          refine s_skipY 68 rfl rfl y18 rfl ?_
          refine nr ?_; intro U h; simp only [z0, z1] at h; subst h
          refine s_skipY 69 rfl rfl y18 rfl ?_
          refine nr ?_; intro U h; simp only [z0, z1] at h; subst h
          refine s_val 70 rfl rfl (.bool false) (rfl) ?_
          refine nr ?_; intro U h; simp only [z0, z1] at h; subst h
          refine wpList_nil ?_
          refine then_n ?_
          refine wp_cond_false rfl ?_
          refine wp_skip ?_
          refine blk_n ?_
          refine then_n ?_
          refine wp_region_lit ?_
          refine s_val 87 rfl rfl (.int .i64 ((q + 1 : Nat) : Int)) (run_addI 3 _ _ _ rfl ((q : Nat) : Int) 1 ((q + 1 : Nat) : Int) rfl rfl (by omega) (by omega) (by omega) _) ?_
          refine nr ?_; intro U h; simp only [z0, z1] at h; subst h
          refine s_val 40 rfl rfl (.int .i64 ((q + 1 : Nat) : Int)) (rfl) ?_
          refine nr ?_; intro U h; simp only [z0, z1] at h; subst h
          refine wpList_nil ?_
          refine then_n ?_
          exact ⟨Lk.length + 1 - (q + 1), by omega, q + 1, (fun kz => ([.pointer (some ⟨g5, 0, none⟩), .int .i64 (Lk.getD q (0, 0)).1, .int .i64 (Lk.getD q (0, 0)).2, .bool true, .pointer (pK kP al q 0), .agg (prA (Lk.getD q (0, 0))), .pointer (some ⟨g5, 0, none⟩), .int .i64 (Lk.getD q (0, 0)).1, .pointer (some ⟨g5, 1, none⟩), .int .i64 (Lk.getD q (0, 0)).2, .int .i64 (Lk.getD q (0, 0)).1, .bool true, .bool true, .int .i64 (Lk.getD q (0, 0)).2, .bool false, .bool false, .bool false, undef, undef, undef, undef, .bool false, .bool false, undef, undef, undef, undef, .bool false, .bool false, undef, undef, undef, .bool false, us2 33, us2 34, us2 35, us2 36, us2 37, us2 38, us2 39, us2 40, us2 41, us2 42, us2 43, us2 44, us2 45, us2 46, us2 47, us2 48, .int .i64 ((q + 1 : Nat) : Int)] : List Value).getD kz undef), rfl, rfl, by omega, GG, kg1, kg2, by rw [lkF_step hql, ← lkS_no (fun c => of_decide_eq_false p2 c.2.1)]; exact kg3, by rw [lkF_step hql, ← lkS_no (fun c => of_decide_eq_false p2 c.2.1)]; exact kg4⟩
        · cases p3 : decide ((Lk.getD q (0, 0)).1 < ((I.length : Nat) : Int))
          · refine wp_region_opq ?_
            intro OPS hY
            have y2 := hY 2 50 rfl
            have y6 := hY 6 54 rfl
            have y12 := hY 12 60 rfl
            have y18 := hY 18 66 rfl
            clear hY
            refine s_val 48 rfl rfl (.int .i64 (Lk.getD q (0, 0)).1) (rfl) ?_
            refine nr ?_; intro U h; simp only [z0, z1] at h; subst h
            refine s_val 49 rfl rfl (.bool true) (run_geqT 3 _ _ _ rfl (Lk.getD q (0, 0)).1 0 rfl rfl true p1 _) ?_
            refine nr ?_; intro U h; simp only [z0, z1] at h; subst h
            refine s_val 50 rfl rfl (.bool true) (rfl) ?_
            refine nr ?_; intro U h; simp only [z0, z1] at h; subst h
            refine s_gvalY 51 rfl rfl y2 rfl (.int .i64 (Lk.getD q (0, 0)).2) (rfl) ?_
            refine nr ?_; intro U h; simp only [z0, z1] at h; subst h
            refine s_gvalY 52 rfl rfl y2 rfl (.bool true) (run_geqT 3 _ _ _ rfl (Lk.getD q (0, 0)).2 0 rfl rfl true p2 _) ?_
            refine nr ?_; intro U h; simp only [z0, z1] at h; subst h
            refine s_val 53 rfl rfl (.bool true) (rfl) ?_
            refine nr ?_; intro U h; simp only [z0, z1] at h; subst h
            refine s_val 54 rfl rfl (.bool true) (rfl) ?_
            refine nr ?_; intro U h; simp only [z0, z1] at h; subst h
            refine s_gvalY 55 rfl rfl y6 rfl (.int .i64 (Lk.getD q (0, 0)).1) (rfl) ?_
            refine nr ?_; intro U h; simp only [z0, z1] at h; subst h
            refine s_gvalY 56 rfl rfl y6 rfl (.slice ai I.length ci) (rfl) ?_
            refine nr ?_; intro U h; simp only [z0, z1] at h; subst h
            refine s_gvalY 57 rfl rfl y6 rfl (.int .i64 ((I.length : Nat) : Int)) (run_len Try.underlying41 _ rfl _ _ _ rfl _) ?_
            refine nr ?_; intro U h; simp only [z0, z1] at h; subst h
            refine s_gvalY 58 rfl rfl y6 rfl (.bool false) (run_lssT 3 _ _ _ rfl (Lk.getD q (0, 0)).1 ((I.length : Nat) : Int) rfl rfl false p3 _) ?_
            refine nr ?_; intro U h; simp only [z0, z1] at h; subst h
            refine s_val 59 rfl rfl (.bool false) (rfl) ?_
            refine nr ?_; intro U h; simp only [z0, z1] at h; subst h
            refine s_val 60 rfl rfl (.bool false) (rfl) ?_
            refine nr ?_; intro U h; simp only [z0, z1] at h; subst h
            refine s_skipY 61 rfl rfl y12 rfl ?_
            refine nr ?_; intro U h; simp only [z0, z1] at h; subst h
            refine s_skipY 62 rfl rfl y12 rfl ?_
            refine nr ?_; intro U h; simp only [z0, z1] at h; subst h
            refine s_skipY 63 rfl rfl y12 rfl ?_
            refine nr ?_; intro U h; simp only [z0, z1] at h; subst h
            refine s_skipY 64 rfl rfl y12 rfl ?_
            refine nr ?_; intro U h; simp only [z0, z1] at h; subst h
            refine s_val 65 rfl rfl (.bool false) (rfl) ?_
            refine nr ?_; intro U h; simp only [z0, z1] at h; subst h
            refine s_val 66 rfl rfl (.bool false) (rfl) ?_
            refine nr ?_; intro U h; simp only [z0, z1] at h; subst h
            refine s_skipY 67 rfl rfl y18 rfl ?_
            refine nr ?_; intro U h; simp only [z0, z1] at h; subst h
            refine s_skipY 68 rfl rfl y18 rfl ?_
            refine nr ?_; intro U h; simp only [z0, z1] at h; subst h
            refine s_skipY 69 rfl rfl y18 rfl ?_
            refine nr ?_; intro U h; simp only [z0, z1] at h; subst h
            refine s_val 70 rfl rfl (.bool false) (rfl) ?_
            refine nr ?_; intro U h; simp only [z0, z1] at h; subst h
            refine wpList_nil ?_
            refine then_n ?_
            refine wp_cond_false rfl ?_
            refine wp_skip ?_
            refine blk_n ?_
            refine then_n ?_
            refine wp_region_lit ?_
            refine s_val 87 rfl rfl (.int .i64 ((q + 1 : Nat) : Int)) (run_addI 3 _ _ _ rfl ((q : Nat) : Int) 1 ((q + 1 : Nat) : Int) rfl rfl (by omega) (by omega) (by omega) _) ?_
            refine nr ?_; intro U h; simp only [z0, z1] at h; subst h
            refine s_val 40 rfl rfl (.int .i64 ((q + 1 : Nat) : Int)) (rfl) ?_
            refine nr ?_; intro U h; simp only [z0, z1] at h; subst h
            refine wpList_nil ?_
            refine then_n ?_
            exact ⟨Lk.length + 1 - (q + 1), by omega, q + 1, (fun kz => ([.pointer (some ⟨g5, 0, none⟩), .int .i64 (Lk.getD q (0, 0)).1, .int .i64 (Lk.getD q (0, 0)).2, .bool true, .pointer (pK kP al q 0), .agg (prA (Lk.getD q (0, 0))), .pointer (some ⟨g5, 0, none⟩), .int .i64 (Lk.getD q (0, 0)).1, .pointer (some ⟨g5, 1, none⟩), .int .i64 (Lk.getD q (0, 0)).2, .int .i64 (Lk.getD q (0, 0)).1, .bool true, .bool true, .int .i64 (Lk.getD q (0, 0)).2, .bool true, .bool true, .bool true, .int .i64 (Lk.getD q (0, 0)).1, .slice ai I.length ci, .int .i64 ((I.length : Nat) : Int), .bool false, .bool false, .bool false, undef, undef, undef, undef, .bool false, .bool false, undef, undef, undef, .bool false, us2 33, us2 34, us2 35, us2 36, us2 37, us2 38, us2 39, us2 40, us2 41, us2 42, us2 43, us2 44, us2 45, us2 46, us2 47, us2 48, .int .i64 ((q + 1 : Nat) : Int)] : List Value).getD kz undef), rfl, rfl, by omega, GG, kg1, kg2, by rw [lkF_step hql, ← lkS_no (fun c => of_decide_eq_false p3 c.2.2.1)]; exact kg3, by rw [lkF_step hql, ← lkS_no (fun c => of_decide_eq_false p3 c.2.2.1)]; exact kg4⟩
          · cases p4 : decide ((Lk.getD q (0, 0)).2 < ((I.length : Nat) : Int))
            · refine wp_region_opq ?_
              intro OPS hY
              have y2 := hY 2 50 rfl
              have y6 := hY 6 54 rfl
              have y12 := hY 12 60 rfl
              have y18 := hY 18 66 rfl
              clear hY
              refine s_val 48 rfl rfl (.int .i64 (Lk.getD q (0, 0)).1) (rfl) ?_
              refine nr ?_; intro U h; simp only [z0, z1] at h; subst h
              refine s_val 49 rfl rfl (.bool true) (run_geqT 3 _ _ _ rfl (Lk.getD q (0, 0)).1 0 rfl rfl true p1 _) ?_
              refine nr ?_; intro U h; simp only [z0, z1] at h; subst h
              refine s_val 50 rfl rfl (.bool true) (rfl) ?_
              refine nr ?_; intro U h; simp only [z0, z1] at h; subst h
              refine s_gvalY 51 rfl rfl y2 rfl (.int .i64 (Lk.getD q (0, 0)).2) (rfl) ?_
              refine nr ?_; intro U h; simp only [z0, z1] at h; subst h
              refine s_gvalY 52 rfl rfl y2 rfl (.bool true) (run_geqT 3 _ _ _ rfl (Lk.getD q (0, 0)).2 0 rfl rfl true p2 _) ?_
              refine nr ?_; intro U h; simp only [z0, z1] at h; subst h
              refine s_val 53 rfl rfl (.bool true) (rfl) ?_
              refine nr ?_; intro U h; simp only [z0, z1] at h; subst h
              refine s_val 54 rfl rfl (.bool true) (rfl) ?_
              refine nr ?_; intro U h; simp only [z0, z1] at h; subst h
              refine s_gvalY 55 rfl rfl y6 rfl (.int .i64 (Lk.getD q (0, 0)).1) (rfl) ?_
              refine nr ?_; intro U h; simp only [z0, z1] at h; subst h
              refine s_gvalY 56 rfl rfl y6 rfl (.slice ai I.length ci) (rfl) ?_
              refine nr ?_; intro U h; simp only [z0, z1] at h; subst h
              refine s_gvalY 57 rfl rfl y6 rfl (.int .i64 ((I.length : Nat) : Int)) (run_len Try.underlying41 _ rfl _ _ _ rfl _) ?_
              refine nr ?_; intro U h; simp only [z0, z1] at h; subst h
              refine s_gvalY 58 rfl rfl y6 rfl (.bool true) (run_lssT 3 _ _ _ rfl (Lk.getD q (0, 0)).1 ((I.length : Nat) : Int) rfl rfl true p3 _) ?_
              refine nr ?_; intro U h; simp only [z0, z1] at h; subst h
              refine s_val 59 rfl rfl (.bool true) (rfl) ?_
              refine nr ?_; intro U h; simp only [z0, z1] at h; subst h
              refine s_val 60 rfl rfl (.bool true) (rfl) ?_
              refine nr ?_; intro U h; simp only [z0, z1] at h; subst h
              refine s_gvalY 61 rfl rfl y12 rfl (.int .i64 (Lk.getD q (0, 0)).2) (rfl) ?_
              refine nr ?_; intro U h; simp only [z0, z1] at h; subst h
              refine s_gvalY 62 rfl rfl y12 rfl (.slice ai I.length ci) (rfl) ?_
              refine nr ?_; intro U h; simp only [z0, z1] at h; subst h
              refine s_gvalY 63 rfl rfl y12 rfl (.int .i64 ((I.length : Nat) : Int)) (run_len Try.underlying41 _ rfl _ _ _ rfl _) ?_
              refine nr ?_; intro U h; simp only [z0, z1] at h; subst h
              refine s_gvalY 64 rfl rfl y12 rfl (.bool false) (run_lssT 3 _ _ _ rfl (Lk.getD q (0, 0)).2 ((I.length : Nat) : Int) rfl rfl false p4 _) ?_
              refine nr ?_; intro U h; simp only [z0, z1] at h; subst h
              refine s_val 65 rfl rfl (.bool false) (rfl) ?_
              refine nr ?_; intro U h; simp only [z0, z1] at h; subst h
              refine s_val 66 rfl rfl (.bool false) (rfl) ?_
              refine nr ?_; intro U h; simp only [z0, z1] at h; subst h
              refine s_skipY 67 rfl rfl y18 rfl ?_
              refine nr ?_; intro U h; simp only [z0, z1] at h; subst h
              refine s_skipY 68 rfl rfl y18 rfl ?_
              refine nr ?_; intro U h; simp only [z0, z1] at h; subst h
              refine s_skipY 69 rfl rfl y18 rfl ?_
              refine nr ?_; intro U h; simp only [z0, z1] at h; subst h
              refine s_val 70 rfl rfl (.bool false) (rfl) ?_
              refine nr ?_; intro U h; simp only [z0, z1] at h; subst h
              refine wpList_nil ?_
              refine then_n ?_
              refine wp_cond_false rfl ?_
              refine wp_skip ?_
              refine blk_n ?_
              refine then_n ?_
              refine wp_region_lit ?_
              refine s_val 87 rfl rfl (.int .i64 ((q + 1 : Nat) : Int)) (run_addI 3 _ _ _ rfl ((q : Nat) : Int) 1 ((q + 1 : Nat) : Int) rfl rfl (by omega) (by omega) (by omega) _) ?_
              refine nr ?_; intro U h; simp only [z0, z1] at h; subst h
              refine s_val 40 rfl rfl (.int .i64 ((q + 1 : Nat) : Int)) (rfl) ?_
              refine nr ?_; intro U h; simp only [z0, z1] at h; subst h
              refine wpList_nil ?_
              refine then_n ?_
              exact ⟨Lk.length + 1 - (q + 1), by omega, q + 1, (fun kz => ([.pointer (some ⟨g5, 0, none⟩), .int .i64 (Lk.getD q (0, 0)).1, .int .i64 (Lk.getD q (0, 0)).2, .bool true, .pointer (pK kP al q 0), .agg (prA (Lk.getD q (0, 0))), .pointer (some ⟨g5, 0, none⟩), .int .i64 (Lk.getD q (0, 0)).1, .pointer (some ⟨g5, 1, none⟩), .int .i64 (Lk.getD q (0, 0)).2, .int .i64 (Lk.getD q (0, 0)).1, .bool true, .bool true, .int .i64 (Lk.getD q (0, 0)).2, .bool true, .bool true, .bool true, .int .i64 (Lk.getD q (0, 0)).1, .slice ai I.length ci, .int .i64 ((I.length : Nat) : Int), .bool true, .bool true, .bool true, .int .i64 (Lk.getD q (0, 0)).2, .slice ai I.length ci, .int .i64 ((I.length : Nat) : Int), .bool false, .bool false, .bool false, undef, undef, undef, .bool false, us2 33, us2 34, us2 35, us2 36, us2 37, us2 38, us2 39, us2 40, us2 41, us2 42, us2 43, us2 44, us2 45, us2 46, us2 47, us2 48, .int .i64 ((q + 1 : Nat) : Int)] : List Value).getD kz undef), rfl, rfl, by omega, GG, kg1, kg2, by rw [lkF_step hql, ← lkS_no (fun c => of_decide_eq_false p4 c.2.2.2.1)]; exact kg3, by rw [lkF_step hql, ← lkS_no (fun c => of_decide_eq_false p4 c.2.2.2.1)]; exact kg4⟩
            · cases p5 : decide ((Lk.getD q (0, 0)).1 = (Lk.getD q (0, 0)).2)
              · have hok : okP I.length (Lk.getD q (0, 0)) := ⟨of_decide_eq_true p1, of_decide_eq_true p2, of_decide_eq_true p3, of_decide_eq_true p4, of_decide_eq_false p5⟩
                obtain ⟨pa, hpa⟩ : ∃ pa : Nat, (Lk.getD q (0, 0)).1 = (pa : Int) := ⟨_, (Int.toNat_of_nonneg hok.1).symm⟩
                obtain ⟨pb, hpb⟩ : ∃ pb : Nat, (Lk.getD q (0, 0)).2 = (pb : Int) := ⟨_, (Int.toNat_of_nonneg hok.2.1).symm⟩
                have hpa6 : pa < 6 := by have := hok.2.2.1; omega
                have hpb6 : pb < 6 := by have := hok.2.2.2.1; omega
                refine wp_region_opq ?_
                intro OPS hY
                have y2 := hY 2 50 rfl
                have y6 := hY 6 54 rfl
                have y12 := hY 12 60 rfl
                have y18 := hY 18 66 rfl
                clear hY
                refine s_val 48 rfl rfl (.int .i64 (Lk.getD q (0, 0)).1) (rfl) ?_
                refine nr ?_; intro U h; simp only [z0, z1] at h; subst h
                refine s_val 49 rfl rfl (.bool true) (run_geqT 3 _ _ _ rfl (Lk.getD q (0, 0)).1 0 rfl rfl true p1 _) ?_
                refine nr ?_; intro U h; simp only [z0, z1] at h; subst h
                refine s_val 50 rfl rfl (.bool true) (rfl) ?_
                refine nr ?_; intro U h; simp only [z0, z1] at h; subst h
                refine s_gvalY 51 rfl rfl y2 rfl (.int .i64 (Lk.getD q (0, 0)).2) (rfl) ?_
                refine nr ?_; intro U h; simp only [z0, z1] at h; subst h
                refine s_gvalY 52 rfl rfl y2 rfl (.bool true) (run_geqT 3 _ _ _ rfl (Lk.getD q (0, 0)).2 0 rfl rfl true p2 _) ?_
                refine nr ?_; intro U h; simp only [z0, z1] at h; subst h
                refine s_val 53 rfl rfl (.bool true) (rfl) ?_
                refine nr ?_; intro U h; simp only [z0, z1] at h; subst h
                refine s_val 54 rfl rfl (.bool true) (rfl) ?_
                refine nr ?_; intro U h; simp only [z0, z1] at h; subst h
                refine s_gvalY 55 rfl rfl y6 rfl (.int .i64 (Lk.getD q (0, 0)).1) (rfl) ?_
                refine nr ?_; intro U h; simp only [z0, z1] at h; subst h
                refine s_gvalY 56 rfl rfl y6 rfl (.slice ai I.length ci) (rfl) ?_
                refine nr ?_; intro U h; simp only [z0, z1] at h; subst h
                refine s_gvalY 57 rfl rfl y6 rfl (.int .i64 ((I.length : Nat) : Int)) (run_len Try.underlying41 _ rfl _ _ _ rfl _) ?_
                refine nr ?_; intro U h; simp only [z0, z1] at h; subst h
                refine s_gvalY 58 rfl rfl y6 rfl (.bool true) (run_lssT 3 _ _ _ rfl (Lk.getD q (0, 0)).1 ((I.length : Nat) : Int) rfl rfl true p3 _) ?_
                refine nr ?_; intro U h; simp only [z0, z1] at h; subst h
                refine s_val 59 rfl rfl (.bool true) (rfl) ?_
                refine nr ?_; intro U h; simp only [z0, z1] at h; subst h
                refine s_val 60 rfl rfl (.bool true) (rfl) ?_
                refine nr ?_; intro U h; simp only [z0, z1] at h; subst h
                refine s_gvalY 61 rfl rfl y12 rfl (.int .i64 (Lk.getD q (0, 0)).2) (rfl) ?_
                refine nr ?_; intro U h; simp only [z0, z1] at h; subst h
                refine s_gvalY 62 rfl rfl y12 rfl (.slice ai I.length ci) (rfl) ?_
                refine nr ?_; intro U h; simp only [z0, z1] at h; subst h
                refine s_gvalY 63 rfl rfl y12 rfl (.int .i64 ((I.length : Nat) : Int)) (run_len Try.underlying41 _ rfl _ _ _ rfl _) ?_
                refine nr ?_; intro U h; simp only [z0, z1] at h; subst h
                refine s_gvalY 64 rfl rfl y12 rfl (.bool true) (run_lssT 3 _ _ _ rfl (Lk.getD q (0, 0)).2 ((I.length : Nat) : Int) rfl rfl true p4 _) ?_
                refine nr ?_; intro U h; simp only [z0, z1] at h; subst h
                refine s_val 65 rfl rfl (.bool true) (rfl) ?_
                refine nr ?_; intro U h; simp only [z0, z1] at h; subst h
                refine s_val 66 rfl rfl (.bool true) (rfl) ?_
                refine nr ?_; intro U h; simp only [z0, z1] at h; subst h
                refine s_gvalY 67 rfl rfl y18 rfl (.int .i64 (Lk.getD q (0, 0)).1) (rfl) ?_
                refine nr ?_; intro U h; simp only [z0, z1] at h; subst h
                refine s_gvalY 68 rfl rfl y18 rfl (.int .i64 (Lk.getD q (0, 0)).2) (rfl) ?_
                refine nr ?_; intro U h; simp only [z0, z1] at h; subst h
                refine s_gvalY 69 rfl rfl y18 rfl (.bool true) (run_neq_k 3 .i64 _ _ _ rfl Try.underlying3 (Lk.getD q (0, 0)).1 (Lk.getD q (0, 0)).2 rfl rfl true p5 _) ?_
                refine nr ?_; intro U h; simp only [z0, z1] at h; subst h
                refine s_val 70 rfl rfl (.bool true) (rfl) ?_
                refine nr ?_; intro U h; simp only [z0, z1] at h; subst h
                refine wpList_nil ?_
                refine then_n ?_
                refine wp_cond_true rfl ?_
                refine wp_region_pm (A := ?Ax14) (fun L x => Gro w x ∧ x.heap[g1]? = some (.cells (wdA aw IW.length cw al Lk.length cl ah Hs.length ch) 45 (0, 0)) ∧ x.heap[g2]? = some (.cells (mxA mx0) 47 (0, 0)) ∧ x.heap[g3]? = some (.cells (mxA (mxq (L 10) (L 13) (lkF I.length mx0 (Lk.take q)) pa pb)) 47 (0, 0)) ∧ x.heap[g4]? = some (.cells (mxA (mxq (L 16) false (lkF I.length (dgF I.length) (Lk.take q)) pa pb)) 47 (0, 0)) ∧ x.heap[g5]? = some (.cells (prA (Lk.getD q (0, 0))) 60 (0, 0))) 18 [(0, 71), (1, 72), (2, 73), (3, 74), (4, 75), (5, 76), (6, 77), (7, 78), (8, 79), (9, 80), (11, 81), (12, 82), (14, 83), (15, 84), (17, 85)] [.val (.int .i64 (Lk.getD q (0, 0)).1), .val (.int .i64 (Lk.getD q (0, 0)).2), .val (.int .i64 (Lk.getD q (0, 0)).2), .val (.int .i64 (Lk.getD q (0, 0)).1), .val (.int .i64 (Lk.getD q (0, 0)).1), .val (.int .i64 (Lk.getD q (0, 0)).2), .val (.int .i64 (Lk.getD q (0, 0)).2), .val (.int .i64 (Lk.getD q (0, 0)).1), .val (.pointer (some ⟨g3, pa * 6, none⟩)), .val (.pointer (some ⟨g3, pa * 6 + pb, none⟩)), .val undef, .val (.pointer (some ⟨g3, pb * 6, none⟩)), .val (.pointer (some ⟨g3, pb * 6 + pa, none⟩)), .val undef, .val (.pointer (some ⟨g4, pa * 6, none⟩)), .val (.pointer (some ⟨g4, pa * 6 + pb, none⟩)), .val undef, .val (.pointer (some ⟨g4, pb * 6, none⟩))] [] [] follows (by kernel_rfl) rfl (by kernel_rfl) (by decide) ⟨GG.drew, (Gro.refl _).drew.has kg1, (Gro.refl _).drew.has kg2, (Gro.refl _).drew.has kg3, (Gro.refl _).drew.has kg4, (Gro.refl _).drew.has kg5⟩ ?hAx14 (opsM_w ?o0x14 (opsM_w ?o1x14 (opsM_w ?o2x14 (opsM_w ?o3x14 (opsM_w ?o4x14 (opsM_w ?o5x14 (opsM_w ?o6x14 (opsM_w ?o7x14 (opsM_w ?o8x14 (opsM_w ?o9x14 (opsM_w ?o10x14 (opsM_w ?o11x14 (opsM_w ?o12x14 (opsM_w ?o13x14 (opsM_w ?o14x14 (opsM_w ?o15x14 (opsM_w ?o16x14 (opsM_w ?o17x14 opsM_nil)))))))))))))))))) ?restx14
                case hAx14 =>
                  intro ptrs
                  simp only [full, foldSlots, filledE, postE, List.foldl_cons, List.foldl_nil, List.getD_cons_zero, List.getD_cons_succ, fill_val, List.set_cons_zero, List.set_cons_succ]
                  exact rfl
                case o0x14 => exact fun L ptrs x hx _ _ _ _ => opX_val (v := .int .i64 (Lk.getD q (0, 0)).1) rfl (rfl) ⟨hx, StM.vals [0, 1, 2, 3, 4, 5, 6, 7, 8, 9, 10, 11, 12, 13, 14, 15, 16, 17] (by kernel_rfl) ⟨⟨_, rfl⟩, ⟨_, rfl⟩, ⟨_, rfl⟩, ⟨_, rfl⟩, ⟨_, rfl⟩, ⟨_, rfl⟩, ⟨_, rfl⟩, ⟨_, rfl⟩, ⟨_, rfl⟩, ⟨_, rfl⟩, ⟨_, rfl⟩, ⟨_, rfl⟩, ⟨_, rfl⟩, ⟨_, rfl⟩, ⟨_, rfl⟩, ⟨_, rfl⟩, ⟨_, rfl⟩, ⟨_, rfl⟩, trivial⟩⟩ rfl
                case o1x14 => exact fun L ptrs x hx _ _ _ _ => opX_val (v := .int .i64 (Lk.getD q (0, 0)).2) rfl (rfl) ⟨hx, StM.vals [0, 1, 2, 3, 4, 5, 6, 7, 8, 9, 10, 11, 12, 13, 14, 15, 16, 17] (by kernel_rfl) ⟨⟨_, rfl⟩, ⟨_, rfl⟩, ⟨_, rfl⟩, ⟨_, rfl⟩, ⟨_, rfl⟩, ⟨_, rfl⟩, ⟨_, rfl⟩, ⟨_, rfl⟩, ⟨_, rfl⟩, ⟨_, rfl⟩, ⟨_, rfl⟩, ⟨_, rfl⟩, ⟨_, rfl⟩, ⟨_, rfl⟩, ⟨_, rfl⟩, ⟨_, rfl⟩, ⟨_, rfl⟩, ⟨_, rfl⟩, trivial⟩⟩ rfl
                case o2x14 => exact fun L ptrs x hx _ _ _ _ => opX_val (v := .int .i64 (Lk.getD q (0, 0)).2) rfl (rfl) ⟨hx, StM.vals [0, 1, 2, 3, 4, 5, 6, 7, 8, 9, 10, 11, 12, 13, 14, 15, 16, 17] (by kernel_rfl) ⟨⟨_, rfl⟩, ⟨_, rfl⟩, ⟨_, rfl⟩, ⟨_, rfl⟩, ⟨_, rfl⟩, ⟨_, rfl⟩, ⟨_, rfl⟩, ⟨_, rfl⟩, ⟨_, rfl⟩, ⟨_, rfl⟩, ⟨_, rfl⟩, ⟨_, rfl⟩, ⟨_, rfl⟩, ⟨_, rfl⟩, ⟨_, rfl⟩, ⟨_, rfl⟩, ⟨_, rfl⟩, ⟨_, rfl⟩, trivial⟩⟩ rfl
                case o3x14 => exact fun L ptrs x hx _ _ _ _ => opX_val (v := .int .i64 (Lk.getD q (0, 0)).1) rfl (rfl) ⟨hx, StM.vals [0, 1, 2, 3, 4, 5, 6, 7, 8, 9, 10, 11, 12, 13, 14, 15, 16, 17] (by kernel_rfl) ⟨⟨_, rfl⟩, ⟨_, rfl⟩, ⟨_, rfl⟩, ⟨_, rfl⟩, ⟨_, rfl⟩, ⟨_, rfl⟩, ⟨_, rfl⟩, ⟨_, rfl⟩, ⟨_, rfl⟩, ⟨_, rfl⟩, ⟨_, rfl⟩, ⟨_, rfl⟩, ⟨_, rfl⟩, ⟨_, rfl⟩, ⟨_, rfl⟩, ⟨_, rfl⟩, ⟨_, rfl⟩, ⟨_, rfl⟩, trivial⟩⟩ rfl
                case o4x14 => exact fun L ptrs x hx _ _ _ _ => opX_val (v := .int .i64 (Lk.getD q (0, 0)).1) rfl (rfl) ⟨hx, StM.vals [0, 1, 2, 3, 4, 5, 6, 7, 8, 9, 10, 11, 12, 13, 14, 15, 16, 17] (by kernel_rfl) ⟨⟨_, rfl⟩, ⟨_, rfl⟩, ⟨_, rfl⟩, ⟨_, rfl⟩, ⟨_, rfl⟩, ⟨_, rfl⟩, ⟨_, rfl⟩, ⟨_, rfl⟩, ⟨_, rfl⟩, ⟨_, rfl⟩, ⟨_, rfl⟩, ⟨_, rfl⟩, ⟨_, rfl⟩, ⟨_, rfl⟩, ⟨_, rfl⟩, ⟨_, rfl⟩, ⟨_, rfl⟩, ⟨_, rfl⟩, trivial⟩⟩ rfl
                case o5x14 => exact fun L ptrs x hx _ _ _ _ => opX_val (v := .int .i64 (Lk.getD q (0, 0)).2) rfl (rfl) ⟨hx, StM.vals [0, 1, 2, 3, 4, 5, 6, 7, 8, 9, 10, 11, 12, 13, 14, 15, 16, 17] (by kernel_rfl) ⟨⟨_, rfl⟩, ⟨_, rfl⟩, ⟨_, rfl⟩, ⟨_, rfl⟩, ⟨_, rfl⟩, ⟨_, rfl⟩, ⟨_, rfl⟩, ⟨_, rfl⟩, ⟨_, rfl⟩, ⟨_, rfl⟩, ⟨_, rfl⟩, ⟨_, rfl⟩, ⟨_, rfl⟩, ⟨_, rfl⟩, ⟨_, rfl⟩, ⟨_, rfl⟩, ⟨_, rfl⟩, ⟨_, rfl⟩, trivial⟩⟩ rfl
                case o6x14 => exact fun L ptrs x hx _ _ _ _ => opX_val (v := .int .i64 (Lk.getD q (0, 0)).2) rfl (rfl) ⟨hx, StM.vals [0, 1, 2, 3, 4, 5, 6, 7, 8, 9, 10, 11, 12, 13, 14, 15, 16, 17] (by kernel_rfl) ⟨⟨_, rfl⟩, ⟨_, rfl⟩, ⟨_, rfl⟩, ⟨_, rfl⟩, ⟨_, rfl⟩, ⟨_, rfl⟩, ⟨_, rfl⟩, ⟨_, rfl⟩, ⟨_, rfl⟩, ⟨_, rfl⟩, ⟨_, rfl⟩, ⟨_, rfl⟩, ⟨_, rfl⟩, ⟨_, rfl⟩, ⟨_, rfl⟩, ⟨_, rfl⟩, ⟨_, rfl⟩, ⟨_, rfl⟩, trivial⟩⟩ rfl
                case o7x14 => exact fun L ptrs x hx _ _ _ _ => opX_val (v := .int .i64 (Lk.getD q (0, 0)).1) rfl (rfl) ⟨hx, StM.vals [0, 1, 2, 3, 4, 5, 6, 7, 8, 9, 10, 11, 12, 13, 14, 15, 16, 17] (by kernel_rfl) ⟨⟨_, rfl⟩, ⟨_, rfl⟩, ⟨_, rfl⟩, ⟨_, rfl⟩, ⟨_, rfl⟩, ⟨_, rfl⟩, ⟨_, rfl⟩, ⟨_, rfl⟩, ⟨_, rfl⟩, ⟨_, rfl⟩, ⟨_, rfl⟩, ⟨_, rfl⟩, ⟨_, rfl⟩, ⟨_, rfl⟩, ⟨_, rfl⟩, ⟨_, rfl⟩, ⟨_, rfl⟩, ⟨_, rfl⟩, trivial⟩⟩ rfl
                case o8x14 => exact fun L ptrs x hx _ _ _ _ => opX_val (v := .pointer (some ⟨g3, pa * 6, none⟩)) rfl (run_ia47 _ _ rfl g3 pa rfl (by exact congrArg (Value.int .i64) hpa) (by omega) _) ⟨hx, StM.vals [0, 1, 2, 3, 4, 5, 6, 7, 8, 9, 10, 11, 12, 13, 14, 15, 16, 17] (by kernel_rfl) ⟨⟨_, rfl⟩, ⟨_, rfl⟩, ⟨_, rfl⟩, ⟨_, rfl⟩, ⟨_, rfl⟩, ⟨_, rfl⟩, ⟨_, rfl⟩, ⟨_, rfl⟩, ⟨_, rfl⟩, ⟨_, rfl⟩, ⟨_, rfl⟩, ⟨_, rfl⟩, ⟨_, rfl⟩, ⟨_, rfl⟩, ⟨_, rfl⟩, ⟨_, rfl⟩, ⟨_, rfl⟩, ⟨_, rfl⟩, trivial⟩⟩ rfl
                case o9x14 => exact fun L ptrs x hx _ _ _ _ => opX_val (v := .pointer (some ⟨g3, pa * 6 + pb, none⟩)) rfl (run_ia46 _ _ rfl g3 (pa * 6) pb rfl (by exact congrArg (Value.int .i64) hpb) (by omega) _) ⟨hx, StM.vals [0, 1, 2, 3, 4, 5, 6, 7, 8, 9, 10, 11, 12, 13, 14, 15, 16, 17] (by kernel_rfl) ⟨⟨_, rfl⟩, ⟨_, rfl⟩, ⟨_, rfl⟩, ⟨_, rfl⟩, ⟨_, rfl⟩, ⟨_, rfl⟩, ⟨_, rfl⟩, ⟨_, rfl⟩, ⟨_, rfl⟩, ⟨_, rfl⟩, ⟨_, rfl⟩, ⟨_, rfl⟩, ⟨_, rfl⟩, ⟨_, rfl⟩, ⟨_, rfl⟩, ⟨_, rfl⟩, ⟨_, rfl⟩, ⟨_, rfl⟩, trivial⟩⟩ rfl
                case o10x14 =>
                  intro L ptrs x hx hL _ _ _
                  obtain ⟨GG, kg1, kg2, kg3, kg4, kg5⟩ := hx
                  have hL2 : L 10 = false := hL
                  rw [hL2] at kg3
                  refine opX_store _ rfl 4 _ _ rfl g3 (pa * 6 + pb) rfl (.bool true) rfl 47 _ kg3 #[.bool true] rfl si4 (by rw [mxA_size]; show _ + 1 ≤ 36; omega) (b_one _) (mxA (mxq true (L 13) (lkF I.length mx0 (Lk.take q)) pa pb)) ((spM _ _ _ (by omega) (by omega) _).trans (congrArg mxA (mxq_1 _ _ _ _))) ?_
                  intro y St
                  exact ⟨⟨⟨GG.store St bg3, St.has (by omega) kg1, St.has (by omega) kg2, St.new, St.has (by omega) kg4, St.has (by omega) kg5⟩, StM.vals [0, 1, 2, 3, 4, 5, 6, 7, 8, 9, 10, 11, 12, 13, 14, 15, 16, 17] (by kernel_rfl) ⟨⟨_, rfl⟩, ⟨_, rfl⟩, ⟨_, rfl⟩, ⟨_, rfl⟩, ⟨_, rfl⟩, ⟨_, rfl⟩, ⟨_, rfl⟩, ⟨_, rfl⟩, ⟨_, rfl⟩, ⟨_, rfl⟩, ⟨_, rfl⟩, ⟨_, rfl⟩, ⟨_, rfl⟩, ⟨_, rfl⟩, ⟨_, rfl⟩, ⟨_, rfl⟩, ⟨_, rfl⟩, ⟨_, rfl⟩, trivial⟩⟩, rfl⟩
                case o11x14 => exact fun L ptrs x hx _ _ _ _ => opX_val (v := .pointer (some ⟨g3, pb * 6, none⟩)) rfl (run_ia47 _ _ rfl g3 pb rfl (by exact congrArg (Value.int .i64) hpb) (by omega) _) ⟨hx, StM.vals [0, 1, 2, 3, 4, 5, 6, 7, 8, 9, 10, 11, 12, 13, 14, 15, 16, 17] (by kernel_rfl) ⟨⟨_, rfl⟩, ⟨_, rfl⟩, ⟨_, rfl⟩, ⟨_, rfl⟩, ⟨_, rfl⟩, ⟨_, rfl⟩, ⟨_, rfl⟩, ⟨_, rfl⟩, ⟨_, rfl⟩, ⟨_, rfl⟩, ⟨_, rfl⟩, ⟨_, rfl⟩, ⟨_, rfl⟩, ⟨_, rfl⟩, ⟨_, rfl⟩, ⟨_, rfl⟩, ⟨_, rfl⟩, ⟨_, rfl⟩, trivial⟩⟩ rfl
                case o12x14 => exact fun L ptrs x hx _ _ _ _ => opX_val (v := .pointer (some ⟨g3, pb * 6 + pa, none⟩)) rfl (run_ia46 _ _ rfl g3 (pb * 6) pa rfl (by exact congrArg (Value.int .i64) hpa) (by omega) _) ⟨hx, StM.vals [0, 1, 2, 3, 4, 5, 6, 7, 8, 9, 10, 11, 12, 13, 14, 15, 16, 17] (by kernel_rfl) ⟨⟨_, rfl⟩, ⟨_, rfl⟩, ⟨_, rfl⟩, ⟨_, rfl⟩, ⟨_, rfl⟩, ⟨_, rfl⟩, ⟨_, rfl⟩, ⟨_, rfl⟩, ⟨_, rfl⟩, ⟨_, rfl⟩, ⟨_, rfl⟩, ⟨_, rfl⟩, ⟨_, rfl⟩, ⟨_, rfl⟩, ⟨_, rfl⟩, ⟨_, rfl⟩, ⟨_, rfl⟩, ⟨_, rfl⟩, trivial⟩⟩ rfl
                case o13x14 =>
                  intro L ptrs x hx hL _ _ _
                  obtain ⟨GG, kg1, kg2, kg3, kg4, kg5⟩ := hx
                  have hL2 : L 13 = false := hL
                  rw [hL2] at kg3
                  refine opX_store _ rfl 4 _ _ rfl g3 (pb * 6 + pa) rfl (.bool true) rfl 47 _ kg3 #[.bool true] rfl si4 (by rw [mxA_size]; show _ + 1 ≤ 36; omega) (b_one _) (mxA (mxq (L 10) true (lkF I.length mx0 (Lk.take q)) pa pb)) ((spM _ _ _ (by omega) (by omega) _).trans (congrArg mxA (mxq_2 _ _ _ _))) ?_
                  intro y St
                  exact ⟨⟨⟨GG.store St bg3, St.has (by omega) kg1, St.has (by omega) kg2, St.new, St.has (by omega) kg4, St.has (by omega) kg5⟩, StM.vals [0, 1, 2, 3, 4, 5, 6, 7, 8, 9, 10, 11, 12, 13, 14, 15, 16, 17] (by kernel_rfl) ⟨⟨_, rfl⟩, ⟨_, rfl⟩, ⟨_, rfl⟩, ⟨_, rfl⟩, ⟨_, rfl⟩, ⟨_, rfl⟩, ⟨_, rfl⟩, ⟨_, rfl⟩, ⟨_, rfl⟩, ⟨_, rfl⟩, ⟨_, rfl⟩, ⟨_, rfl⟩, ⟨_, rfl⟩, ⟨_, rfl⟩, ⟨_, rfl⟩, ⟨_, rfl⟩, ⟨_, rfl⟩, ⟨_, rfl⟩, trivial⟩⟩, rfl⟩
                case o14x14 => exact fun L ptrs x hx _ _ _ _ => opX_val (v := .pointer (some ⟨g4, pa * 6, none⟩)) rfl (run_ia47 _ _ rfl g4 pa rfl (by exact congrArg (Value.int .i64) hpa) (by omega) _) ⟨hx, StM.vals [0, 1, 2, 3, 4, 5, 6, 7, 8, 9, 10, 11, 12, 13, 14, 15, 16, 17] (by kernel_rfl) ⟨⟨_, rfl⟩, ⟨_, rfl⟩, ⟨_, rfl⟩, ⟨_, rfl⟩, ⟨_, rfl⟩, ⟨_, rfl⟩, ⟨_, rfl⟩, ⟨_, rfl⟩, ⟨_, rfl⟩, ⟨_, rfl⟩, ⟨_, rfl⟩, ⟨_, rfl⟩, ⟨_, rfl⟩, ⟨_, rfl⟩, ⟨_, rfl⟩, ⟨_, rfl⟩, ⟨_, rfl⟩, ⟨_, rfl⟩, trivial⟩⟩ rfl
                case o15x14 => exact fun L ptrs x hx _ _ _ _ => opX_val (v := .pointer (some ⟨g4, pa * 6 + pb, none⟩)) rfl (run_ia46 _ _ rfl g4 (pa * 6) pb rfl (by exact congrArg (Value.int .i64) hpb) (by omega) _) ⟨hx, StM.vals [0, 1, 2, 3, 4, 5, 6, 7, 8, 9, 10, 11, 12, 13, 14, 15, 16, 17] (by kernel_rfl) ⟨⟨_, rfl⟩, ⟨_, rfl⟩, ⟨_, rfl⟩, ⟨_, rfl⟩, ⟨_, rfl⟩, ⟨_, rfl⟩, ⟨_, rfl⟩, ⟨_, rfl⟩, ⟨_, rfl⟩, ⟨_, rfl⟩, ⟨_, rfl⟩, ⟨_, rfl⟩, ⟨_, rfl⟩, ⟨_, rfl⟩, ⟨_, rfl⟩, ⟨_, rfl⟩, ⟨_, rfl⟩, ⟨_, rfl⟩, trivial⟩⟩ rfl
                case o16x14 =>
                  intro L ptrs x hx hL _ _ _
                  obtain ⟨GG, kg1, kg2, kg3, kg4, kg5⟩ := hx
                  have hL2 : L 16 = false := hL
                  rw [hL2] at kg4
                  refine opX_store _ rfl 4 _ _ rfl g4 (pa * 6 + pb) rfl (.bool true) rfl 47 _ kg4 #[.bool true] rfl si4 (by rw [mxA_size]; show _ + 1 ≤ 36; omega) (b_one _) (mxA (mxq true false (lkF I.length (dgF I.length) (Lk.take q)) pa pb)) ((spM _ _ _ (by omega) (by omega) _).trans (congrArg mxA (mxq_1 _ _ _ _))) ?_
                  intro y St
                  exact ⟨⟨⟨GG.store St bg4, St.has (by omega) kg1, St.has (by omega) kg2, St.has (by omega) kg3, St.new, St.has (by omega) kg5⟩, StM.vals [0, 1, 2, 3, 4, 5, 6, 7, 8, 9, 10, 11, 12, 13, 14, 15, 16, 17] (by kernel_rfl) ⟨⟨_, rfl⟩, ⟨_, rfl⟩, ⟨_, rfl⟩, ⟨_, rfl⟩, ⟨_, rfl⟩, ⟨_, rfl⟩, ⟨_, rfl⟩, ⟨_, rfl⟩, ⟨_, rfl⟩, ⟨_, rfl⟩, ⟨_, rfl⟩, ⟨_, rfl⟩, ⟨_, rfl⟩, ⟨_, rfl⟩, ⟨_, rfl⟩, ⟨_, rfl⟩, ⟨_, rfl⟩, ⟨_, rfl⟩, trivial⟩⟩, rfl⟩
                case o17x14 => exact fun L ptrs x hx _ _ _ _ => opX_val (v := .pointer (some ⟨g4, pb * 6, none⟩)) rfl (run_ia47 _ _ rfl g4 pb rfl (by exact congrArg (Value.int .i64) hpb) (by omega) _) ⟨hx, StM.vals [0, 1, 2, 3, 4, 5, 6, 7, 8, 9, 10, 11, 12, 13, 14, 15, 16, 17] (by kernel_rfl) ⟨⟨_, rfl⟩, ⟨_, rfl⟩, ⟨_, rfl⟩, ⟨_, rfl⟩, ⟨_, rfl⟩, ⟨_, rfl⟩, ⟨_, rfl⟩, ⟨_, rfl⟩, ⟨_, rfl⟩, ⟨_, rfl⟩, ⟨_, rfl⟩, ⟨_, rfl⟩, ⟨_, rfl⟩, ⟨_, rfl⟩, ⟨_, rfl⟩, ⟨_, rfl⟩, ⟨_, rfl⟩, ⟨_, rfl⟩, trivial⟩⟩ rfl
                intro ptrs w8 HJ _
                simp only [List.drop_succ_cons, List.drop_zero]
                clear GG kg1 kg2 kg3 kg4 kg5
                obtain ⟨GG, kg1, kg2, kg3, kg4, kg5⟩ := HJ
                replace kg3 : w8.heap[g3]? = some (.cells (mxA (mxq true true (lkF I.length mx0 (Lk.take q)) pa pb)) 47 (0, 0)) := kg3
                replace kg4 : w8.heap[g4]? = some (.cells (mxA (mxq true false (lkF I.length (dgF I.length) (Lk.take q)) pa pb)) 47 (0, 0)) := kg4
                refine s_val 86 rfl rfl (.pointer (some ⟨g4, pb * 6 + pa, none⟩)) (run_ia46 _ _ rfl g4 (pb * 6) pa rfl (by exact congrArg (Value.int .i64) hpa) (by omega) _) ?_
                refine nr ?_; intro U h; simp only [z0, z1] at h; subst h
                refine s_store rfl rfl 4 _ _ rfl g4 (pb * 6 + pa) rfl (.bool true) rfl 47 _ kg4 #[.bool true] rfl si4 (by rw [mxA_size]; show _ + 1 ≤ 36; omega) (b_one _) (mxA (mxq true true (lkF I.length (dgF I.length) (Lk.take q)) pa pb)) ((spM _ _ _ (by omega) (by omega) _).trans (congrArg mxA (mxq_2 _ _ _ _))) ?_
                intro w9 St
                have kS := kg4
                replace kg1 := St.has (by omega) kg1
                replace kg2 := St.has (by omega) kg2
                replace kg3 := St.has (by omega) kg3
                replace kg5 := St.has (by omega) kg5
                replace GG := GG.store St bg4
                replace kg4 := St.new
                clear St
                refine wpList_nil ?_
                refine blk_n ?_
                refine then_n ?_
                refine wp_region_lit ?_
                refine s_val 87 rfl rfl (.int .i64 ((q + 1 : Nat) : Int)) (run_addI 3 _ _ _ rfl ((q : Nat) : Int) 1 ((q + 1 : Nat) : Int) rfl rfl (by omega) (by omega) (by omega) _) ?_
                refine nr ?_; intro U h; simp only [z0, z1] at h; subst h
                refine s_val 40 rfl rfl (.int .i64 ((q + 1 : Nat) : Int)) (rfl) ?_
                refine nr ?_; intro U h; simp only [z0, z1] at h; subst h
                refine wpList_nil ?_
                refine then_n ?_
                exact ⟨Lk.length + 1 - (q + 1), by omega, q + 1, (fun kz => ([.pointer (some ⟨g5, 0, none⟩), .int .i64 (Lk.getD q (0, 0)).1, .int .i64 (Lk.getD q (0, 0)).2, .bool true, .pointer (pK kP al q 0), .agg (prA (Lk.getD q (0, 0))), .pointer (some ⟨g5, 0, none⟩), .int .i64 (Lk.getD q (0, 0)).1, .pointer (some ⟨g5, 1, none⟩), .int .i64 (Lk.getD q (0, 0)).2, .int .i64 (Lk.getD q (0, 0)).1, .bool true, .bool true, .int .i64 (Lk.getD q (0, 0)).2, .bool true, .bool true, .bool true, .int .i64 (Lk.getD q (0, 0)).1, .slice ai I.length ci, .int .i64 ((I.length : Nat) : Int), .bool true, .bool true, .bool true, .int .i64 (Lk.getD q (0, 0)).2, .slice ai I.length ci, .int .i64 ((I.length : Nat) : Int), .bool true, .bool true, .bool true, .int .i64 (Lk.getD q (0, 0)).1, .int .i64 (Lk.getD q (0, 0)).2, .bool true, .bool true, .int .i64 (Lk.getD q (0, 0)).1, .int .i64 (Lk.getD q (0, 0)).2, .int .i64 (Lk.getD q (0, 0)).2, .int .i64 (Lk.getD q (0, 0)).1, .int .i64 (Lk.getD q (0, 0)).1, .int .i64 (Lk.getD q (0, 0)).2, .int .i64 (Lk.getD q (0, 0)).2, .int .i64 (Lk.getD q (0, 0)).1, .pointer (some ⟨g3, pa * 6, none⟩), .pointer (some ⟨g3, pa * 6 + pb, none⟩), .pointer (some ⟨g3, pb * 6, none⟩), .pointer (some ⟨g3, pb * 6 + pa, none⟩), .pointer (some ⟨g4, pa * 6, none⟩), .pointer (some ⟨g4, pa * 6 + pb, none⟩), .pointer (some ⟨g4, pb * 6, none⟩), .pointer (some ⟨g4, pb * 6 + pa, none⟩), .int .i64 ((q + 1 : Nat) : Int)] : List Value).getD kz undef), rfl, rfl, by omega, GG, kg1, kg2, by rw [lkF_step hql, ← lkS_yes hok hpa hpb]; exact kg3, by rw [lkF_step hql, ← lkS_yes hok hpa hpb]; exact kg4⟩
              · refine wp_region_opq ?_
                intro OPS hY
                have y2 := hY 2 50 rfl
                have y6 := hY 6 54 rfl
                have y12 := hY 12 60 rfl
                have y18 := hY 18 66 rfl
                clear hY
                refine s_val 48 rfl rfl (.int .i64 (Lk.getD q (0, 0)).1) (rfl) ?_
                refine nr ?_; intro U h; simp only [z0, z1] at h; subst h
                refine s_val 49 rfl rfl (.bool true) (run_geqT 3 _ _ _ rfl (Lk.getD q (0, 0)).1 0 rfl rfl true p1 _) ?_
                refine nr ?_; intro U h; simp only [z0, z1] at h; subst h
                refine s_val 50 rfl rfl (.bool true) (rfl) ?_
                refine nr ?_; intro U h; simp only [z0, z1] at h; subst h
                refine s_gvalY 51 rfl rfl y2 rfl (.int .i64 (Lk.getD q (0, 0)).2) (rfl) ?_
                refine nr ?_; intro U h; simp only [z0, z1] at h; subst h
                refine s_gvalY 52 rfl rfl y2 rfl (.bool true) (run_geqT 3 _ _ _ rfl (Lk.getD q (0, 0)).2 0 rfl rfl true p2 _) ?_
                refine nr ?_; intro U h; simp only [z0, z1] at h; subst h
                refine s_val 53 rfl rfl (.bool true) (rfl) ?_
                refine nr ?_; intro U h; simp only [z0, z1] at h; subst h
                refine s_val 54 rfl rfl (.bool true) (rfl) ?_
                refine nr ?_; intro U h; simp only [z0, z1] at h; subst h
                refine s_gvalY 55 rfl rfl y6 rfl (.int .i64 (Lk.getD q (0, 0)).1) (rfl) ?_
                refine nr ?_; intro U h; simp only [z0, z1] at h; subst h
                refine s_gvalY 56 rfl rfl y6 rfl (.slice ai I.length ci) (rfl) ?_
                refine nr ?_; intro U h; simp only [z0, z1] at h; subst h
                refine s_gvalY 57 rfl rfl y6 rfl (.int .i64 ((I.length : Nat) : Int)) (run_len Try.underlying41 _ rfl _ _ _ rfl _) ?_
                refine nr ?_; intro U h; simp only [z0, z1] at h; subst h
                refine s_gvalY 58 rfl rfl y6 rfl (.bool true) (run_lssT 3 _ _ _ rfl (Lk.getD q (0, 0)).1 ((I.length : Nat) : Int) rfl rfl true p3 _) ?_
                refine nr ?_; intro U h; simp only [z0, z1] at h; subst h
                refine s_val 59 rfl rfl (.bool true) (rfl) ?_
                refine nr ?_; intro U h; simp only [z0, z1] at h; subst h
                refine s_val 60 rfl rfl (.bool true) (rfl) ?_
                refine nr ?_; intro U h; simp only [z0, z1] at h; subst h
                refine s_gvalY 61 rfl rfl y12 rfl (.int .i64 (Lk.getD q (0, 0)).2) (rfl) ?_
                refine nr ?_; intro U h; simp only [z0, z1] at h; subst h
                refine s_gvalY 62 rfl rfl y12 rfl (.slice ai I.length ci) (rfl) ?_
                refine nr ?_; intro U h; simp only [z0, z1] at h; subst h
                refine s_gvalY 63 rfl rfl y12 rfl (.int .i64 ((I.length : Nat) : Int)) (run_len Try.underlying41 _ rfl _ _ _ rfl _) ?_
                refine nr ?_; intro U h; simp only [z0, z1] at h; subst h
                refine s_gvalY 64 rfl rfl y12 rfl (.bool true) (run_lssT 3 _ _ _ rfl (Lk.getD q (0, 0)).2 ((I.length : Nat) : Int) rfl rfl true p4 _) ?_
                refine nr ?_; intro U h; simp only [z0, z1] at h; subst h
                refine s_val 65 rfl rfl (.bool true) (rfl) ?_
                refine nr ?_; intro U h; simp only [z0, z1] at h; subst h
                refine s_val 66 rfl rfl (.bool true) (rfl) ?_
                refine nr ?_; intro U h; simp only [z0, z1] at h; subst h
                refine s_gvalY 67 rfl rfl y18 rfl (.int .i64 (Lk.getD q (0, 0)).1) (rfl) ?_
                refine nr ?_; intro U h; simp only [z0, z1] at h; subst h
                refine s_gvalY 68 rfl rfl y18 rfl (.int .i64 (Lk.getD q (0, 0)).2) (rfl) ?_
                refine nr ?_; intro U h; simp only [z0, z1] at h; subst h
                refine s_gvalY 69 rfl rfl y18 rfl (.bool false) (run_neq_k 3 .i64 _ _ _ rfl Try.underlying3 (Lk.getD q (0, 0)).1 (Lk.getD q (0, 0)).2 rfl rfl false p5 _) ?_
                refine nr ?_; intro U h; simp only [z0, z1] at h; subst h
                refine s_val 70 rfl rfl (.bool false) (rfl) ?_
                refine nr ?_; intro U h; simp only [z0, z1] at h; subst h
                refine wpList_nil ?_
                refine then_n ?_
                refine wp_cond_false rfl ?_
                refine wp_skip ?_
                refine blk_n ?_
                refine then_n ?_
                refine wp_region_lit ?_
                refine s_val 87 rfl rfl (.int .i64 ((q + 1 : Nat) : Int)) (run_addI 3 _ _ _ rfl ((q : Nat) : Int) 1 ((q + 1 : Nat) : Int) rfl rfl (by omega) (by omega) (by omega) _) ?_
                refine nr ?_; intro U h; simp only [z0, z1] at h; subst h
                refine s_val 40 rfl rfl (.int .i64 ((q + 1 : Nat) : Int)) (rfl) ?_
                refine nr ?_; intro U h; simp only [z0, z1] at h; subst h
                refine wpList_nil ?_
                refine then_n ?_
                exact ⟨Lk.length + 1 - (q + 1), by omega, q + 1, (fun kz => ([.pointer (some ⟨g5, 0, none⟩), .int .i64 (Lk.getD q (0, 0)).1, .int .i64 (Lk.getD q (0, 0)).2, .bool true, .pointer (pK kP al q 0), .agg (prA (Lk.getD q (0, 0))), .pointer (some ⟨g5, 0, none⟩), .int .i64 (Lk.getD q (0, 0)).1, .pointer (some ⟨g5, 1, none⟩), .int .i64 (Lk.getD q (0, 0)).2, .int .i64 (Lk.getD q (0, 0)).1, .bool true, .bool true, .int .i64 (Lk.getD q (0, 0)).2, .bool true, .bool true, .bool true, .int .i64 (Lk.getD q (0, 0)).1, .slice ai I.length ci, .int .i64 ((I.length : Nat) : Int), .bool true, .bool true, .bool true, .int .i64 (Lk.getD q (0, 0)).2, .slice ai I.length ci, .int .i64 ((I.length : Nat) : Int), .bool true, .bool true, .bool true, .int .i64 (Lk.getD q (0, 0)).1, .int .i64 (Lk.getD q (0, 0)).2, .bool false, .bool false, us2 33, us2 34, us2 35, us2 36, us2 37, us2 38, us2 39, us2 40, us2 41, us2 42, us2 43, us2 44, us2 45, us2 46, us2 47, us2 48, .int .i64 ((q + 1 : Nat) : Int)] : List Value).getD kz undef), rfl, rfl, by omega, GG, kg1, kg2, by rw [lkF_step hql, ← lkS_no (fun c => c.2.2.2.2 (of_decide_eq_true p5))]; exact kg3, by rw [lkF_step hql, ← lkS_no (fun c => c.2.2.2.2 (of_decide_eq_true p5))]; exact kg4⟩
  · have hil : i < I.length := by have := of_decide_eq_true hi1; omega
    refine s_val 30 rfl rfl (.bool true) (run_lssT 3 _ _ _ rfl ((i : Nat) : Int) ((I.length : Nat) : Int) rfl rfl true hi1 _) ?_
    refine nr ?_; intro U h; simp only [z0, z1] at h; subst h
    refine wpList_nil ?_
    refine then_n ?_
    refine wp_seq ?_
    refine wp_cond_true rfl ?_
    refine wp_skip ?_
    refine then_n ?_
    refine wp_seq ?_
    refine wp_block ?_
    refine wp_seq ?_
    refine wp_region_lit ?_
    refine s_val 31 rfl rfl (.int .i64 ((i : Nat) : Int)) (rfl) ?_
    refine nr ?_; intro U h; simp only [z0, z1] at h; subst h
    refine s_val 10 rfl rfl (.int .i64 ((i : Nat) : Int)) (rfl) ?_
    refine nr ?_; intro U h; simp only [z0, z1] at h; subst h
    refine wpList_nil ?_
    refine then_n ?_
    refine wp_region_lit ?_
    refine s_val 32 rfl rfl (.int .i64 ((i : Nat) : Int)) (rfl) ?_
    refine nr ?_; intro U h; simp only [z0, z1] at h; subst h
    refine s_val 33 rfl rfl (.int .i64 ((i : Nat) : Int)) (rfl) ?_
    refine nr ?_; intro U h; simp only [z0, z1] at h; subst h
    refine s_val 34 rfl rfl (.pointer (some ⟨g4, i * 6, none⟩)) (run_ia47 _ _ rfl g4 i rfl rfl (by omega) _) ?_
    refine nr ?_; intro U h; simp only [z0, z1] at h; subst h
    refine s_val 35 rfl rfl (.pointer (some ⟨g4, i * 6 + i, none⟩)) (run_ia46 _ _ rfl g4 (i * 6) i rfl rfl (by omega) _) ?_
    refine nr ?_; intro U h; simp only [z0, z1] at h; subst h
    refine s_store rfl rfl 4 _ _ rfl g4 (i * 6 + i) rfl (.bool true) rfl 47 _ kg4 #[.bool true] rfl si4 (by rw [mxA_size]; show _ + 1 ≤ 36; omega) (b_one _) (mxA (dgF (i + 1))) ((spM _ _ _ (by omega) (by omega) _).trans (congrArg mxA (dg_step i))) ?_
    intro w5 St
    have kS := kg4
    replace kg1 := St.has (by omega) kg1
    replace kg2 := St.has (by omega) kg2
    replace kg3 := St.has (by omega) kg3
    replace GG := GG.store St bg4
    replace kg4 := St.new
    clear St
    refine wpList_nil ?_
    refine blk_n ?_
    refine then_n ?_
    refine wp_region_lit ?_
    refine s_val 36 rfl rfl (.int .i64 ((i + 1 : Nat) : Int)) (run_addI 3 _ _ _ rfl ((i : Nat) : Int) 1 ((i + 1 : Nat) : Int) rfl rfl (by omega) (by omega) (by omega) _) ?_
    refine nr ?_; intro U h; simp only [z0, z1] at h; subst h
    refine s_val 29 rfl rfl (.int .i64 ((i + 1 : Nat) : Int)) (rfl) ?_
    refine nr ?_; intro U h; simp only [z0, z1] at h; subst h
    refine wpList_nil ?_
    refine then_n ?_
    exact ⟨I.length + 1 - (i + 1), by omega, i + 1, (fun kz => ([.int .i64 ((i : Nat) : Int), .bool true, .int .i64 ((i : Nat) : Int), .int .i64 ((i : Nat) : Int), .int .i64 ((i : Nat) : Int), .pointer (some ⟨g4, i * 6, none⟩), .pointer (some ⟨g4, i * 6 + i, none⟩), .int .i64 ((i + 1 : Nat) : Int)] : List Value).getD kz undef), rfl, rfl, by omega, GG, kg1, kg2, kg3, kg4⟩
end Go.Proofs.Ytljihaihhnamfaa
