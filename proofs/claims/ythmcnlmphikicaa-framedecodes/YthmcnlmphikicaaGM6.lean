/- The document's Decode answers as the program's; FrameDecodes. -/
import Derived.Test.YthmcnlmphikicaaGM5
import Derived.Test.YthmcnlmphikicaaGK4
import Derived.Test.YthmcnlmphikicaaGFr7
namespace Go.Proofs.Ythmcnlmphikicaa
open Go.RowKit
theorem dsz {l : List Nat} (hl : ∀ y ∈ l, y < 256) {a : Nat × Fr × FD} (h : decE l = .ok a) : a.2.2.tr.length ≤ 17592186044416 ∧ a.2.2.ids.length ≤ 8796093022208 ∧ a.2.2.val.length ≤ 140737488355328 ∧ a.2.2.tx.length ≤ 140737488355328 := by
  obtain ⟨_, _, _, _, I, _⟩ := dec_frameL hl h
  have := I.tr
  have := I.ids
  have := I.val
  have := I.tx
  omega
theorem bare_rd {l : List Nat} {a : Nat × Fr × FD} (h : decE l = .ok a) : (∀ (x : Int) (s1 s2 s3 s4 : Sl), ({ bare a.1 a.2.1 with kind := x, tr := s1, ids := s2, val := s3, tx := s4 } : Fr) = { a.2.1 with kind := x, tr := s1, ids := s2, val := s3, tx := s4 }) ∧ bareD a.1 a.2.2 = a.2.2 := by
  unfold decE at h
  cases hB : rdB l 0 with
  | error e => rw [hB] at h; cases h
  | ok p =>
    obtain ⟨b, q⟩ := p
    rw [hB] at h
    have hab : b = a := by
      cases hc : decide (((q : Nat) : Int) < ((l.length : Nat) : Int)) with
      | true => simp only [hc, cond_true] at h; cases h
      | false => simp only [hc, cond_false] at h; cases h; rfl
    subst hab
    clear h
    unfold rdB at hB
    obtain ⟨k, q0, _, h⟩ := thenR_ok hB
    clear hB
    split at h
    · unfold rdB1 at h
      obtain ⟨_, _, _, h⟩ := thenR_ok h
      obtain ⟨_, _, _, h⟩ := thenR_ok h
      obtain ⟨_, _, _, h⟩ := thenR_ok h
      cases h
      exact ⟨fun _ _ _ _ _ => rfl, rfl⟩
    · unfold rdB2 at h
      obtain ⟨_, _, _, h⟩ := thenR_ok h
      obtain ⟨_, _, _, h⟩ := thenR_ok h
      obtain ⟨_, _, _, h⟩ := thenR_ok h
      obtain ⟨_, _, _, h⟩ := thenR_ok h
      cases h
      exact ⟨fun _ _ _ _ _ => rfl, rfl⟩
    · unfold rdB3 at h
      obtain ⟨_, _, _, h⟩ := thenR_ok h
      obtain ⟨_, _, _, h⟩ := thenR_ok h
      obtain ⟨_, _, _, h⟩ := thenR_ok h
      cases h
      exact ⟨fun _ _ _ _ _ => rfl, rfl⟩
    · unfold rdB4 at h
      obtain ⟨_, _, _, h⟩ := thenR_ok h
      obtain ⟨_, _, _, h⟩ := thenR_ok h
      obtain ⟨_, _, _, h⟩ := thenR_ok h
      obtain ⟨_, _, _, h⟩ := thenR_ok h
      cases h
      exact ⟨fun _ _ _ _ _ => rfl, rfl⟩
    · unfold rdB5 at h
      obtain ⟨_, _, _, h⟩ := thenR_ok h
      cases h
      exact ⟨fun _ _ _ _ _ => rfl, rfl⟩
    · unfold rdB6 at h
      obtain ⟨_, _, _, h⟩ := thenR_ok h
      obtain ⟨_, _, _, h⟩ := thenR_ok h
      cases h
      exact ⟨fun _ _ _ _ _ => rfl, rfl⟩
    · unfold rdB7 at h
      obtain ⟨_, _, _, h⟩ := thenR_ok h
      obtain ⟨_, _, _, h⟩ := thenR_ok h
      obtain ⟨_, _, _, h⟩ := thenR_ok h
      cases h
      exact ⟨fun _ _ _ _ _ => rfl, rfl⟩
    · unfold rdB8 at h
      obtain ⟨_, _, _, h⟩ := thenR_ok h
      obtain ⟨_, _, _, h⟩ := thenR_ok h
      obtain ⟨_, _, _, h⟩ := thenR_ok h
      obtain ⟨_, _, _, h⟩ := thenR_ok h
      obtain ⟨_, _, _, h⟩ := thenR_ok h
      obtain ⟨_, _, _, h⟩ := thenR_ok h
      cases h
      exact ⟨fun _ _ _ _ _ => rfl, rfl⟩
    · unfold rdB9 at h
      obtain ⟨_, _, _, h⟩ := thenR_ok h
      obtain ⟨_, _, _, h⟩ := thenR_ok h
      cases h
      exact ⟨fun _ _ _ _ _ => rfl, rfl⟩
    · unfold rdB10 at h
      obtain ⟨_, _, _, h⟩ := thenR_ok h
      obtain ⟨_, _, _, h⟩ := thenR_ok h
      obtain ⟨_, _, _, h⟩ := thenR_ok h
      obtain ⟨_, _, _, h⟩ := thenR_ok h
      obtain ⟨_, _, _, h⟩ := thenR_ok h
      obtain ⟨_, _, _, h⟩ := thenR_ok h
      obtain ⟨_, _, _, h⟩ := thenR_ok h
      cases h
      exact ⟨fun _ _ _ _ _ => rfl, rfl⟩
    · unfold rdB11 at h
      obtain ⟨_, _, _, h⟩ := thenR_ok h
      obtain ⟨_, _, _, h⟩ := thenR_ok h
      obtain ⟨_, _, _, h⟩ := thenR_ok h
      cases h
      exact ⟨fun _ _ _ _ _ => rfl, rfl⟩
    · unfold rdB12 at h
      obtain ⟨_, _, _, h⟩ := thenR_ok h
      obtain ⟨_, _, _, h⟩ := thenR_ok h
      obtain ⟨_, _, _, h⟩ := thenR_ok h
      obtain ⟨_, _, _, h⟩ := thenR_ok h
      cases h
      exact ⟨fun _ _ _ _ _ => rfl, rfl⟩
    · cases h
def DecQ (w : World) (l : List Nat) (e : Ending) (w' : World) : Prop :=
  Gro w w' ∧ match decE l with
    | .error x => e = .returned (.tuple #[.agg (frA Fr.zero), .int .i64 (x : Int)])
    | .ok a => ∃ g : Fr, e = .returned (.tuple #[.agg (frA g), .int .i64 0]) ∧ (∃ s1 s2 s3 s4 : Sl, g = { bare a.1 a.2.1 with kind := (a.1 : Int), tr := s1, ids := s2, val := s3, tx := s4 }) ∧ ((ok16 (bareD a.1 a.2.2).ids ∧ (∀ x ∈ (bareD a.1 a.2.2).val, x < 256) ∧ ∀ x ∈ (bareD a.1 a.2.2).tx, x < 256) → FrO w' w.heap.size g (bareD a.1 a.2.2))
theorem dec_Q (so : Option Addr) (sc : Nat) (l : List Nat) (w : World) (H : NC w .u8 so sc l) (hl : l.length ≤ 140737488355000) : Calls Try.prog 15 #[.slice so l.length sc] w (DecQ w l) :=
  (dec_d so sc l w H hl).mono fun en w' ⟨G, k, a0, e0, s, a1, e1, hK, hS, hor⟩ => by
    obtain ⟨hE, hO⟩ := decD_eq l k a0 e0 hK s a1 e1 hS
    unfold DecQ
    refine ⟨G, ?_⟩
    cases hD : decE l with
    | error x =>
      obtain ⟨h1, h2⟩ := hE x hD
      rcases hor with ⟨_, h4⟩ | ⟨h3, _⟩
      · rw [h1] at h4
        exact h4
      · omega
    | ok r =>
      obtain ⟨h1, h2⟩ := hO r hD
      obtain ⟨hb, hd⟩ := bare_rd hD
      subst h2
      rcases hor with ⟨h3, _⟩ | ⟨_, s1, s2, s3, s4, h4, o1, o2, o3, o4⟩
      · exact absurd h1 h3
      · refine ⟨_, h4, ⟨s1, s2, s3, s4, (hb _ s1 s2 s3 s4).symm⟩, fun ⟨q1, q2, q3⟩ => ?_⟩
        rw [hd] at q1 q2 q3 ⊢
        exact ⟨o1, o2, o3, o4, q1, q2, q3⟩
theorem same_way {a : Nat × Fr × FD} {f1 f2 : Fr} (hs : a.2.2.tr.length ≤ 17592186044416 ∧ a.2.2.ids.length ≤ 8796093022208 ∧ a.2.2.val.length ≤ 140737488355328 ∧ a.2.2.tx.length ≤ 140737488355328) (h1 : ∃ s1 s2 s3 s4 : Sl, f1 = { bare a.1 a.2.1 with kind := (a.1 : Int), tr := s1, ids := s2, val := s3, tx := s4 }) (h2 : ∃ s1 s2 s3 s4 : Sl, f2 = { bare a.1 a.2.1 with kind := (a.1 : Int), tr := s1, ids := s2, val := s3, tx := s4 }) : EqF f1 f2 ∧ f1.kind = f2.kind ∧ Lens (bareD a.1 a.2.2) := by
  obtain ⟨_, _, _, _, rfl⟩ := h1
  obtain ⟨_, _, _, _, rfl⟩ := h2
  refine ⟨⟨rfl, rfl, rfl, rfl, rfl, rfl, rfl, rfl, rfl, rfl, rfl, rfl, rfl, rfl, rfl⟩, rfl, ?_⟩
  have hb : (bareD a.1 a.2.2).tr.length ≤ a.2.2.tr.length ∧ (bareD a.1 a.2.2).ids.length ≤ a.2.2.ids.length := by
    unfold bareD
    constructor
    · dsimp only
      split
      · exact Nat.le_refl _
      · exact Nat.zero_le _
    · dsimp only
      split
      · exact Nat.le_refl _
      · exact Nat.zero_le _
  unfold Lens
  omega
set_option maxRecDepth 100000 in
set_option maxHeartbeats 4000000 in
theorem decs_E (so : Option Addr) (sc : Nat) (l : List Nat) (w : World) (H : NC w .u8 so sc l) (hl : l.length ≤ 140737488355000) (x : Nat) (hD : decE l = .error x) : Calls Try.prog 4 #[.slice so l.length sc] w fun e w' => e = .returned (.bool true) ∧ Gro w w' := by
  refine s_enterR Try.func4 rfl Try.ntmps4 [.slice so l.length sc] ?_
  intro U h; simp only [List.length_cons, List.length_nil, List.cons_append, List.nil_append, Nat.reduceAdd, Nat.reduceSub, List.reduceReplicate] at h; subst h
  have GG := Gro.refl w
  refine wp_seq (wp_region_lit (mv 2 (.bool false) (wpList_nil (then_n (wp_seq (wp_region_lit (mv 8 (.slice so l.length sc) (sv 9 (.string (bas l)) (run_text_op bT 9 Try.underlying9 _ rfl rfl (H.gro GG)) (mv 3 (.string (bas l)) (wpList_nil (then_n (wp_seq (wp_region_lit (mv 11 (.slice so l.length sc) ?_))))))))))))))
  refine nr ?_; intro U h; simp only [z0, z1] at h; subst h
  have HC := decode_E so sc l _ (H.gro GG) hl x (nzD hD) hD
  unfold DecP at HC
  rw [hD] at HC
  refine s_callx 12 rfl rfl _ 14 Try.call14 rfl rfl _ rfl [.slice so l.length sc] rfl (HC) (fun _ _ ⟨_, he⟩ => ⟨_, he⟩) ?_
  rintro v w1 ⟨G, he⟩
  cases he
  clear HC
  replace GG := GG.trans G
  clear G
  refine mv 10 (.tuple #[.agg (c36 0 zF 0 false zF zF 0 0 0 0 0 Sl.nil Sl.nil zF 0 zF Sl.nil 0 0 Sl.nil), .int .i64 ((x : Nat) : Int)]) (mv 13 (.agg (c36 0 zF 0 false zF zF 0 0 0 0 0 Sl.nil Sl.nil zF 0 zF Sl.nil 0 0 Sl.nil)) (mv 14 (.int .i64 ((x : Nat) : Int)) ?_))
  refine s_alloc 4 rfl rfl 36 rfl _ zv36 _ rfl ?_
  intro w2 g1 G eg1 kg1
  have bg1 := size_base GG eg1
  replace GG := GG.trans G
  clear G eg1
  refine nr ?_; intro U h; simp only [z0, z1] at h; subst h
  refine s_store rfl rfl 36 _ _ rfl g1 0 rfl (.agg (c36 0 zF 0 false zF zF 0 0 0 0 0 Sl.nil Sl.nil zF 0 zF Sl.nil 0 0 Sl.nil)) rfl 36 _ kg1 (c36 0 zF 0 false zF zF 0 0 0 0 0 Sl.nil Sl.nil zF 0 zF Sl.nil 0 0 Sl.nil) rfl (by kernel_rfl) (Nat.le_of_ble_eq_true rfl) (by kernel_rfl) (c36 0 zF 0 false zF zF 0 0 0 0 0 Sl.nil Sl.nil zF 0 zF Sl.nil 0 0 Sl.nil) (by kernel_rfl) ?_
  intro w4 St
  replace GG := GG.store St bg1
  replace kg1 := St.new
  clear St
  refine mv 5 (.int .i64 ((x : Nat) : Int)) (wpList_nil (then_n (wp_seq (wp_region_lit (mv 16 (.slice so l.length sc) ?_)))))
  refine nr ?_; intro U h; simp only [z0, z1] at h; subst h
  have HC := dec_Q so sc l _ (H.gro GG) hl
  unfold DecQ at HC
  rw [hD] at HC
  refine s_callx 17 rfl rfl _ 15 Try.call15 rfl rfl _ rfl [.slice so l.length sc] rfl (HC) (fun _ _ ⟨_, he⟩ => ⟨_, he⟩) ?_
  rintro v w5 ⟨G, he⟩
  cases he
  clear HC
  replace kg1 := G.has kg1
  replace GG := GG.trans G
  clear G
  refine mv 15 (.tuple #[.agg (c36 0 zF 0 false zF zF 0 0 0 0 0 Sl.nil Sl.nil zF 0 zF Sl.nil 0 0 Sl.nil), .int .i64 ((x : Nat) : Int)]) (mv 18 (.agg (c36 0 zF 0 false zF zF 0 0 0 0 0 Sl.nil Sl.nil zF 0 zF Sl.nil 0 0 Sl.nil)) (mv 19 (.int .i64 ((x : Nat) : Int)) ?_))
  refine s_alloc 6 rfl rfl 36 rfl _ zv36 _ rfl ?_
  intro w6 g2 G eg2 kg2
  have bg2 := size_base GG eg2
  have dg1g2 := lt_new kg1 eg2
  replace kg1 := G.has kg1
  replace GG := GG.trans G
  clear G eg2
  refine nr ?_; intro U h; simp only [z0, z1] at h; subst h
  refine s_store rfl rfl 36 _ _ rfl g2 0 rfl (.agg (c36 0 zF 0 false zF zF 0 0 0 0 0 Sl.nil Sl.nil zF 0 zF Sl.nil 0 0 Sl.nil)) rfl 36 _ kg2 (c36 0 zF 0 false zF zF 0 0 0 0 0 Sl.nil Sl.nil zF 0 zF Sl.nil 0 0 Sl.nil) rfl (by kernel_rfl) (Nat.le_of_ble_eq_true rfl) (by kernel_rfl) (c36 0 zF 0 false zF zF 0 0 0 0 0 Sl.nil Sl.nil zF 0 zF Sl.nil 0 0 Sl.nil) (by kernel_rfl) ?_
  intro w8 St
  replace kg1 := St.has (by omega) kg1
  replace GG := GG.store St bg2
  replace kg2 := St.new
  clear St
  refine mv 7 (.int .i64 ((x : Nat) : Int)) (wpList_nil (then_n (wp_seq ?_)))
  refine wp_region_opq ?_
  intro OPS hY
  have y1 := hY 1 21 rfl
  have y6 := hY 6 26 rfl
  have y11 := hY 11 31 rfl
  clear hY
  refine s_callv 20 rfl rfl _ 12 Try.call12 rfl rfl _ rfl [] rfl (fixed_any _) ?_
  intro w9 G
  replace kg1 := G.has kg1
  replace kg2 := G.has kg2
  replace GG := GG.trans G
  clear G
  refine mv 21 (.bool true) (s_gvalY 22 rfl rfl y1 rfl (.agg (c36 0 zF 0 false zF zF 0 0 0 0 0 Sl.nil Sl.nil zF 0 zF Sl.nil 0 0 Sl.nil)) (run_lda 36 _ rfl g1 0 95 rfl 36 _ kg1 _ Try.underlying36 rfl si36 _) (s_gvalY 23 rfl rfl y1 rfl (.agg (c36 0 zF 0 false zF zF 0 0 0 0 0 Sl.nil Sl.nil zF 0 zF Sl.nil 0 0 Sl.nil)) (run_lda 36 _ rfl g2 0 95 rfl 36 _ kg2 _ Try.underlying36 rfl si36 _) ?_))
  refine nr ?_; intro U h; simp only [z0, z1] at h; subst h
  refine s_gcallvY 24 rfl rfl y1 rfl _ 13 Try.call13 rfl rfl _ rfl [.agg (c36 0 zF 0 false zF zF 0 0 0 0 0 Sl.nil Sl.nil zF 0 zF Sl.nil 0 0 Sl.nil), .agg (c36 0 zF 0 false zF zF 0 0 0 0 0 Sl.nil Sl.nil zF 0 zF Sl.nil 0 0 Sl.nil)] rfl (same0 _) ?_
  intro w10 G
  replace kg1 := G.has kg1
  replace kg2 := G.has kg2
  replace GG := GG.trans G
  clear G
  refine mv 25 (.bool true) (mv 26 (.bool true) (s_gvalY 27 rfl rfl y6 rfl (.int .i64 ((x : Nat) : Int)) (rfl) (s_gvalY 28 rfl rfl y6 rfl (.int .i64 ((x : Nat) : Int)) (rfl) ?_)))
  refine nr ?_; intro U h; simp only [z0, z1] at h; subst h
  refine s_gvalY 29 rfl rfl y6 rfl (.bool true) (run_eq_k 38 .i64 _ _ _ rfl Try.underlying38 ((x : Nat) : Int) ((x : Nat) : Int) rfl rfl true (decide_eq_true rfl) _) (mv 30 (.bool true) (mv 31 (.bool true) (s_gvalY 32 rfl rfl y11 rfl (.slice so l.length sc) (rfl) (s_gvalY 33 rfl rfl y11 rfl (.string (bas l)) (run_text_op bT 9 Try.underlying9 _ rfl rfl (H.gro GG)) ?_))))
  refine nr ?_; intro U h; simp only [z0, z1] at h; subst h
  refine s_gvalY 34 rfl rfl y11 rfl (.string (bas l)) (rfl) (s_gvalY 35 rfl rfl y11 rfl (.bool true) (run_eqs_op _ _ _ rfl _ _ rfl rfl true (decide_eq_true rfl) _) (mv 36 (.bool true) (mv 2 (.bool true) (wpList_nil (then_n (wp_ret ?_))))))
  refine bodyPost_ret (results_tmp Try.results4 _ _ _) rfl ?_
  exact ⟨rfl, GG⟩
set_option maxRecDepth 100000 in
set_option maxHeartbeats 4000000 in
theorem decs_OK (so : Option Addr) (sc : Nat) (l : List Nat) (w : World) (H : NC w .u8 so sc l) (hl : l.length ≤ 140737488355000) (a : Nat × Fr × FD) (hD : decE l = .ok a) : Calls Try.prog 4 #[.slice so l.length sc] w fun e w' => e = .returned (.bool true) ∧ Gro w w' := by
  refine s_enterR Try.func4 rfl Try.ntmps4 [.slice so l.length sc] ?_
  intro U h; simp only [List.length_cons, List.length_nil, List.cons_append, List.nil_append, Nat.reduceAdd, Nat.reduceSub, List.reduceReplicate] at h; subst h
  have GG := Gro.refl w
  refine wp_seq (wp_region_lit (mv 2 (.bool false) (wpList_nil (then_n (wp_seq (wp_region_lit (mv 8 (.slice so l.length sc) (sv 9 (.string (bas l)) (run_text_op bT 9 Try.underlying9 _ rfl rfl (H.gro GG)) (mv 3 (.string (bas l)) (wpList_nil (then_n (wp_seq (wp_region_lit (mv 11 (.slice so l.length sc) ?_))))))))))))))
  refine nr ?_; intro U h; simp only [z0, z1] at h; subst h
  have HC := decode_OK so sc l _ (H.gro GG) hl a hD (dsz H.lt256 hD)
  unfold DecP at HC
  rw [hD] at HC
  refine s_callx 12 rfl rfl _ 14 Try.call14 rfl rfl _ rfl [.slice so l.length sc] rfl (HC) (fun _ _ ⟨_, _, he, _⟩ => ⟨_, he⟩) ?_
  rintro v w1 ⟨G, f1, he, hf1, HO1⟩
  cases he
  clear HC
  replace GG := GG.trans G
  clear G
  refine mv 10 (.tuple #[.agg (c36 f1.kind f1.pw f1.pn f1.toA f1.a f1.b f1.n f1.fi f1.fn f1.ti f1.tn f1.tr f1.ids f1.key f1.vn f1.vw f1.val f1.op f1.ttl f1.tx), .int .i64 0]) (mv 13 (.agg (c36 f1.kind f1.pw f1.pn f1.toA f1.a f1.b f1.n f1.fi f1.fn f1.ti f1.tn f1.tr f1.ids f1.key f1.vn f1.vw f1.val f1.op f1.ttl f1.tx)) (mv 14 (.int .i64 0) ?_))
  refine s_alloc 4 rfl rfl 36 rfl _ zv36 _ rfl ?_
  intro w2 g1 G eg1 kg1
  have bg1 := size_base GG eg1
  replace HO1 := HO1.gro G
  replace GG := GG.trans G
  clear G eg1
  refine nr ?_; intro U h; simp only [z0, z1] at h; subst h
  refine s_store rfl rfl 36 _ _ rfl g1 0 rfl (.agg (c36 f1.kind f1.pw f1.pn f1.toA f1.a f1.b f1.n f1.fi f1.fn f1.ti f1.tn f1.tr f1.ids f1.key f1.vn f1.vw f1.val f1.op f1.ttl f1.tx)) rfl 36 _ kg1 (c36 f1.kind f1.pw f1.pn f1.toA f1.a f1.b f1.n f1.fi f1.fn f1.ti f1.tn f1.tr f1.ids f1.key f1.vn f1.vw f1.val f1.op f1.ttl f1.tx) rfl (by kernel_rfl) (Nat.le_of_ble_eq_true rfl) (by kernel_rfl) (c36 f1.kind f1.pw f1.pn f1.toA f1.a f1.b f1.n f1.fi f1.fn f1.ti f1.tn f1.tr f1.ids f1.key f1.vn f1.vw f1.val f1.op f1.ttl f1.tx) (by kernel_rfl) ?_
  intro w4 St
  replace HO1 := HO1.stT St kg1
  replace GG := GG.store St bg1
  replace kg1 := St.new
  clear St
  refine mv 5 (.int .i64 0) (wpList_nil (then_n (wp_seq (wp_region_lit (mv 16 (.slice so l.length sc) ?_)))))
  refine nr ?_; intro U h; simp only [z0, z1] at h; subst h
  have HC := dec_Q so sc l _ (H.gro GG) hl
  unfold DecQ at HC
  rw [hD] at HC
  refine s_callx 17 rfl rfl _ 15 Try.call15 rfl rfl _ rfl [.slice so l.length sc] rfl (HC) (fun _ _ ⟨_, _, he, _⟩ => ⟨_, he⟩) ?_
  rintro v w5 ⟨G, f2, he, hf2, HO2⟩
  cases he
  clear HC
  replace HO2 := HO2 ⟨HO1.oids, HO1.oval, HO1.otx⟩
  replace kg1 := G.has kg1
  replace HO1 := HO1.gro G
  replace GG := GG.trans G
  clear G
  refine mv 15 (.tuple #[.agg (c36 f2.kind f2.pw f2.pn f2.toA f2.a f2.b f2.n f2.fi f2.fn f2.ti f2.tn f2.tr f2.ids f2.key f2.vn f2.vw f2.val f2.op f2.ttl f2.tx), .int .i64 0]) (mv 18 (.agg (c36 f2.kind f2.pw f2.pn f2.toA f2.a f2.b f2.n f2.fi f2.fn f2.ti f2.tn f2.tr f2.ids f2.key f2.vn f2.vw f2.val f2.op f2.ttl f2.tx)) (mv 19 (.int .i64 0) ?_))
  refine s_alloc 6 rfl rfl 36 rfl _ zv36 _ rfl ?_
  intro w6 g2 G eg2 kg2
  have bg2 := size_base GG eg2
  have dg1g2 := lt_new kg1 eg2
  replace kg1 := G.has kg1
  replace HO1 := HO1.gro G
  replace HO2 := HO2.gro G
  replace GG := GG.trans G
  clear G eg2
  refine nr ?_; intro U h; simp only [z0, z1] at h; subst h
  refine s_store rfl rfl 36 _ _ rfl g2 0 rfl (.agg (c36 f2.kind f2.pw f2.pn f2.toA f2.a f2.b f2.n f2.fi f2.fn f2.ti f2.tn f2.tr f2.ids f2.key f2.vn f2.vw f2.val f2.op f2.ttl f2.tx)) rfl 36 _ kg2 (c36 f2.kind f2.pw f2.pn f2.toA f2.a f2.b f2.n f2.fi f2.fn f2.ti f2.tn f2.tr f2.ids f2.key f2.vn f2.vw f2.val f2.op f2.ttl f2.tx) rfl (by kernel_rfl) (Nat.le_of_ble_eq_true rfl) (by kernel_rfl) (c36 f2.kind f2.pw f2.pn f2.toA f2.a f2.b f2.n f2.fi f2.fn f2.ti f2.tn f2.tr f2.ids f2.key f2.vn f2.vw f2.val f2.op f2.ttl f2.tx) (by kernel_rfl) ?_
  intro w8 St
  replace kg1 := St.has (by omega) kg1
  replace HO1 := HO1.stT St kg2
  replace HO2 := HO2.stT St kg2
  replace GG := GG.store St bg2
  replace kg2 := St.new
  clear St
  refine mv 7 (.int .i64 0) (wpList_nil (then_n (wp_seq ?_)))
  refine wp_region_opq ?_
  intro OPS hY
  have y1 := hY 1 21 rfl
  have y6 := hY 6 26 rfl
  have y11 := hY 11 31 rfl
  clear hY
  obtain ⟨hEq, hkk, hlens⟩ := same_way (dsz H.lt256 hD) hf1 hf2
  refine s_callv 20 rfl rfl _ 12 Try.call12 rfl rfl _ rfl [] rfl (fixed_any _) ?_
  intro w9 G
  replace kg1 := G.has kg1
  replace kg2 := G.has kg2
  replace HO1 := HO1.gro G
  replace HO2 := HO2.gro G
  replace GG := GG.trans G
  clear G
  refine mv 21 (.bool true) (s_gvalY 22 rfl rfl y1 rfl (.agg (c36 f1.kind f1.pw f1.pn f1.toA f1.a f1.b f1.n f1.fi f1.fn f1.ti f1.tn f1.tr f1.ids f1.key f1.vn f1.vw f1.val f1.op f1.ttl f1.tx)) (run_lda 36 _ rfl g1 0 95 rfl 36 _ kg1 _ Try.underlying36 rfl si36 _) (s_gvalY 23 rfl rfl y1 rfl (.agg (c36 f2.kind f2.pw f2.pn f2.toA f2.a f2.b f2.n f2.fi f2.fn f2.ti f2.tn f2.tr f2.ids f2.key f2.vn f2.vw f2.val f2.op f2.ttl f2.tx)) (run_lda 36 _ rfl g2 0 95 rfl 36 _ kg2 _ Try.underlying36 rfl si36 _) ?_))
  refine nr ?_; intro U h; simp only [z0, z1] at h; subst h
  refine s_gcallvY 24 rfl rfl y1 rfl _ 13 Try.call13 rfl rfl _ rfl [.agg (c36 f1.kind f1.pw f1.pn f1.toA f1.a f1.b f1.n f1.fi f1.fn f1.ti f1.tn f1.tr f1.ids f1.key f1.vn f1.vw f1.val f1.op f1.ttl f1.tx), .agg (c36 f2.kind f2.pw f2.pn f2.toA f2.a f2.b f2.n f2.fi f2.fn f2.ti f2.tn f2.tr f2.ids f2.key f2.vn f2.vw f2.val f2.op f2.ttl f2.tx)] rfl (same_t f1 f2 _ _ HO1.frw HO2.frw hEq hkk hlens) ?_
  intro w10 G
  replace kg1 := G.has kg1
  replace kg2 := G.has kg2
  replace HO1 := HO1.gro G
  replace HO2 := HO2.gro G
  replace GG := GG.trans G
  clear G
  refine mv 25 (.bool true) (mv 26 (.bool true) (s_gvalY 27 rfl rfl y6 rfl (.int .i64 0) (rfl) (s_gvalY 28 rfl rfl y6 rfl (.int .i64 0) (rfl) ?_)))
  refine nr ?_; intro U h; simp only [z0, z1] at h; subst h
  refine s_gvalY 29 rfl rfl y6 rfl (.bool true) (run_eq_k 38 .i64 _ _ _ rfl Try.underlying38 _ _ rfl rfl true rfl _) (mv 30 (.bool true) (mv 31 (.bool true) (s_gvalY 32 rfl rfl y11 rfl (.slice so l.length sc) (rfl) (s_gvalY 33 rfl rfl y11 rfl (.string (bas l)) (run_text_op bT 9 Try.underlying9 _ rfl rfl (H.gro GG)) ?_))))
  refine nr ?_; intro U h; simp only [z0, z1] at h; subst h
  refine s_gvalY 34 rfl rfl y11 rfl (.string (bas l)) (rfl) (s_gvalY 35 rfl rfl y11 rfl (.bool true) (run_eqs_op _ _ _ rfl _ _ rfl rfl true (decide_eq_true rfl) _) (mv 36 (.bool true) (mv 2 (.bool true) (wpList_nil (then_n (wp_ret ?_))))))
  refine bodyPost_ret (results_tmp Try.results4 _ _ _) rfl ?_
  exact ⟨rfl, GG⟩
theorem frameDecodes_any (so : Option Addr) (sc : Nat) (l : List Nat) (w : World) (H : NC w .u8 so sc l) (hl : l.length ≤ 140737488355000) : Calls Try.prog 4 #[.slice so l.length sc] w fun e w' => e = .returned (.bool true) ∧ Gro w w' := by
  cases hD : decE l with
  | error x => exact decs_E so sc l w H hl x hD
  | ok a => exact decs_OK so sc l w H hl a hD
end Go.Proofs.Ythmcnlmphikicaa
