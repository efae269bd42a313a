/- The bytes of a right body, whatever its kind; a frame's bytes (frame.Encode). -/
import Derived.Test.YthmcnlmphikicabZG4
import Derived.Test.YthmcnlmphikicabZG5
namespace Go.Proofs.Ythmcnlmphikicab
open Go.RowKit
structure FrR (f : Fr) : Prop where
  pw : okI f.pw
  a : okI f.a
  b : okI f.b
  key : okI f.key
  vw : okI f.vw
  pn : f.pn < 9223372036854775808
  n : f.n < 9223372036854775808
  fi : f.fi < 9223372036854775808
  fn : f.fn < 9223372036854775808
  ti : f.ti < 9223372036854775808
  tn : f.tn < 9223372036854775808
  vn : f.vn < 9223372036854775808
  op : f.op < 9223372036854775808
  ttl : f.ttl < 9223372036854775808
structure NumOK (g : Fr) : Prop where
  pn : 0 ≤ g.pn
  n : 0 ≤ g.n
  fi : 0 ≤ g.fi
  fn : 0 ≤ g.fn
  ti : 0 ≤ g.ti
  tn : 0 ≤ g.tn
  vn : 0 ≤ g.vn
structure ListOK (g : Fr) (d : FD) : Prop where
  tr : g.tr.n ≤ 64
  tok : ∀ x ∈ d.tr, 0 ≤ x ∧ x ≤ 5
  ids : g.ids.n ≤ 16
  val : g.val.n ≤ 64
theorem rightB_iff (g : Fr) (d : FD) (ob : Bool) : rightB g d ob = true ↔ NumOK g ∧ ListOK g d ∧ ob = true := by
  unfold rightB numB listB
  simp only [Bool.and_eq_true, decide_eq_true_eq, trOK_iff]
  constructor
  · rintro ⟨⟨h1, h2, h3, h4, h5, h6, h7⟩, ⟨h8, h9, h10, h11⟩, h12⟩
    exact ⟨⟨h1, h2, h3, h4, h5, h6, h7⟩, ⟨by omega, h9, by omega, by omega⟩, h12⟩
  · rintro ⟨⟨h1, h2, h3, h4, h5, h6, h7⟩, ⟨h8, h9, h10, h11⟩, h12⟩
    exact ⟨⟨h1, h2, h3, h4, h5, h6, h7⟩, ⟨by omega, h9, by omega, by omega⟩, h12⟩
theorem ownB2 {f : Fr} (h : ownB 2 f = true) : f.tx.n ≤ 4096 := by
  simp only [ownB, decide_eq_true_eq] at h
  omega
theorem ownB8 {f : Fr} (h : ownB 8 f = true) : 0 ≤ f.op ∧ f.op ≤ 3 := by
  simpa only [ownB, Bool.and_eq_true, decide_eq_true_eq] using h
theorem ownB10 {f : Fr} (h : ownB 10 f = true) : 1 ≤ f.op ∧ f.op ≤ 4 ∧ 0 ≤ f.ttl ∧ f.ttl ≤ 64 ∧ f.tx.n ≤ 64 := by
  simp only [ownB, Bool.and_eq_true, decide_eq_true_eq] at h
  omega
theorem tok_ok {d : FD} (h : ∀ x ∈ d.tr, 0 ≤ x ∧ x ≤ 5) : ∀ x ∈ d.tr, okN x := fun x hx => ⟨(h x hx).1, by have := (h x hx).2; omega⟩
theorem bytesOf_any (k : Nat) (h1 : 1 ≤ k) (h2 : k ≤ 12) (B : Nat) (f : Fr) (d : FD) (w : World) (hB : B ≤ w.heap.size) (HW : FrW w f d) (HR : FrR f) (N : NumOK (bare k f)) (L : ListOK (bare k f) (bareD k d)) (O : ownB k f = true) : Calls Try.prog 24 #[bodyV k f] w (RetE (rowE B (bodyL k f d)) w) := by
  rcases is12 h1 h2 with rfl | rfl | rfl | rfl | rfl | rfl | rfl | rfl | rfl | rfl | rfl | rfl
  · show Calls Try.prog 24 #[.iface 67 (.agg (c79 f.fi f.fn f.ti f.tn f.a))] w _
    exact bytesOf_1 B f d w hB ⟨N.fi, HR.fi⟩ ⟨N.fn, HR.fn⟩ ⟨N.ti, HR.ti⟩ ⟨N.tn, HR.tn⟩ HR.a
  · have etx : f.tx = ⟨f.tx.ao, d.tx.length, f.tx.cap⟩ := by rw [← HW.txn]
    have O2 := ownB2 O
    show Calls Try.prog 24 #[.iface 69 (.agg (c81 f.fi f.fn f.ti f.tn f.n f.tx))] w _
    rw [etx]
    exact bytesOf_2 B f d w hB ⟨N.fi, HR.fi⟩ ⟨N.fn, HR.fn⟩ ⟨N.ti, HR.ti⟩ ⟨N.tn, HR.tn⟩ ⟨N.n, HR.n⟩ f.tx.ao f.tx.cap (xc_nc HW.tx HW.otx) (by have := HW.txn; omega)
  · show Calls Try.prog 24 #[.iface 71 (.agg (c83 f.fi f.fn f.ti f.tn f.n))] w _
    exact bytesOf_3 B f d w hB ⟨N.fi, HR.fi⟩ ⟨N.fn, HR.fn⟩ ⟨N.ti, HR.ti⟩ ⟨N.tn, HR.tn⟩ ⟨N.n, HR.n⟩
  · have etr : f.tr = ⟨f.tr.ao, d.tr.length, f.tr.cap⟩ := by rw [← HW.trn]
    show Calls Try.prog 24 #[.iface 73 (.agg (c85 f.pw f.pn f.a f.b f.tr))] w _
    rw [etr]
    exact bytesOf_4 B f d w hB HR.pw ⟨N.pn, HR.pn⟩ HR.a HR.b f.tr.ao f.tr.cap (by have := HW.tr; rw [HW.trn] at this; exact this) (tok_ok (d := d) (by have := L.tok; exact this)) (by have := HW.trn; have := L.tr; simp only [bare] at this; omega)
  · show Calls Try.prog 24 #[.iface 75 (.agg (c87 f.pw f.pn))] w _
    exact bytesOf_5 B f d w hB HR.pw ⟨N.pn, HR.pn⟩
  · show Calls Try.prog 24 #[.iface 77 (.agg (c89 f.pw f.pn f.toA))] w _
    exact bytesOf_6 B f d w hB HR.pw ⟨N.pn, HR.pn⟩
  · have eids : f.ids = ⟨f.ids.ao, d.ids.length, f.ids.cap⟩ := by rw [← HW.idn]
    show Calls Try.prog 24 #[.iface 79 (.agg (c91 f.pw f.pn f.toA f.ids))] w _
    rw [eids]
    exact bytesOf_7 B f d w hB HR.pw ⟨N.pn, HR.pn⟩ f.ids.ao f.ids.cap (by have := HW.ids; rw [HW.idn] at this; exact this) HW.oids (by have := HW.idn; have := L.ids; simp only [bare] at this; omega)
  · have etr : f.tr = ⟨f.tr.ao, d.tr.length, f.tr.cap⟩ := by rw [← HW.trn]
    have O8 := ownB8 O
    show Calls Try.prog 24 #[.iface 81 (.agg (c93 f.a f.b f.op f.pw f.pn f.toA f.tr))] w _
    rw [etr]
    exact bytesOf_8 B f d w hB HR.a HR.b ⟨O8.1, HR.op⟩ HR.pw ⟨N.pn, HR.pn⟩ f.tr.ao f.tr.cap (by have := HW.tr; rw [HW.trn] at this; exact this) (tok_ok (d := d) (by have := L.tok; exact this)) (by have := HW.trn; have := L.tr; simp only [bare] at this; omega)
  · show Calls Try.prog 24 #[.iface 83 (.agg (c95 f.a f.n))] w _
    exact bytesOf_9 B f d w hB HR.a ⟨N.n, HR.n⟩
  · have eval : f.val = ⟨f.val.ao, d.val.length, f.val.cap⟩ := by rw [← HW.valn]
    have etx : f.tx = ⟨f.tx.ao, d.tx.length, f.tx.cap⟩ := by rw [← HW.txn]
    have O10 := ownB10 O
    show Calls Try.prog 24 #[.iface 85 (.agg (c97 f.a f.b f.n f.op f.ttl f.key f.vn f.vw f.val f.tx))] w _
    rw [eval]
    rw [etx]
    exact bytesOf_10 B f d w hB HR.a HR.b ⟨N.n, HR.n⟩ ⟨by omega, HR.op⟩ ⟨O10.2.2.1, HR.ttl⟩ HR.key ⟨N.vn, HR.vn⟩ HR.vw f.val.ao f.val.cap (xc_nc HW.val HW.oval) (by have := HW.valn; have := L.val; simp only [bare] at this; omega) f.tx.ao f.tx.cap (xc_nc HW.tx HW.otx) (by have := HW.txn; have := O10.2.2.2.2; omega)
  · have eval : f.val = ⟨f.val.ao, d.val.length, f.val.cap⟩ := by rw [← HW.valn]
    show Calls Try.prog 24 #[.iface 87 (.agg (c99 f.pw f.pn f.toA f.key f.vn f.vw f.val))] w _
    rw [eval]
    exact bytesOf_11 B f d w hB HR.pw ⟨N.pn, HR.pn⟩ HR.key ⟨N.vn, HR.vn⟩ HR.vw f.val.ao f.val.cap (xc_nc HW.val HW.oval) (by have := HW.valn; have := L.val; simp only [bare] at this; omega)
  · show Calls Try.prog 24 #[.iface 89 (.agg (c101 f.pw f.pn f.toA f.key f.vn f.vw))] w _
    exact bytesOf_12 B f d w hB HR.pw ⟨N.pn, HR.pn⟩ HR.key ⟨N.vn, HR.vn⟩ HR.vw
theorem bareD_tr (k : Nat) (d : FD) {m : Nat} (h : d.tr.length ≤ m) : (bareD k d).tr.length ≤ m := by
  unfold bareD
  dsimp only
  split
  · exact h
  · exact Nat.zero_le _
def Lens (d : FD) : Prop := d.tr.length ≤ 140737488355000 ∧ d.ids.length ≤ 140737488355000
set_option maxRecDepth 100000 in
set_option maxHeartbeats 4000000 in
theorem encode_none (f : Fr) (hk : ¬ (1 ≤ f.kind ∧ f.kind ≤ 12)) (w : World) : Calls Try.prog 11 #[.agg (frA f)] w fun e w' => e = .returned (.tuple #[.slice none 0 0, .int .i64 1]) ∧ Gro w w' := by
  show Calls Try.prog 11 #[.agg (c36 f.kind f.pw f.pn f.toA f.a f.b f.n f.fi f.fn f.ti f.tn f.tr f.ids f.key f.vn f.vw f.val f.op f.ttl f.tx)] w _
  refine s_enterR Try.func11 rfl Try.ntmps11 [.agg (c36 f.kind f.pw f.pn f.toA f.a f.b f.n f.fi f.fn f.ti f.tn f.tr f.ids f.key f.vn f.vw f.val f.op f.ttl f.tx)] ?_
  intro U h; simp only [List.length_cons, List.length_nil, List.cons_append, List.nil_append, Nat.reduceAdd, Nat.reduceSub, List.reduceReplicate] at h; subst h
  have GG := Gro.refl w
  refine wp_seq (wp_region_lit ?_)
  refine s_box 1 rfl rfl 40 _ rfl _ rfl (c36 f.kind f.pw f.pn f.toA f.a f.b f.n f.fi f.fn f.ti f.tn f.tr f.ids f.key f.vn f.vw f.val f.op f.ttl f.tx) rfl ?_
  intro w1 g1 G eg1 kg1
  have bg1 := size_base GG eg1
  replace GG := GG.trans G
  clear G eg1
  refine mv 2 (.slice none 0 0) (mv 3 (.int .i64 0) ?_)
  simp only [z0, z1]
  refine wpList_nil (then_n (wp_seq (wp_region_lit (sv 5 (.agg (c36 f.kind f.pw f.pn f.toA f.a f.b f.n f.fi f.fn f.ti f.tn f.tr f.ids f.key f.vn f.vw f.val f.op f.ttl f.tx)) (run_lda 40 _ rfl g1 0 95 rfl 40 _ kg1 _ Try.underlying40 rfl si36 _) ?_))))
  refine s_callv 6 rfl rfl _ 14 Try.call14 rfl rfl _ rfl [.agg (c36 f.kind f.pw f.pn f.toA f.a f.b f.n f.fi f.fn f.ti f.tn f.tr f.ids f.key f.vn f.vw f.val f.op f.ttl f.tx)] rfl (body_not f hk _) ?_
  intro w2 G
  replace kg1 := G.has kg1
  replace GG := GG.trans G
  clear G
  refine mv 4 (.nilIface) ?_
  simp only [z0, z1]
  refine wpList_nil (then_n (wp_seq (wp_seq ?_)))
  refine wp_region_opq ?_
  intro OPS hY
  have y3 := hY 3 10 rfl
  clear hY
  refine mv 7 (.nilIface) ?_
  refine s_callv 8 rfl rfl _ 9 Try.call9 rfl rfl _ rfl [.nilIface] rfl (right_nil _) ?_
  intro w3 G
  replace kg1 := G.has kg1
  replace GG := GG.trans G
  clear G
  refine sv 9 (.bool true) (run_nt _ _ rfl false rfl) ?_
  simp only [z0, z1]
  refine mv 10 (.bool true) (s_skipY 11 rfl rfl y3 rfl (s_skipY 12 rfl rfl y3 rfl ?_))
  simp only [z0, z1]
  refine s_skipY 13 rfl rfl y3 rfl (s_skipY 14 rfl rfl y3 rfl (mv 15 (.bool true) ?_))
  simp only [z0, z1]
  refine wpList_nil (then_n (wp_cond_true rfl (wp_seq (wp_region_lit (mv 2 (.slice none 0 0) (mv 3 (.int .i64 1) (wpList_nil (then_n (wp_ret (then_r ?_))))))))))
  refine bodyPost_ret (results_tmp2 Try.results11 _ _ _) rfl ?_
  exact ⟨rfl, GG⟩
set_option maxRecDepth 100000 in
set_option maxHeartbeats 4000000 in
theorem encode_right (k : Nat) (h1 : 1 ≤ k) (h2 : k ≤ 12) (f : Fr) (hk : f.kind = (k : Int)) (d : FD) (w : World) (HW : FrW w f d) (hl : Lens d) (hr : rightB (bare k f) (bareD k d) (ownB k f) = false) : Calls Try.prog 11 #[.agg (frA f)] w fun e w' => e = .returned (.tuple #[.slice none 0 0, .int .i64 1]) ∧ Gro w w' := by
  show Calls Try.prog 11 #[.agg (c36 f.kind f.pw f.pn f.toA f.a f.b f.n f.fi f.fn f.ti f.tn f.tr f.ids f.key f.vn f.vw f.val f.op f.ttl f.tx)] w _
  refine s_enterR Try.func11 rfl Try.ntmps11 [.agg (c36 f.kind f.pw f.pn f.toA f.a f.b f.n f.fi f.fn f.ti f.tn f.tr f.ids f.key f.vn f.vw f.val f.op f.ttl f.tx)] ?_
  intro U h; simp only [List.length_cons, List.length_nil, List.cons_append, List.nil_append, Nat.reduceAdd, Nat.reduceSub, List.reduceReplicate] at h; subst h
  have GG := Gro.refl w
  refine wp_seq (wp_region_lit ?_)
  refine s_box 1 rfl rfl 40 _ rfl _ rfl (c36 f.kind f.pw f.pn f.toA f.a f.b f.n f.fi f.fn f.ti f.tn f.tr f.ids f.key f.vn f.vw f.val f.op f.ttl f.tx) rfl ?_
  intro w1 g1 G eg1 kg1
  have bg1 := size_base GG eg1
  replace GG := GG.trans G
  clear G eg1
  refine mv 2 (.slice none 0 0) (mv 3 (.int .i64 0) ?_)
  simp only [z0, z1]
  refine wpList_nil (then_n (wp_seq (wp_region_lit (sv 5 (.agg (c36 f.kind f.pw f.pn f.toA f.a f.b f.n f.fi f.fn f.ti f.tn f.tr f.ids f.key f.vn f.vw f.val f.op f.ttl f.tx)) (run_lda 40 _ rfl g1 0 95 rfl 40 _ kg1 _ Try.underlying40 rfl si36 _) ?_))))
  simp only [z0, z1]
  have HBd := fun w => body_any k h1 h2 f hk w
  obtain ⟨bv, hbv⟩ : ∃ bv, bodyV k f = bv := ⟨_, rfl⟩
  simp only [hbv] at HBd
  refine s_callv 6 rfl rfl _ 14 Try.call14 rfl rfl _ rfl [.agg (c36 f.kind f.pw f.pn f.toA f.a f.b f.n f.fi f.fn f.ti f.tn f.tr f.ids f.key f.vn f.vw f.val f.op f.ttl f.tx)] rfl (HBd _) ?_
  intro w2 G
  replace kg1 := G.has kg1
  replace GG := GG.trans G
  clear G
  refine mv 4 (bv) (wpList_nil (then_n (wp_seq (wp_seq ?_))))
  refine wp_region_opq ?_
  intro OPS hY
  have y3 := hY 3 10 rfl
  clear hY
  refine mv 7 (bv) ?_
  simp only [z0, z1]
  have HC := right_gen (bodyV k f) (bare k f) (bareD k d) (ownB k f) w2 (fields_any k h1 h2 f) (ownRight_any k h1 h2 f) ((HW.bare k h1 h2).gro GG) (bareD_tr k d hl.1)
  rw [hr, hbv] at HC
  refine s_callv 8 rfl rfl _ 9 Try.call9 rfl rfl _ rfl [bv] rfl (HC) ?_
  intro w3 G
  replace kg1 := G.has kg1
  replace GG := GG.trans G
  clear G
  refine sv 9 (.bool true) (run_nt _ _ rfl false rfl) (mv 10 (.bool true) ?_)
  simp only [z0, z1]
  refine s_skipY 11 rfl rfl y3 rfl (s_skipY 12 rfl rfl y3 rfl (s_skipY 13 rfl rfl y3 rfl ?_))
  simp only [z0, z1]
  refine s_skipY 14 rfl rfl y3 rfl (mv 15 (.bool true) (wpList_nil (then_n (wp_cond_true rfl (wp_seq (wp_region_lit (mv 2 (.slice none 0 0) ?_)))))))
  simp only [z0, z1]
  refine mv 3 (.int .i64 1) (wpList_nil (then_n (wp_ret (then_r ?_))))
  refine bodyPost_ret (results_tmp2 Try.results11 _ _ _) rfl ?_
  exact ⟨rfl, GG⟩
set_option maxRecDepth 100000 in
set_option maxHeartbeats 4000000 in
theorem encode_only (k : Nat) (h1 : 1 ≤ k) (h2 : k ≤ 12) (f : Fr) (hk : f.kind = (k : Int)) (d : FD) (w : World) (HW : FrW w f d) (hl : Lens d) (hr : rightB (bare k f) (bareD k d) (ownB k f) = true) (hs : sameB f (bare k f) d (bareD k d) = false) : Calls Try.prog 11 #[.agg (frA f)] w fun e w' => e = .returned (.tuple #[.slice none 0 0, .int .i64 1]) ∧ Gro w w' := by
  show Calls Try.prog 11 #[.agg (c36 f.kind f.pw f.pn f.toA f.a f.b f.n f.fi f.fn f.ti f.tn f.tr f.ids f.key f.vn f.vw f.val f.op f.ttl f.tx)] w _
  refine s_enterR Try.func11 rfl Try.ntmps11 [.agg (c36 f.kind f.pw f.pn f.toA f.a f.b f.n f.fi f.fn f.ti f.tn f.tr f.ids f.key f.vn f.vw f.val f.op f.ttl f.tx)] ?_
  intro U h; simp only [List.length_cons, List.length_nil, List.cons_append, List.nil_append, Nat.reduceAdd, Nat.reduceSub, List.reduceReplicate] at h; subst h
  have GG := Gro.refl w
  refine wp_seq (wp_region_lit ?_)
  refine s_box 1 rfl rfl 40 _ rfl _ rfl (c36 f.kind f.pw f.pn f.toA f.a f.b f.n f.fi f.fn f.ti f.tn f.tr f.ids f.key f.vn f.vw f.val f.op f.ttl f.tx) rfl ?_
  intro w1 g1 G eg1 kg1
  have bg1 := size_base GG eg1
  replace GG := GG.trans G
  clear G eg1
  refine mv 2 (.slice none 0 0) (mv 3 (.int .i64 0) ?_)
  simp only [z0, z1]
  refine wpList_nil (then_n (wp_seq (wp_region_lit (sv 5 (.agg (c36 f.kind f.pw f.pn f.toA f.a f.b f.n f.fi f.fn f.ti f.tn f.tr f.ids f.key f.vn f.vw f.val f.op f.ttl f.tx)) (run_lda 40 _ rfl g1 0 95 rfl 40 _ kg1 _ Try.underlying40 rfl si36 _) ?_))))
  simp only [z0, z1]
  have HBd := fun w => body_any k h1 h2 f hk w
  obtain ⟨bv, hbv⟩ : ∃ bv, bodyV k f = bv := ⟨_, rfl⟩
  simp only [hbv] at HBd
  refine s_callv 6 rfl rfl _ 14 Try.call14 rfl rfl _ rfl [.agg (c36 f.kind f.pw f.pn f.toA f.a f.b f.n f.fi f.fn f.ti f.tn f.tr f.ids f.key f.vn f.vw f.val f.op f.ttl f.tx)] rfl (HBd _) ?_
  intro w2 G
  replace kg1 := G.has kg1
  replace GG := GG.trans G
  clear G
  refine mv 4 (bv) (wpList_nil (then_n (wp_seq (wp_seq ?_))))
  refine wp_region_opq ?_
  intro OPS hY
  have y3 := hY 3 10 rfl
  clear hY
  refine mv 7 (bv) ?_
  simp only [z0, z1]
  have HC := right_gen (bodyV k f) (bare k f) (bareD k d) (ownB k f) w2 (fields_any k h1 h2 f) (ownRight_any k h1 h2 f) ((HW.bare k h1 h2).gro GG) (bareD_tr k d hl.1)
  rw [hr, hbv] at HC
  refine s_callv 8 rfl rfl _ 9 Try.call9 rfl rfl _ rfl [bv] rfl (HC) ?_
  intro w3 G
  replace kg1 := G.has kg1
  replace GG := GG.trans G
  clear G
  refine sv 9 (.bool false) (run_nt _ _ rfl true rfl) (mv 10 (.bool false) ?_)
  simp only [z0, z1]
  refine s_gvalY 11 rfl rfl y3 rfl (.agg (c36 f.kind f.pw f.pn f.toA f.a f.b f.n f.fi f.fn f.ti f.tn f.tr f.ids f.key f.vn f.vw f.val f.op f.ttl f.tx)) (run_lda 40 _ rfl g1 0 95 rfl 40 _ kg1 _ Try.underlying40 rfl si36 _) (s_gvalY 12 rfl rfl y3 rfl (bv) (rfl) ?_)
  simp only [z0, z1]
  have HC := only_gen (bodyV k f) f (bare k f) d (bareD k d) w3 (fields_any k h1 h2 f) (HW.gro GG) ((HW.bare k h1 h2).gro GG) hl.1 hl.2
  rw [hs, hbv] at HC
  refine s_gcallvY 13 rfl rfl y3 rfl _ 21 Try.call21 rfl rfl _ rfl [.agg (c36 f.kind f.pw f.pn f.toA f.a f.b f.n f.fi f.fn f.ti f.tn f.tr f.ids f.key f.vn f.vw f.val f.op f.ttl f.tx), bv] rfl (HC) ?_
  intro w4 G
  replace kg1 := G.has kg1
  replace GG := GG.trans G
  clear G
  refine s_gvalY 14 rfl rfl y3 rfl (.bool true) (run_nt _ _ rfl false rfl) (mv 15 (.bool true) ?_)
  simp only [z0, z1]
  refine wpList_nil (then_n (wp_cond_true rfl (wp_seq (wp_region_lit (mv 2 (.slice none 0 0) (mv 3 (.int .i64 1) (wpList_nil (then_n (wp_ret (then_r ?_))))))))))
  refine bodyPost_ret (results_tmp2 Try.results11 _ _ _) rfl ?_
  exact ⟨rfl, GG⟩
def frameL (k : Nat) (f : Fr) (d : FD) : List Nat := List.flatten [numL k, bodyL k f d]
set_option maxRecDepth 100000 in
set_option maxHeartbeats 4000000 in
theorem encode_ok (k : Nat) (h1 : 1 ≤ k) (h2 : k ≤ 12) (f : Fr) (hk : f.kind = (k : Int)) (d : FD) (w : World) (HW : FrW w f d) (hl : Lens d) (HR : FrR f) (hr : rightB (bare k f) (bareD k d) (ownB k f) = true) (hs : sameB f (bare k f) d (bareD k d) = true) (hbl : (bodyL k f d).length ≤ 1000000) (B : Nat) (hB : B ≤ w.heap.size) : Calls Try.prog 11 #[.agg (frA f)] w fun e w' => ∃ ao cap, e = .returned (.tuple #[.slice ao (frameL k f d).length cap, .int .i64 0]) ∧ OB w' 5 .u8 B ao cap (frameL k f d) ∧ Gro w w' := by
  obtain ⟨N, L, O⟩ := (rightB_iff _ _ _).1 hr
  have hklim : k < lim := by unfold lim; omega
  show Calls Try.prog 11 #[.agg (c36 f.kind f.pw f.pn f.toA f.a f.b f.n f.fi f.fn f.ti f.tn f.tr f.ids f.key f.vn f.vw f.val f.op f.ttl f.tx)] w _
  refine s_enterR Try.func11 rfl Try.ntmps11 [.agg (c36 f.kind f.pw f.pn f.toA f.a f.b f.n f.fi f.fn f.ti f.tn f.tr f.ids f.key f.vn f.vw f.val f.op f.ttl f.tx)] ?_
  intro U h; simp only [List.length_cons, List.length_nil, List.cons_append, List.nil_append, Nat.reduceAdd, Nat.reduceSub, List.reduceReplicate] at h; subst h
  have GG := Gro.refl w
  refine wp_seq (wp_region_lit ?_)
  refine s_box 1 rfl rfl 40 _ rfl _ rfl (c36 f.kind f.pw f.pn f.toA f.a f.b f.n f.fi f.fn f.ti f.tn f.tr f.ids f.key f.vn f.vw f.val f.op f.ttl f.tx) rfl ?_
  intro w1 g1 G eg1 kg1
  have bg1 := size_base GG eg1
  replace GG := GG.trans G
  clear G eg1
  refine mv 2 (.slice none 0 0) (mv 3 (.int .i64 0) ?_)
  simp only [z0, z1]
  refine wpList_nil (then_n (wp_seq (wp_region_lit (sv 5 (.agg (c36 f.kind f.pw f.pn f.toA f.a f.b f.n f.fi f.fn f.ti f.tn f.tr f.ids f.key f.vn f.vw f.val f.op f.ttl f.tx)) (run_lda 40 _ rfl g1 0 95 rfl 40 _ kg1 _ Try.underlying40 rfl si36 _) ?_))))
  simp only [z0, z1]
  have HBd := fun w => body_any k h1 h2 f hk w
  obtain ⟨bv, hbv⟩ : ∃ bv, bodyV k f = bv := ⟨_, rfl⟩
  simp only [hbv] at HBd
  refine s_callv 6 rfl rfl _ 14 Try.call14 rfl rfl _ rfl [.agg (c36 f.kind f.pw f.pn f.toA f.a f.b f.n f.fi f.fn f.ti f.tn f.tr f.ids f.key f.vn f.vw f.val f.op f.ttl f.tx)] rfl (HBd _) ?_
  intro w2 G
  replace kg1 := G.has kg1
  replace GG := GG.trans G
  clear G
  refine mv 4 (bv) (wpList_nil (then_n (wp_seq (wp_seq ?_))))
  refine wp_region_opq ?_
  intro OPS hY
  have y3 := hY 3 10 rfl
  clear hY
  refine mv 7 (bv) ?_
  simp only [z0, z1]
  have HC := right_gen (bodyV k f) (bare k f) (bareD k d) (ownB k f) w2 (fields_any k h1 h2 f) (ownRight_any k h1 h2 f) ((HW.bare k h1 h2).gro GG) (bareD_tr k d hl.1)
  rw [hr, hbv] at HC
  refine s_callv 8 rfl rfl _ 9 Try.call9 rfl rfl _ rfl [bv] rfl (HC) ?_
  intro w3 G
  replace kg1 := G.has kg1
  replace GG := GG.trans G
  clear G
  refine sv 9 (.bool false) (run_nt _ _ rfl true rfl) (mv 10 (.bool false) ?_)
  simp only [z0, z1]
  refine s_gvalY 11 rfl rfl y3 rfl (.agg (c36 f.kind f.pw f.pn f.toA f.a f.b f.n f.fi f.fn f.ti f.tn f.tr f.ids f.key f.vn f.vw f.val f.op f.ttl f.tx)) (run_lda 40 _ rfl g1 0 95 rfl 40 _ kg1 _ Try.underlying40 rfl si36 _) (s_gvalY 12 rfl rfl y3 rfl (bv) (rfl) ?_)
  simp only [z0, z1]
  have HC := only_gen (bodyV k f) f (bare k f) d (bareD k d) w3 (fields_any k h1 h2 f) (HW.gro GG) ((HW.bare k h1 h2).gro GG) hl.1 hl.2
  rw [hs, hbv] at HC
  refine s_gcallvY 13 rfl rfl y3 rfl _ 21 Try.call21 rfl rfl _ rfl [.agg (c36 f.kind f.pw f.pn f.toA f.a f.b f.n f.fi f.fn f.ti f.tn f.tr f.ids f.key f.vn f.vw f.val f.op f.ttl f.tx), bv] rfl (HC) ?_
  intro w4 G
  replace kg1 := G.has kg1
  replace GG := GG.trans G
  clear G
  refine s_gvalY 14 rfl rfl y3 rfl (.bool false) (run_nt _ _ rfl true rfl) (mv 15 (.bool false) ?_)
  simp only [z0, z1]
  refine wpList_nil (then_n (wp_cond_false rfl (wp_skip (then_n (wp_seq (wp_region_lit (mv 16 (bv) ?_)))))))
  simp only [z0, z1]
  have HK := kind_any k h1 h2 f
  rw [hbv] at HK
  refine s_invokeK 17 rfl rfl _ rfl bv rfl (k : Int) HK ?_
  intro w5 G
  replace kg1 := G.has kg1
  replace GG := GG.trans G
  clear G
  refine sv 18 (.int .u64 ((k : Nat) : Int)) (conv325 _ rfl k hklim rfl _) ?_
  simp only [z0, z1]
  refine s_ex 19 rfl (u64E k) rfl (opE_new (u64E k) rfl (run_oneU _ rfl _ rfl _) (gro_alloc _ _) (u64_new k hklim _)) ?_
  rintro v w6 G ⟨ge1, rfl, o1⟩
  replace kg1 := G.has kg1
  replace GG := GG.trans G
  clear G
  simp only [z0, z1]
  refine s_ex 20 rfl (rowE B (numL k)) rfl (opE_call (rowE B (numL k)) rfl _ 23 Try.call23 rfl rfl _ rfl [.slice (some ⟨ge1, 0, none⟩) ([k]).length ([k]).length] rfl (num_E B ge1 k _ (Nat.le_trans hB GG.size) o1)) ?_
  rintro v w7 G ⟨ao2, cap2, rfl, o2⟩
  replace kg1 := G.has kg1
  replace o1 := o1.gro G
  replace GG := GG.trans G
  clear G
  refine mv 21 (bv) ?_
  simp only [z0, z1]
  refine s_ex 22 rfl (rowE B (bodyL k f d)) rfl (opE_call (rowE B (bodyL k f d)) rfl _ 24 Try.call24 rfl rfl _ rfl [bv] rfl ((by rw [← hbv]; exact bytesOf_any k h1 h2 B f d _ (Nat.le_trans hB GG.size) (HW.gro GG) HR N L O))) ?_
  rintro v w8 G ⟨ao3, cap3, rfl, o3⟩
  replace kg1 := G.has kg1
  replace o1 := o1.gro G
  replace o2 := o2.gro G
  replace GG := GG.trans G
  clear G
  simp only [z0, z1]
  refine s_ex 23 rfl (textsE [(numL k), (bodyL k f d)]) rfl (opE_new (textsE [(numL k), (bodyL k f d)]) rfl (run_bsl 100 2 _ rfl [(0, .slice ao2 (numL k).length cap2), (1, .slice ao3 (bodyL k f d).length cap3)] rfl (by kernel_rfl)) (gro_alloc _ _) (texts_new [.slice ao2 (numL k).length cap2, .slice ao3 (bodyL k f d).length cap3] [(numL k), (bodyL k f d)] _ ⟨⟨_, _, rfl, o2.nc⟩, ⟨_, _, rfl, o3.nc⟩, trivial⟩)) ?_
  rintro v w9 G ⟨ge4, rfl, o4⟩
  replace kg1 := G.has kg1
  replace o1 := o1.gro G
  replace o2 := o2.gro G
  replace o3 := o3.gro G
  replace GG := GG.trans G
  clear G
  simp only [z0, z1]
  refine s_ex 24 rfl (rowE B ((List.flatten [(numL k), (bodyL k f d)]))) rfl ((by have z0 := numL_le k; have z1 := hbl; exact opE_call (rowE B ((List.flatten [(numL k), (bodyL k f d)]))) rfl _ 22 Try.call22 rfl rfl _ rfl [.slice (some ⟨ge4, 0, none⟩) ([(numL k), (bodyL k f d)]).length ([(numL k), (bodyL k f d)]).length] rfl (concat_E B ge4 [(numL k), (bodyL k f d)] _ (Nat.le_trans hB GG.size) o4 (Nat.le_of_ble_eq_true rfl) (by simp only [List.flatten_cons, List.flatten_nil, List.length_append, List.length_nil]; omega)))) ?_
  rintro v w10 G ⟨ao5, cap5, rfl, o5⟩
  replace kg1 := G.has kg1
  replace o1 := o1.gro G
  replace o2 := o2.gro G
  replace o3 := o3.gro G
  replace o4 := o4.gro G
  replace GG := GG.trans G
  clear G
  refine mv 2 (.slice ao5 ((List.flatten [(numL k), (bodyL k f d)])).length cap5) (mv 3 (.int .i64 0) ?_)
  simp only [z0, z1]
  refine wpList_nil (then_n (wp_ret ?_))
  refine bodyPost_ret (results_tmp2 Try.results11 _ _ _) rfl ?_
  exact ⟨_, _, rfl, o5, GG⟩
end Go.Proofs.Ythmcnlmphikicab
