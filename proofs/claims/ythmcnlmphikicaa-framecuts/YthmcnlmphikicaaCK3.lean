/- No frame's bytes are the beginning of another one's (FrameCuts). -/
import Derived.Test.YthmcnlmphikicaaCK2
import Derived.Test.YthmcnlmphikicaaCH1
import Derived.Test.YthmcnlmphikicaaCFr7
namespace Go.Proofs.Ythmcnlmphikicaa
open Go.RowKit
def uN (x : Int) : Nat := (x % 18446744073709551616).toNat
theorem uN_eq (x : Int) : IntKind.u64.wrap x = ((uN x : Nat) : Int) := by
  simp [IntKind.wrap, IntKind.bits, IntKind.signed, uN]
  omega
theorem conv356 {o : Oper} {A : Act} (x : Operand) (ho : o.op = .convert 3 56 x) (z : Int) (hx : A.eval x = .int .i64 z) (w : World) : (execOp A.eval o).run Try.prog w = .ok (.value (.int .u64 ((uN z : Nat) : Int))) w := by
  unfold execOp
  simp only [ho, hx]
  simp [go_sem, uN_eq]
theorem uN_nat (n : Nat) (h : n < 9223372036854775808) : uN (n : Int) = n := by unfold uN; omega
theorem run_remN {P : Program} {o : Oper} {A : Act} (t t2 : TypeId) (x y : Operand) (ho : o.op = .binOp .rem t x y t2) (a m : Nat) (hx : A.eval x = .int .u64 (a : Int)) (hy : A.eval y = .int .u64 (m : Int)) (hm : m ≠ 0) (w : World) : (execOp A.eval o).run P w = .ok (.value (.int .u64 ((a % m : Nat) : Int))) w := by
  refine run_binop .rem t x y t2 ho _ _ _ hx hy (by simp [eqGuard]) ?_
  have h1 : (a : Int).tmod (m : Int) = ((a % m : Nat) : Int) := rfl
  have h2 : (m : Int) ≠ 0 := by omega
  simp only [binOp, Op.intDiv, if_neg h2, h1]
  rfl
theorem conv563 {o : Oper} {A : Act} (x : Operand) (ho : o.op = .convert 56 3 x) (n : Nat) (hn : n < 9223372036854775808) (hx : A.eval x = .int .u64 (n : Int)) (w : World) : (execOp A.eval o).run Try.prog w = .ok (.value (.int .i64 (n : Int))) w := by
  have h : IntKind.i64.wrap (n : Int) = (n : Int) := wrap_in _ (by omega) (by omega)
  unfold execOp
  simp only [ho, hx]
  simp [go_sem, h]
/-- A frame is refused, or laid in bytes that may be read again. -/
def Laid (w : World) (f : Fr) (d : FD) : Prop :=
  ∃ k : Nat, 1 ≤ k ∧ k ≤ 12 ∧ f.kind = (k : Int) ∧ sameB f (bare k f) d (bareD k d) = true ∧ LayOK k f d ∧ d.tx.length ≤ 4096 ∧ (frameL k f d).length ≤ 1000009 ∧ 0 < (frameL k f d).length ∧
    ∀ w1, Gro w w1 → Calls Try.prog 10 #[.agg (frA f)] w1 fun e w' => ∃ ao cap, e = .returned (.tuple #[.slice ao (frameL k f d).length cap, .int .i64 0]) ∧ OB w' 5 .u8 w1.heap.size ao cap (frameL k f d) ∧ Gro w1 w'
def Refused (w : World) (f : Fr) : Prop := ∀ w1, Gro w w1 → Calls Try.prog 10 #[.agg (frA f)] w1 fun e w' => e = .returned (.tuple #[.slice none 0 0, .int .i64 1]) ∧ Gro w1 w'
theorem enc_way (w : World) (f : Fr) (d : FD) (HW : FrW w f d) (hl : Lens d) (HR : FrR f) : Refused w f ∨ Laid w f d := by
  by_cases hk : 1 ≤ f.kind ∧ f.kind ≤ 12
  · obtain ⟨k, hkk⟩ : ∃ k : Nat, f.kind = (k : Int) := ⟨f.kind.toNat, by omega⟩
    have h1 : 1 ≤ k := by omega
    have h2 : k ≤ 12 := by omega
    cases hr : rightB (bare k f) (bareD k d) (ownB k f) with
    | false => exact .inl fun w1 G => encode_right k h1 h2 f hkk d w1 (HW.gro G) hl hr
    | true =>
      cases hs : sameB f (bare k f) d (bareD k d) with
      | false => exact .inl fun w1 G => encode_only k h1 h2 f hkk d w1 (HW.gro G) hl hr hs
      | true =>
        obtain ⟨hL, htx⟩ := layok_of k h1 h2 f d w HW HR hr hs
        have hbl := bodyL_len k h1 h2 f d hL.tr hL.ids HW.oids hL.val htx
        have hn := numL_le k
        have hn1 := numL_len k
        have hfl : (frameL k f d).length = (numL k).length + (bodyL k f d).length := by simp [frameL]
        exact .inr ⟨k, h1, h2, hkk, hs, hL, htx, by omega, by omega, fun w1 G => encode_ok k h1 h2 f hkk d w1 (HW.gro G) hl HR hr hs hbl _ (Nat.le_refl _)⟩
  · exact .inl fun w1 _ => encode_none f hk w1
theorem dec_cut (so : Option Addr) (sc : Nat) (l : List Nat) (w : World) (H : NC w .u8 so sc l) (hl : l.length ≤ 140737488355000) (hD : decE l = .error 3) (n : Nat) (hn : l.length = n) : Calls Try.prog 14 #[.slice so n sc] w fun e w' => e = .returned (.tuple #[.agg (frA Fr.zero), .int .i64 3]) ∧ Gro w w' := by
  subst hn
  refine (decode_E so sc l w H hl 3 (by decide) hD).mono fun e w' h => ?_
  unfold DecP at h
  rw [hD] at h
  exact ⟨h.2, h.1⟩
set_option maxRecDepth 100000 in
set_option maxHeartbeats 4000000 in
theorem frameCuts_bad (w : World) (f : Fr) (cut : Int) (HE : Refused w f) : Calls Try.prog 8 #[.agg (c36 f.kind f.pw f.pn f.toA f.a f.b f.n f.fi f.fn f.ti f.tn f.tr f.ids f.key f.vn f.vw f.val f.op f.ttl f.tx), .int .i64 cut] w fun e w' => e = .returned (.bool true) ∧ Gro w w' := by
  refine s_enter Try.func8 rfl Try.ntmps8 [.agg (c36 f.kind f.pw f.pn f.toA f.a f.b f.n f.fi f.fn f.ti f.tn f.tr f.ids f.key f.vn f.vw f.val f.op f.ttl f.tx), .int .i64 cut] [.agg (c36 f.kind f.pw f.pn f.toA f.a f.b f.n f.fi f.fn f.ti f.tn f.tr f.ids f.key f.vn f.vw f.val f.op f.ttl f.tx), .int .i64 cut, undef, undef, undef, undef, undef, undef, undef, undef, undef, undef, undef, undef, undef, undef, undef, undef, undef, undef, undef, undef, undef, undef, undef, undef, undef, undef, undef, undef, undef, undef, undef, undef, undef, undef, undef, undef] rfl ?_
  have GG := Gro.refl w
  refine wp_seq ?_
  refine wp_region_lit ?_
  refine s_box 2 rfl rfl 36 _ rfl _ rfl (c36 f.kind f.pw f.pn f.toA f.a f.b f.n f.fi f.fn f.ti f.tn f.tr f.ids f.key f.vn f.vw f.val f.op f.ttl f.tx) rfl ?_
  intro w1 g1 G eg1 kg1
  have bg1 := size_base GG eg1
  replace GG := GG.trans G
  clear G eg1
  refine nr ?_; intro U h; simp only [z0, z1] at h; subst h
  refine s_val 4 rfl rfl (.bool false) (rfl) ?_
  refine nr ?_; intro U h; simp only [z0, z1] at h; subst h
  refine wpList_nil ?_
  refine then_n ?_
  refine wp_seq ?_
  refine wp_region_lit ?_
  refine s_val 10 rfl rfl (.agg (c36 f.kind f.pw f.pn f.toA f.a f.b f.n f.fi f.fn f.ti f.tn f.tr f.ids f.key f.vn f.vw f.val f.op f.ttl f.tx)) (run_lda 36 _ rfl g1 0 95 rfl 36 _ kg1 _ Try.underlying36 rfl si36 (Nat.le_of_ble_eq_true rfl) _ (by kernel_rfl)) ?_
  refine nr ?_; intro U h; simp only [z0, z1] at h; subst h
  refine s_callv 11 rfl rfl _ 10 Try.call10 rfl rfl _ rfl [.agg (c36 f.kind f.pw f.pn f.toA f.a f.b f.n f.fi f.fn f.ti f.tn f.tr f.ids f.key f.vn f.vw f.val f.op f.ttl f.tx)] rfl (HE _ GG) ?_
  intro w2 G
  replace kg1 := G.has kg1
  replace GG := GG.trans G
  clear G
  refine nr ?_; intro U h; simp only [z0, z1] at h; subst h
  refine s_val 9 rfl rfl (.tuple #[.slice none 0 0, .int .i64 1]) (rfl) ?_
  refine nr ?_; intro U h; simp only [z0, z1] at h; subst h
  refine s_val 12 rfl rfl (.slice none 0 0) (rfl) ?_
  refine nr ?_; intro U h; simp only [z0, z1] at h; subst h
  refine s_val 13 rfl rfl (.int .i64 1) (rfl) ?_
  refine nr ?_; intro U h; simp only [z0, z1] at h; subst h
  refine s_val 5 rfl rfl (.slice none 0 0) (rfl) ?_
  refine nr ?_; intro U h; simp only [z0, z1] at h; subst h
  refine s_val 6 rfl rfl (.int .i64 1) (rfl) ?_
  refine nr ?_; intro U h; simp only [z0, z1] at h; subst h
  refine wpList_nil ?_
  refine then_n ?_
  refine wp_seq ?_
  refine wp_seq ?_
  refine wp_region_lit ?_
  refine s_val 14 rfl rfl (.int .i64 1) (rfl) ?_
  refine nr ?_; intro U h; simp only [z0, z1] at h; subst h
  refine s_val 15 rfl rfl (.bool true) (run_neq_k 38 .i64 _ _ _ rfl Try.underlying38 _ _ rfl rfl true rfl _) ?_
  refine nr ?_; intro U h; simp only [z0, z1] at h; subst h
  refine wpList_nil ?_
  refine then_n ?_
  refine wp_cond_true rfl ?_
  refine wp_seq ?_
  refine wp_region_lit ?_
  refine s_callv 16 rfl rfl _ 12 Try.call12 rfl rfl _ rfl [] rfl (fixed_any _) ?_
  intro w3 G
  replace kg1 := G.has kg1
  replace GG := GG.trans G
  clear G
  refine nr ?_; intro U h; simp only [z0, z1] at h; subst h
  refine s_val 4 rfl rfl (.bool true) (rfl) ?_
  refine nr ?_; intro U h; simp only [z0, z1] at h; subst h
  refine wpList_nil ?_
  refine then_n ?_
  refine wp_ret ?_
  refine then_r ?_
  refine bodyPost_ret (results_tmp Try.results8 _ _ _) rfl ?_
  exact ⟨rfl, GG⟩
set_option maxRecDepth 100000 in
set_option maxHeartbeats 4000000 in
theorem frameCuts_ok (w : World) (f : Fr) (d : FD) (cut : Int) (HL : Laid w f d) : Calls Try.prog 8 #[.agg (c36 f.kind f.pw f.pn f.toA f.a f.b f.n f.fi f.fn f.ti f.tn f.tr f.ids f.key f.vn f.vw f.val f.op f.ttl f.tx), .int .i64 cut] w fun e w' => e = .returned (.bool true) ∧ Gro w w' := by
  refine s_enter Try.func8 rfl Try.ntmps8 [.agg (c36 f.kind f.pw f.pn f.toA f.a f.b f.n f.fi f.fn f.ti f.tn f.tr f.ids f.key f.vn f.vw f.val f.op f.ttl f.tx), .int .i64 cut] [.agg (c36 f.kind f.pw f.pn f.toA f.a f.b f.n f.fi f.fn f.ti f.tn f.tr f.ids f.key f.vn f.vw f.val f.op f.ttl f.tx), .int .i64 cut, undef, undef, undef, undef, undef, undef, undef, undef, undef, undef, undef, undef, undef, undef, undef, undef, undef, undef, undef, undef, undef, undef, undef, undef, undef, undef, undef, undef, undef, undef, undef, undef, undef, undef, undef, undef] rfl ?_
  have GG := Gro.refl w
  obtain ⟨k, h1, h2, hk, hs, hL, htx, hfl, hf0, HE⟩ := HL
  obtain ⟨F, hF⟩ : ∃ F, frameL k f d = F := ⟨_, rfl⟩
  have hcut := (dec_frame k h1 h2 f d hL).2
  simp only [hF] at hcut hfl hf0 HE
  refine wp_seq ?_
  refine wp_region_lit ?_
  refine s_box 2 rfl rfl 36 _ rfl _ rfl (c36 f.kind f.pw f.pn f.toA f.a f.b f.n f.fi f.fn f.ti f.tn f.tr f.ids f.key f.vn f.vw f.val f.op f.ttl f.tx) rfl ?_
  intro w1 g1 G eg1 kg1
  have bg1 := size_base GG eg1
  replace GG := GG.trans G
  clear G eg1
  refine nr ?_; intro U h; simp only [z0, z1] at h; subst h
  refine s_val 4 rfl rfl (.bool false) (rfl) ?_
  refine nr ?_; intro U h; simp only [z0, z1] at h; subst h
  refine wpList_nil ?_
  refine then_n ?_
  refine wp_seq ?_
  refine wp_region_lit ?_
  refine s_val 10 rfl rfl (.agg (c36 f.kind f.pw f.pn f.toA f.a f.b f.n f.fi f.fn f.ti f.tn f.tr f.ids f.key f.vn f.vw f.val f.op f.ttl f.tx)) (run_lda 36 _ rfl g1 0 95 rfl 36 _ kg1 _ Try.underlying36 rfl si36 (Nat.le_of_ble_eq_true rfl) _ (by kernel_rfl)) ?_
  refine nr ?_; intro U h; simp only [z0, z1] at h; subst h
  refine s_callx 11 rfl rfl _ 10 Try.call10 rfl rfl _ rfl [.agg (c36 f.kind f.pw f.pn f.toA f.a f.b f.n f.fi f.fn f.ti f.tn f.tr f.ids f.key f.vn f.vw f.val f.op f.ttl f.tx)] rfl (HE _ GG) (fun _ _ ⟨_, _, he, _⟩ => ⟨_, he⟩) ?_
  rintro v w2 ⟨ao, cap, he, HO, G⟩
  cases he
  replace kg1 := G.has kg1
  replace GG := GG.trans G
  clear G
  have hcap := HO.nc.fit
  refine nr ?_; intro U h; simp only [z0, z1] at h; subst h
  refine s_val 9 rfl rfl (.tuple #[.slice ao F.length cap, .int .i64 0]) (rfl) ?_
  refine nr ?_; intro U h; simp only [z0, z1] at h; subst h
  refine s_val 12 rfl rfl (.slice ao F.length cap) (rfl) ?_
  refine nr ?_; intro U h; simp only [z0, z1] at h; subst h
  refine s_val 13 rfl rfl (.int .i64 0) (rfl) ?_
  refine nr ?_; intro U h; simp only [z0, z1] at h; subst h
  refine s_val 5 rfl rfl (.slice ao F.length cap) (rfl) ?_
  refine nr ?_; intro U h; simp only [z0, z1] at h; subst h
  refine s_val 6 rfl rfl (.int .i64 0) (rfl) ?_
  refine nr ?_; intro U h; simp only [z0, z1] at h; subst h
  refine wpList_nil ?_
  refine then_n ?_
  refine wp_seq ?_
  refine wp_seq ?_
  refine wp_region_lit ?_
  refine s_val 14 rfl rfl (.int .i64 0) (rfl) ?_
  refine nr ?_; intro U h; simp only [z0, z1] at h; subst h
  refine s_val 15 rfl rfl (.bool false) (run_neq_k 38 .i64 _ _ _ rfl Try.underlying38 _ _ rfl rfl false rfl _) ?_
  refine nr ?_; intro U h; simp only [z0, z1] at h; subst h
  refine wpList_nil ?_
  refine then_n ?_
  refine wp_cond_false rfl ?_
  refine wp_skip ?_
  refine then_n ?_
  refine wp_seq ?_
  refine wp_seq ?_
  refine wp_region_lit ?_
  refine s_val 17 rfl rfl (.slice ao F.length cap) (rfl) ?_
  refine nr ?_; intro U h; simp only [z0, z1] at h; subst h
  refine s_val 18 rfl rfl (.int .i64 ((F.length : Nat) : Int)) (run_len Try.underlying32 _ rfl _ _ _ rfl _) ?_
  refine nr ?_; intro U h; simp only [z0, z1] at h; subst h
  refine s_val 19 rfl rfl (.bool false) (run_eq_k 3 .i64 _ _ _ rfl Try.underlying3 ((F.length : Nat) : Int) 0 rfl rfl false (decide_eq_false (by omega)) _) ?_
  refine nr ?_; intro U h; simp only [z0, z1] at h; subst h
  refine wpList_nil ?_
  refine then_n ?_
  refine wp_cond_false rfl ?_
  refine wp_skip ?_
  refine then_n ?_
  refine wp_seq ?_
  refine wp_region_lit ?_
  have hc : uN cut % F.length < F.length := Nat.mod_lt _ hf0
  refine s_val 21 rfl rfl (.slice ao F.length cap) (rfl) ?_
  refine nr ?_; intro U h; simp only [z0, z1] at h; subst h
  refine s_val 22 rfl rfl (.int .i64 cut) (rfl) ?_
  refine nr ?_; intro U h; simp only [z0, z1] at h; subst h
  refine s_val 23 rfl rfl (.int .u64 ((uN cut : Nat) : Int)) (conv356 _ rfl cut rfl _) ?_
  refine nr ?_; intro U h; simp only [z0, z1] at h; subst h
  refine s_val 24 rfl rfl (.slice ao F.length cap) (rfl) ?_
  refine nr ?_; intro U h; simp only [z0, z1] at h; subst h
  refine s_val 25 rfl rfl (.int .i64 ((F.length : Nat) : Int)) (run_len Try.underlying32 _ rfl _ _ _ rfl _) ?_
  refine nr ?_; intro U h; simp only [z0, z1] at h; subst h
  refine s_val 26 rfl rfl (.int .u64 ((F.length : Nat) : Int)) ((conv356 _ rfl ((F.length : Nat) : Int) rfl _).trans (by rw [uN_nat _ (by omega)])) ?_
  refine nr ?_; intro U h; simp only [z0, z1] at h; subst h
  refine s_val 27 rfl rfl (.int .u64 ((uN cut % F.length : Nat) : Int)) (run_remN 56 56 _ _ rfl (uN cut) F.length rfl rfl (by omega) _) ?_
  refine nr ?_; intro U h; simp only [z0, z1] at h; subst h
  refine s_val 28 rfl rfl (.int .i64 ((uN cut % F.length : Nat) : Int)) (conv563 _ rfl (uN cut % F.length) (by omega) rfl _) ?_
  refine nr ?_; intro U h; simp only [z0, z1] at h; subst h
  refine s_val 29 rfl rfl (.slice ao (uN cut % F.length) cap) (run_cut0 bT _ _ rfl ao F.length cap (uN cut % F.length) rfl rfl (by omega) _) ?_
  refine nr ?_; intro U h; simp only [z0, z1] at h; subst h
  refine s_callv 30 rfl rfl _ 14 Try.call14 rfl rfl _ rfl [.slice ao (uN cut % F.length) cap] rfl (dec_cut ao cap (F.take (uN cut % F.length)) _ (HO.nc.take _ (by omega)) (by rw [List.length_take]; omega) (hcut _ hc) (uN cut % F.length) (by rw [List.length_take]; omega)) ?_
  intro w3 G
  replace kg1 := G.has kg1
  replace HO := HO.gro G
  replace GG := GG.trans G
  clear G
  refine nr ?_; intro U h; simp only [z0, z1] at h; subst h
  refine s_val 20 rfl rfl (.tuple #[.agg (c36 0 zF 0 false zF zF 0 0 0 0 0 Sl.nil Sl.nil zF 0 zF Sl.nil 0 0 Sl.nil), .int .i64 3]) (rfl) ?_
  refine nr ?_; intro U h; simp only [z0, z1] at h; subst h
  refine s_val 31 rfl rfl (.agg (c36 0 zF 0 false zF zF 0 0 0 0 0 Sl.nil Sl.nil zF 0 zF Sl.nil 0 0 Sl.nil)) (rfl) ?_
  refine nr ?_; intro U h; simp only [z0, z1] at h; subst h
  refine s_val 32 rfl rfl (.int .i64 3) (rfl) ?_
  refine nr ?_; intro U h; simp only [z0, z1] at h; subst h
  refine s_alloc 7 rfl rfl 36 rfl _ zv36 _ rfl ?_
  intro w4 g2 G eg2 kg2
  have bg2 := size_base GG eg2
  have dg1g2 := lt_new kg1 eg2
  replace kg1 := G.has kg1
  replace GG := GG.trans G
  clear G eg2
  refine nr ?_; intro U h; simp only [z0, z1] at h; subst h
  refine s_store rfl rfl 36 _ _ rfl g2 0 rfl (.agg (c36 0 zF 0 false zF zF 0 0 0 0 0 Sl.nil Sl.nil zF 0 zF Sl.nil 0 0 Sl.nil)) rfl 36 _ kg2 (c36 0 zF 0 false zF zF 0 0 0 0 0 Sl.nil Sl.nil zF 0 zF Sl.nil 0 0 Sl.nil) rfl (by kernel_rfl) (Nat.le_of_ble_eq_true rfl) (by kernel_rfl) (c36 0 zF 0 false zF zF 0 0 0 0 0 Sl.nil Sl.nil zF 0 zF Sl.nil 0 0 Sl.nil) (by kernel_rfl) ?_
  intro w6 St
  replace kg1 := St.has (by omega) kg1
  replace GG := GG.store St bg2
  replace kg2 := St.new
  clear St
  refine s_val 8 rfl rfl (.int .i64 3) (rfl) ?_
  refine nr ?_; intro U h; simp only [z0, z1] at h; subst h
  refine wpList_nil ?_
  refine then_n ?_
  refine wp_seq ?_
  refine wp_region_opq ?_
  intro OPS hY
  have y1 := hY 1 34 rfl
  clear hY
  refine s_callv 33 rfl rfl _ 12 Try.call12 rfl rfl _ rfl [] rfl (fixed_any _) ?_
  intro w7 G
  replace kg1 := G.has kg1
  replace kg2 := G.has kg2
  replace GG := GG.trans G
  clear G
  refine nr ?_; intro U h; simp only [z0, z1] at h; subst h
  refine s_val 34 rfl rfl (.bool true) (rfl) ?_
  refine nr ?_; intro U h; simp only [z0, z1] at h; subst h
  refine s_gvalY 35 rfl rfl y1 rfl (.int .i64 3) (rfl) ?_
  refine nr ?_; intro U h; simp only [z0, z1] at h; subst h
  refine s_gvalY 36 rfl rfl y1 rfl (.bool true) (run_eq_k 38 .i64 _ _ _ rfl Try.underlying38 _ _ rfl rfl true rfl _) ?_
  refine nr ?_; intro U h; simp only [z0, z1] at h; subst h
  refine s_val 37 rfl rfl (.bool true) (rfl) ?_
  refine nr ?_; intro U h; simp only [z0, z1] at h; subst h
  refine s_val 4 rfl rfl (.bool true) (rfl) ?_
  refine nr ?_; intro U h; simp only [z0, z1] at h; subst h
  refine wpList_nil ?_
  refine then_n ?_
  refine wp_ret ?_
  refine bodyPost_ret (results_tmp Try.results8 _ _ _) rfl ?_
  exact ⟨rfl, GG⟩
theorem frameCuts_any (w : World) (f : Fr) (d : FD) (HW : FrW w f d) (hl : Lens d) (HR : FrR f) (cut : Int) : Calls Try.prog 8 #[.agg (frA f), .int .i64 cut] w fun e w' => e = .returned (.bool true) ∧ Gro w w' := by
  rcases enc_way w f d HW hl HR with h | h
  · exact frameCuts_bad w f cut h
  · exact frameCuts_ok w f d cut h
end Go.Proofs.Ythmcnlmphikicaa
