/- FrameOne. -/
import Derived.Test.YthmcnlmphikicaaH4
namespace Go.Proofs.Ythmcnlmphikicaa
open Go.RowKit

theorem FrO.lt {w : World} {B g : Nat} {f : Fr} {d : FD} (_h : FrO w B f d) (e : w.heap.size = g) : w.heap.size = g := e
theorem ox_apart' {w w' : World} {e : TypeId} {sz B g : Nat} {ao : Option Addr} {cap n : Nat} {cs : List Value} {x : Obj} (h : OX w e sz B ao cap n cs) (S : Stored w w' g x) (hg : ∀ ad, ao = some ad → ad.block ≠ g) : OX w' e sz B ao cap n cs := h.apart S hg
/-- A store into a block that is younger than all rows. -/
structure Young (g : Nat) (f : Fr) : Prop where
  tr : ∀ ad, f.tr.ao = some ad → ad.block < g
  ids : ∀ ad, f.ids.ao = some ad → ad.block < g
  val : ∀ ad, f.val.ao = some ad → ad.block < g
  tx : ∀ ad, f.tx.ao = some ad → ad.block < g
theorem FrO.young {w : World} {B : Nat} {f : Fr} {d : FD} (h : FrO w B f d) {g : Nat} (e : w.heap.size = g) : Young g f := ⟨fun ad ha => e ▸ (h.tr.ge ad ha).2, fun ad ha => e ▸ (h.ids.ge ad ha).2, fun ad ha => e ▸ (h.val.ge ad ha).2, fun ad ha => e ▸ (h.tx.ge ad ha).2⟩
theorem FrO.apartY {w w' : World} {B g : Nat} {f : Fr} {d : FD} {x : Obj} (h : FrO w B f d) (S : Stored w w' g x) (Y : Young g f) : FrO w' B f d :=
  ⟨h.tr.apart S (fun ad ha => Nat.ne_of_lt (Y.tr ad ha)), h.ids.apart S (fun ad ha => Nat.ne_of_lt (Y.ids ad ha)), h.val.apart S (fun ad ha => Nat.ne_of_lt (Y.val ad ha)), h.tx.apart S (fun ad ha => Nat.ne_of_lt (Y.tx ad ha)), h.oids, h.oval, h.otx⟩
theorem dec_sizes {l : List Nat} (hl : ∀ y ∈ l, y < 256) {a : Nat × Fr × FD} (h : decE l = .ok a) : a.2.2.tr.length ≤ 17592186044416 ∧ a.2.2.ids.length ≤ 8796093022208 ∧ a.2.2.val.length ≤ 140737488355328 ∧ a.2.2.tx.length ≤ 140737488355328 := by
  obtain ⟨_, _, _, _, I, _⟩ := dec_frameL hl h
  have := I.tr
  have := I.ids
  have := I.val
  have := I.tx
  omega
set_option maxRecDepth 100000 in
set_option maxHeartbeats 4000000 in
theorem one_E (so : Option Addr) (sc : Nat) (l : List Nat) (w : World) (H : NC w .u8 so sc l) (hl : l.length ≤ 140737488355000) (x : Nat) (hD : decE l = .error x) : Calls Try.prog 7 #[.slice so l.length sc] w fun e w' => e = .returned (.bool true) ∧ Gro w w' := by
  refine s_enter Try.func7 rfl Try.ntmps7 [.slice so l.length sc] [.slice so l.length sc, undef, undef, undef, undef, undef, undef, undef, undef, undef, undef, undef, undef, undef, undef, undef, undef, undef, undef, undef, undef, undef, undef, undef, undef, undef, undef, undef, undef, undef, undef, undef, undef, undef, undef, undef, undef] rfl ?_
  have GG := Gro.refl w
  refine wp_seq ?_
  refine wp_region_lit ?_
  refine s_val 2 rfl rfl (.bool false) (rfl) ?_
  simp only [z0, z1]
  refine wpList_nil ?_
  refine then_n ?_
  refine wp_seq ?_
  refine wp_region_lit ?_
  refine s_val 8 rfl rfl (.slice so l.length sc) (rfl) ?_
  simp only [z0, z1]
  have HC := decode_E so sc l _ (H.gro GG) hl x (nzD hD) hD
  unfold DecP at HC
  rw [hD] at HC
  refine s_callx 9 rfl rfl _ 14 Try.call14 rfl rfl _ rfl [.slice so l.length sc] rfl HC (fun _ _ ⟨_, he⟩ => ⟨_, he⟩) ?_
  rintro v w1 ⟨G, he⟩
  cases he
  replace GG := GG.trans G
  clear G
  clear HC
  simp only [z0, z1]
  refine s_val 7 rfl rfl (.tuple #[.agg (c36 0 zF 0 false zF zF 0 0 0 0 0 Sl.nil Sl.nil zF 0 zF Sl.nil 0 0 Sl.nil), .int .i64 ((x : Nat) : Int)]) (rfl) ?_
  simp only [z0, z1]
  refine s_val 10 rfl rfl (.agg (c36 0 zF 0 false zF zF 0 0 0 0 0 Sl.nil Sl.nil zF 0 zF Sl.nil 0 0 Sl.nil)) (rfl) ?_
  simp only [z0, z1]
  refine s_val 11 rfl rfl (.int .i64 ((x : Nat) : Int)) (rfl) ?_
  simp only [z0, z1]
  refine s_alloc 3 rfl rfl 36 rfl _ zv36 _ rfl ?_
  intro w2 g1 G eg1 kg1
  have bg1 := size_base GG eg1
  replace GG := GG.trans G
  clear G eg1
  simp only [z0, z1]
  refine s_store rfl rfl 36 _ _ rfl g1 0 rfl (.agg (c36 0 zF 0 false zF zF 0 0 0 0 0 Sl.nil Sl.nil zF 0 zF Sl.nil 0 0 Sl.nil)) rfl 36 _ kg1 (c36 0 zF 0 false zF zF 0 0 0 0 0 Sl.nil Sl.nil zF 0 zF Sl.nil 0 0 Sl.nil) rfl (by kernel_rfl) (Nat.le_of_ble_eq_true rfl) (by kernel_rfl) (c36 0 zF 0 false zF zF 0 0 0 0 0 Sl.nil Sl.nil zF 0 zF Sl.nil 0 0 Sl.nil) (by kernel_rfl) ?_
  intro w4 S
  replace GG := GG.store S bg1
  replace kg1 := S.new
  clear S
  refine s_val 4 rfl rfl (.int .i64 ((x : Nat) : Int)) (rfl) ?_
  simp only [z0, z1]
  refine wpList_nil ?_
  refine then_n ?_
  refine wp_seq ?_
  refine wp_seq ?_
  refine wp_region_lit ?_
  refine s_val 12 rfl rfl (.int .i64 ((x : Nat) : Int)) (rfl) ?_
  simp only [z0, z1]
  refine s_val 13 rfl rfl (.bool true) (run_neqT 38 .i64 _ _ _ rfl Try.underlying38 _ _ rfl rfl (decide_eq_false (by have := nzD hD; omega)) _) ?_
  simp only [z0, z1]
  refine wpList_nil ?_
  refine then_n ?_
  refine wp_cond_true rfl ?_
  refine wp_seq ?_
  refine wp_region_opq ?_
  intro OPS hY
  have y1 := hY 1 15 rfl
  clear hY
  refine s_callv 14 rfl rfl _ 12 Try.call12 rfl rfl _ rfl [] rfl (fixed_any _) ?_
  intro w5 G
  replace kg1 := G.has kg1
  replace GG := GG.trans G
  clear G
  simp only [z0, z1]
  refine s_val 15 rfl rfl (.bool true) (rfl) ?_
  simp only [z0, z1]
  refine s_gvalY 16 rfl rfl y1 rfl (.agg (c36 0 zF 0 false zF zF 0 0 0 0 0 Sl.nil Sl.nil zF 0 zF Sl.nil 0 0 Sl.nil)) (run_lda 36 _ rfl g1 0 95 rfl 36 _ kg1 _ Try.underlying36 rfl si36 (Nat.le_of_ble_eq_true rfl) _ (by kernel_rfl)) ?_
  simp only [z0, z1]
  refine s_gvalY 17 rfl rfl y1 rfl (.agg (c36 0 zF 0 false zF zF 0 0 0 0 0 Sl.nil Sl.nil zF 0 zF Sl.nil 0 0 Sl.nil)) (run_bd 36 _ rfl [] rfl _ (by kernel_rfl)) ?_
  simp only [z0, z1]
  refine s_gcallvY 18 rfl rfl y1 rfl _ 13 Try.call13 rfl rfl _ rfl [.agg (c36 0 zF 0 false zF zF 0 0 0 0 0 Sl.nil Sl.nil zF 0 zF Sl.nil 0 0 Sl.nil), .agg (c36 0 zF 0 false zF zF 0 0 0 0 0 Sl.nil Sl.nil zF 0 zF Sl.nil 0 0 Sl.nil)] rfl (same0 _) ?_
  intro w6 G
  replace kg1 := G.has kg1
  replace GG := GG.trans G
  clear G
  simp only [z0, z1]
  refine s_val 19 rfl rfl (.bool true) (rfl) ?_
  simp only [z0, z1]
  refine s_val 2 rfl rfl (.bool true) (rfl) ?_
  simp only [z0, z1]
  refine wpList_nil ?_
  refine then_n ?_
  refine wp_ret ?_
  refine then_r ?_
  refine bodyPost_ret (results_tmp Try.results7 _ _ _) rfl ?_
  exact ⟨rfl, GG⟩
set_option maxRecDepth 100000 in
set_option maxHeartbeats 4000000 in
theorem one_OK (so : Option Addr) (sc : Nat) (l : List Nat) (w : World) (H : NC w .u8 so sc l) (hl : l.length ≤ 140737488355000) (a : Nat × Fr × FD) (hD : decE l = .ok a) : Calls Try.prog 7 #[.slice so l.length sc] w fun e w' => e = .returned (.bool true) ∧ Gro w w' := by
  have hsz := dec_sizes H.lt256 hD
  refine s_enter Try.func7 rfl Try.ntmps7 [.slice so l.length sc] [.slice so l.length sc, undef, undef, undef, undef, undef, undef, undef, undef, undef, undef, undef, undef, undef, undef, undef, undef, undef, undef, undef, undef, undef, undef, undef, undef, undef, undef, undef, undef, undef, undef, undef, undef, undef, undef, undef, undef] rfl ?_
  have GG := Gro.refl w
  refine wp_seq ?_
  refine wp_region_lit ?_
  refine s_val 2 rfl rfl (.bool false) (rfl) ?_
  simp only [z0, z1]
  refine wpList_nil ?_
  refine then_n ?_
  refine wp_seq ?_
  refine wp_region_lit ?_
  refine s_val 8 rfl rfl (.slice so l.length sc) (rfl) ?_
  simp only [z0, z1]
  have HC := decode_OK so sc l _ (H.gro GG) hl a hD hsz
  unfold DecP at HC
  rw [hD] at HC
  refine s_callx 9 rfl rfl _ 14 Try.call14 rfl rfl _ rfl [.slice so l.length sc] rfl HC (fun _ _ ⟨_, _, he, _⟩ => ⟨_, he⟩) ?_
  rintro v w1 ⟨G, gg, he, hgg, HO⟩
  cases he
  replace GG := GG.trans G
  clear G
  clear HC
  simp only [z0, z1]
  refine s_val 7 rfl rfl (.tuple #[.agg (c36 gg.kind gg.pw gg.pn gg.toA gg.a gg.b gg.n gg.fi gg.fn gg.ti gg.tn gg.tr gg.ids gg.key gg.vn gg.vw gg.val gg.op gg.ttl gg.tx), .int .i64 0]) (rfl) ?_
  simp only [z0, z1]
  refine s_val 10 rfl rfl (.agg (c36 gg.kind gg.pw gg.pn gg.toA gg.a gg.b gg.n gg.fi gg.fn gg.ti gg.tn gg.tr gg.ids gg.key gg.vn gg.vw gg.val gg.op gg.ttl gg.tx)) (rfl) ?_
  simp only [z0, z1]
  refine s_val 11 rfl rfl (.int .i64 0) (rfl) ?_
  simp only [z0, z1]
  refine s_alloc 3 rfl rfl 36 rfl _ zv36 _ rfl ?_
  intro w2 g1 G eg1 kg1
  have hog1 := HO.young eg1
  have bg1 := size_base GG eg1
  replace HO := HO.gro G
  replace GG := GG.trans G
  clear G eg1
  simp only [z0, z1]
  refine s_store rfl rfl 36 _ _ rfl g1 0 rfl (.agg (c36 gg.kind gg.pw gg.pn gg.toA gg.a gg.b gg.n gg.fi gg.fn gg.ti gg.tn gg.tr gg.ids gg.key gg.vn gg.vw gg.val gg.op gg.ttl gg.tx)) rfl 36 _ kg1 (c36 gg.kind gg.pw gg.pn gg.toA gg.a gg.b gg.n gg.fi gg.fn gg.ti gg.tn gg.tr gg.ids gg.key gg.vn gg.vw gg.val gg.op gg.ttl gg.tx) rfl (by kernel_rfl) (Nat.le_of_ble_eq_true rfl) (by kernel_rfl) (c36 gg.kind gg.pw gg.pn gg.toA gg.a gg.b gg.n gg.fi gg.fn gg.ti gg.tn gg.tr gg.ids gg.key gg.vn gg.vw gg.val gg.op gg.ttl gg.tx) (by kernel_rfl) ?_
  intro w4 S
  replace GG := GG.store S bg1
  replace kg1 := S.new
  replace HO := HO.apartY S hog1
  clear S
  refine s_val 4 rfl rfl (.int .i64 0) (rfl) ?_
  simp only [z0, z1]
  refine wpList_nil ?_
  refine then_n ?_
  refine wp_seq ?_
  refine wp_seq ?_
  refine wp_region_lit ?_
  refine s_val 12 rfl rfl (.int .i64 0) (rfl) ?_
  simp only [z0, z1]
  refine s_val 13 rfl rfl (.bool false) (run_neq_k 38 .i64 _ _ _ rfl Try.underlying38 _ _ rfl rfl false rfl _) ?_
  simp only [z0, z1]
  refine wpList_nil ?_
  refine then_n ?_
  refine wp_cond_false rfl ?_
  refine wp_skip ?_
  refine then_n ?_
  refine wp_seq ?_
  refine wp_region_lit ?_
  refine s_val 21 rfl rfl (.agg (c36 gg.kind gg.pw gg.pn gg.toA gg.a gg.b gg.n gg.fi gg.fn gg.ti gg.tn gg.tr gg.ids gg.key gg.vn gg.vw gg.val gg.op gg.ttl gg.tx)) (run_lda 36 _ rfl g1 0 95 rfl 36 _ kg1 _ Try.underlying36 rfl si36 (Nat.le_of_ble_eq_true rfl) _ (by kernel_rfl)) ?_
  simp only [z0, z1]
  refine s_callx 22 rfl rfl _ 10 Try.call10 rfl rfl _ rfl [.agg (c36 gg.kind gg.pw gg.pn gg.toA gg.a gg.b gg.n gg.fi gg.fn gg.ti gg.tn gg.tr gg.ids gg.key gg.vn gg.vw gg.val gg.op gg.ttl gg.tx)] rfl (enc_dec H.lt256 hD gg hgg _ HO.frw) (fun _ _ ⟨_, _, he, _⟩ => ⟨_, he⟩) ?_
  rintro v w5 ⟨ao1, cap1, he, o1, G⟩
  cases he
  replace HO := HO.gro G
  replace kg1 := G.has kg1
  replace GG := GG.trans G
  clear G
  simp only [z0, z1]
  refine s_val 20 rfl rfl (.tuple #[.slice ao1 l.length cap1, .int .i64 0]) (rfl) ?_
  simp only [z0, z1]
  refine s_val 23 rfl rfl (.slice ao1 l.length cap1) (rfl) ?_
  simp only [z0, z1]
  refine s_val 24 rfl rfl (.int .i64 0) (rfl) ?_
  simp only [z0, z1]
  refine s_val 5 rfl rfl (.slice ao1 l.length cap1) (rfl) ?_
  simp only [z0, z1]
  refine s_val 6 rfl rfl (.int .i64 0) (rfl) ?_
  simp only [z0, z1]
  refine wpList_nil ?_
  refine then_n ?_
  refine wp_seq ?_
  refine wp_region_opq ?_
  intro OPS hY
  have y1 := hY 1 26 rfl
  have y5 := hY 5 30 rfl
  clear hY
  refine s_callv 25 rfl rfl _ 12 Try.call12 rfl rfl _ rfl [] rfl (fixed_any _) ?_
  intro w6 G
  replace HO := HO.gro G
  replace o1 := o1.gro G
  replace kg1 := G.has kg1
  replace GG := GG.trans G
  clear G
  simp only [z0, z1]
  refine s_val 26 rfl rfl (.bool true) (rfl) ?_
  simp only [z0, z1]
  refine s_gvalY 27 rfl rfl y1 rfl (.int .i64 0) (rfl) ?_
  simp only [z0, z1]
  refine s_gvalY 28 rfl rfl y1 rfl (.bool true) (run_eq_k 38 .i64 _ _ _ rfl Try.underlying38 _ _ rfl rfl true rfl _) ?_
  simp only [z0, z1]
  refine s_val 29 rfl rfl (.bool true) (rfl) ?_
  simp only [z0, z1]
  refine s_val 30 rfl rfl (.bool true) (rfl) ?_
  simp only [z0, z1]
  refine s_gvalY 31 rfl rfl y5 rfl (.slice so l.length sc) (rfl) ?_
  simp only [z0, z1]
  refine s_gvalY 32 rfl rfl y5 rfl (.string (bas l)) (run_text_op bT 9 Try.underlying9 _ rfl (l := l) rfl (H.gro GG)) ?_
  simp only [z0, z1]
  refine s_gvalY 33 rfl rfl y5 rfl (.slice ao1 l.length cap1) (rfl) ?_
  simp only [z0, z1]
  refine s_gvalY 34 rfl rfl y5 rfl (.string (bas l)) (run_text_op bT 9 Try.underlying9 _ rfl (l := l) rfl o1.nc) ?_
  simp only [z0, z1]
  refine s_gvalY 35 rfl rfl y5 rfl (.bool true) (run_eqs_op _ _ _ rfl _ _ rfl rfl true (by simp) _) ?_
  simp only [z0, z1]
  refine s_val 36 rfl rfl (.bool true) (rfl) ?_
  simp only [z0, z1]
  refine s_val 2 rfl rfl (.bool true) (rfl) ?_
  simp only [z0, z1]
  refine wpList_nil ?_
  refine then_n ?_
  refine wp_ret ?_
  refine bodyPost_ret (results_tmp Try.results7 _ _ _) rfl ?_
  exact ⟨rfl, GG⟩
theorem frameOne_any (so : Option Addr) (sc : Nat) (l : List Nat) (w : World) (H : NC w .u8 so sc l) (hl : l.length ≤ 140737488355000) : Calls Try.prog 7 #[.slice so l.length sc] w fun e w' => e = .returned (.bool true) ∧ Gro w w' := by
  cases hD : decE l with
  | error x => exact one_E so sc l w H hl x hD
  | ok a => exact one_OK so sc l w H hl a hD
end Go.Proofs.Ythmcnlmphikicaa
